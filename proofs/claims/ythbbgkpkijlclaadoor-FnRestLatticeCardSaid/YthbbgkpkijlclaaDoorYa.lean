/-
  The model's draws of rests: l9Rest.
-/
import Derived.Test.YthbbgkpkijlclaaDoorVa
import Derived.Test.YthbbgkpkijlclaaDoorSp8
namespace Go.Proofs.YthbbgkpkijlclaaDoor.num
open Go.ChangeShapes Go.WideShapes Go.ChangeAt Go.RowKit
set_option linter.unusedVariables false
theorem pick6 (w : World) (i : Nat) (m : Int) (hi : (#[64, 4096, 65536, 65535, 32768, 60000] : Array Int)[i]? = some m) :
    (w.alloc (Obj.cells #[.int .i64 64, .int .i64 4096, .int .i64 65536, .int .i64 65535, .int .i64 32768, .int .i64 60000] 3)).cell? ⟨w.heap.size, i, none⟩ = some (.int .i64 m) := by
  match i, hi with
  | 0, hi => simp at hi; subst hi; simp [go_sem]
  | 1, hi => simp at hi; subst hi; simp [go_sem]
  | 2, hi => simp at hi; subst hi; simp [go_sem]
  | 3, hi => simp at hi; subst hi; simp [go_sem]
  | 4, hi => simp at hi; subst hi; simp [go_sem]
  | 5, hi => simp at hi; subst hi; simp [go_sem]
  | n + 6, hi => simp at hi
theorem six {w : World} {b : Nat} {v : Int} (h : ∀ (i : Nat) (m : Int), (#[64, 4096, 65536, 65535, 32768, 60000] : Array Int)[i]? = some m → w.cell? ⟨b, i, none⟩ = some (.int .i64 m)) (h0 : 0 ≤ v) (h1 : v < 6) :
    ∃ m : Int, w.cell? ⟨b, v.toNat, none⟩ = some (.int .i64 m) ∧ 1 ≤ m ∧ m ≤ 65536 := by
  rcases (show v = 0 ∨ v = 1 ∨ v = 2 ∨ v = 3 ∨ v = 4 ∨ v = 5 by omega) with rfl | rfl | rfl | rfl | rfl | rfl
  · exact ⟨64, h 0 64 rfl, by omega, by omega⟩
  · exact ⟨4096, h 1 4096 rfl, by omega, by omega⟩
  · exact ⟨65536, h 2 65536 rfl, by omega, by omega⟩
  · exact ⟨65535, h 3 65535 rfl, by omega, by omega⟩
  · exact ⟨32768, h 4 32768 rfl, by omega, by omega⟩
  · exact ⟨60000, h 5 60000 rfl, by omega, by omega⟩
set_option maxRecDepth 100000 in
set_option maxHeartbeats 4000000 in
theorem l9Rest_rk (w0 w : World) (r B : Nat) (h : Rk w0 r B w) (hk : B ≤ 800000000000) :
    Calls Tryd.prog 161 #[.pointer (some ⟨r, 0, none⟩)] w fun e w' => (∃ lo hi : Int, e = .returned (.agg #[.int .i64 lo, .int .i64 hi])) ∧ Rk w0 r (B + 20) w' := by
  have hr := h.lt
  obtain ⟨W, hW, d0, d1, hlt, hB, y0, y1, hsz⟩ := box2 w (.int .i64 0) (.int .i64 0) 26
  have hne : w.heap.size ≠ r := by omega
  have h0 := h
  have h := (h.call hB).here
  have hup : ∀ {w'}, Rk w r (B + 20) w' → Rk w0 r (B + 20) w' := fun k => h0.trans k
  have hdn : ∀ {n w'}, Rk W r n w' → Rk w r n w' := fun k => (h0.here.call hB).trans k
  go_enter Tryd.func161, Tryd.ntmps161
  go_wp2_with fail
  rw [← hW]
  clear hW h0
  go_wp2_with (first | (go_at_call 109; refine (pick_rk _ _ _ _ _ h (by omega) (by omega) (by omega)).mono ?_; rintro e wx ⟨v, rfl, v0, v1, h⟩; have c0 := h.cell (b := w.heap.size) (o := 0) (v := .int .i64 0) hlt hne d0; have c1 := h.cell (b := w.heap.size) (o := 1) (v := .int .i64 0) hlt hne d1; have z0 := h.fz (b := w.heap.size) (o := 0) hlt hne y0; have z1 := h.fz (b := w.heap.size) (o := 1) hlt hne y1) | (go_at_call 109; have hsz6 := h.size; have hlt6 := h.lt; have hbA := (Below.refl wx.heap.size wx).alloc (Nat.le_refl _) (Obj.cells #[.int .i64 64, .int .i64 4096, .int .i64 65536, .int .i64 65535, .int .i64 32768, .int .i64 60000] 3); refine (pick_rk _ _ _ _ _ (h.call hbA).here (by omega) (by omega) (by omega)).mono ?_; rintro e wy ⟨v6, rfl, v60, v61, h1⟩; have hqq : ∀ (i : Nat) (m : Int), (#[64, 4096, 65536, 65535, 32768, 60000] : Array Int)[i]? = some m → wy.cell? ⟨wx.heap.size, i, none⟩ = some (.int .i64 m) := fun i m hi => h1.cell (by simp) (by omega) (pick6 wx i m hi); obtain ⟨m6, q6, n60, n61⟩ := six hqq v60 v61; replace h := (h.call hbA).trans h1; clear hqq h1 hbA; have c0 := h.cell (b := w.heap.size) (o := 0) (v := .int .i64 0) hlt hne d0; have c1 := h.cell (b := w.heap.size) (o := 1) (v := .int .i64 0) hlt hne d1; have z0 := h.fz (b := w.heap.size) (o := 0) hlt hne y0; have z1 := h.fz (b := w.heap.size) (o := 1) hlt hne y1) | (go_at_call 140; refine (num_rk _ _ _ _ h (by omega)).mono ?_; rintro e wx ⟨v, rfl, v0, v1, h⟩; have c0 := h.cell (b := w.heap.size) (o := 0) (v := .int .i64 0) hlt hne d0; have c1 := h.cell (b := w.heap.size) (o := 1) (v := .int .i64 0) hlt hne d1; have z0 := h.fz (b := w.heap.size) (o := 0) hlt hne y0; have z1 := h.fz (b := w.heap.size) (o := 1) hlt hne y1) | (go_at_call 153; refine (l9All_any _).mono ?_; rintro e wx ⟨rfl, hb⟩; replace h := h.call hb; have c0 := h.cell (b := w.heap.size) (o := 0) (v := .int .i64 0) hlt hne d0; have c1 := h.cell (b := w.heap.size) (o := 1) (v := .int .i64 0) hlt hne d1; have z0 := h.fz (b := w.heap.size) (o := 0) hlt hne y0; have z1 := h.fz (b := w.heap.size) (o := 1) hlt hne y1))
  all_goals refine bodyPost_ret (results_two rfl _ _ w.heap.size _ _ _ rfl (fill0 c0) (fill1 c0 c1) Tryd.underlying26 rfl (by kernel_rfl)) rfl ?_
  all_goals exact ⟨⟨_, _, rfl⟩, hup (((hdn (h.more (by omega))).set (Nat.le_refl _) _).set (Nat.le_refl _) _)⟩
end Go.Proofs.YthbbgkpkijlclaaDoor.num
