/-
  Draws of rests; the laws' numbers of a rest.
-/
import Derived.Test.YthbbgkpkijlclaaDoorVa
import Derived.Test.YthbbgkpkijlclaaDoorSp8
import Derived.Test.YthbbgkpkijlclaaDoorAt8
import Derived.Test.YthbbgkpkijlclaaDoorSa
import Derived.Test.YthbbgkpkijlclaaDoorBits
import Derived.Test.YthbbgkpkijlclaaDoorUa
import Derived.Test.YthbbgkpkijlclaaDoorOp
namespace Go.Proofs.YthbbgkpkijlclaaDoor.num
open Go.ChangeShapes Go.WideShapes Go.ChangeAt Go.RowKit
set_option linter.unusedVariables false
theorem pick6 (w : World) (i : Nat) (m : Int) (hi : (#[64, 4096, 65536, 65535, 32768, 60000] : Array Int)[i]? = some m) :
    (w.alloc (Obj.cells #[.int .i64 64, .int .i64 4096, .int .i64 65536, .int .i64 65535, .int .i64 32768, .int .i64 60000] 3)).cell? ⟨w.heap.size, i, none⟩ = some (.int .i64 m) := by
  match i, hi with
  | 0, hi => simp at hi; subst hi; simp [go_sem]
  | 1, hi => simp at hi; subst hi; simp [go_sem]
  | 2, hi => simp at hi; subst hi; simp [go_sem]
  | 3, hi => simp at hi; subst hi; simp [go_sem]
  | 4, hi => simp at hi; subst hi; simp [go_sem]
  | 5, hi => simp at hi; subst hi; simp [go_sem]
  | n + 6, hi => simp at hi
theorem six {w : World} {b : Nat} {v : Int} (h : ∀ (i : Nat) (m : Int), (#[64, 4096, 65536, 65535, 32768, 60000] : Array Int)[i]? = some m → w.cell? ⟨b, i, none⟩ = some (.int .i64 m)) (h0 : 0 ≤ v) (h1 : v < 6) :
    ∃ m : Int, w.cell? ⟨b, v.toNat, none⟩ = some (.int .i64 m) ∧ 1 ≤ m ∧ m ≤ 65536 := by
  rcases (show v = 0 ∨ v = 1 ∨ v = 2 ∨ v = 3 ∨ v = 4 ∨ v = 5 by omega) with rfl | rfl | rfl | rfl | rfl | rfl
  · exact ⟨64, h 0 64 rfl, by omega, by omega⟩
  · exact ⟨4096, h 1 4096 rfl, by omega, by omega⟩
  · exact ⟨65536, h 2 65536 rfl, by omega, by omega⟩
  · exact ⟨65535, h 3 65535 rfl, by omega, by omega⟩
  · exact ⟨32768, h 4 32768 rfl, by omega, by omega⟩
  · exact ⟨60000, h 5 60000 rfl, by omega, by omega⟩
set_option maxRecDepth 100000 in
set_option maxHeartbeats 4000000 in
theorem l9Rest_rk (w0 w : World) (r B : Nat) (h : Rk w0 r B w) (hk : B ≤ 800000000000) :
    Calls Tryd.prog 161 #[.pointer (some ⟨r, 0, none⟩)] w fun e w' => (∃ lo hi : Int, e = .returned (.agg #[.int .i64 lo, .int .i64 hi])) ∧ Rk w0 r (B + 20) w' := by
  have hr := h.lt
  obtain ⟨W, hW, d0, d1, hlt, hB, y0, y1, hsz⟩ := box2 w (.int .i64 0) (.int .i64 0) 26
  have hne : w.heap.size ≠ r := by omega
  have h0 := h
  have h := (h.call hB).here
  have hup : ∀ {w'}, Rk w r (B + 20) w' → Rk w0 r (B + 20) w' := fun k => h0.trans k
  have hdn : ∀ {n w'}, Rk W r n w' → Rk w r n w' := fun k => (h0.here.call hB).trans k
  go_enter Tryd.func161, Tryd.ntmps161
  go_wp2_with fail
  rw [← hW]
  clear hW h0
  go_wp2_with (first | (go_at_call 109; refine (pick_rk _ _ _ _ _ h (by omega) (by omega) (by omega)).mono ?_; rintro e wx ⟨v, rfl, v0, v1, h⟩; have c0 := h.cell (b := w.heap.size) (o := 0) (v := .int .i64 0) hlt hne d0; have c1 := h.cell (b := w.heap.size) (o := 1) (v := .int .i64 0) hlt hne d1; have z0 := h.fz (b := w.heap.size) (o := 0) hlt hne y0; have z1 := h.fz (b := w.heap.size) (o := 1) hlt hne y1) | (go_at_call 109; have hsz6 := h.size; have hlt6 := h.lt; have hbA := (Below.refl wx.heap.size wx).alloc (Nat.le_refl _) (Obj.cells #[.int .i64 64, .int .i64 4096, .int .i64 65536, .int .i64 65535, .int .i64 32768, .int .i64 60000] 3); refine (pick_rk _ _ _ _ _ (h.call hbA).here (by omega) (by omega) (by omega)).mono ?_; rintro e wy ⟨v6, rfl, v60, v61, h1⟩; have hqq : ∀ (i : Nat) (m : Int), (#[64, 4096, 65536, 65535, 32768, 60000] : Array Int)[i]? = some m → wy.cell? ⟨wx.heap.size, i, none⟩ = some (.int .i64 m) := fun i m hi => h1.cell (by simp) (by omega) (pick6 wx i m hi); obtain ⟨m6, q6, n60, n61⟩ := six hqq v60 v61; replace h := (h.call hbA).trans h1; clear hqq h1 hbA; have c0 := h.cell (b := w.heap.size) (o := 0) (v := .int .i64 0) hlt hne d0; have c1 := h.cell (b := w.heap.size) (o := 1) (v := .int .i64 0) hlt hne d1; have z0 := h.fz (b := w.heap.size) (o := 0) hlt hne y0; have z1 := h.fz (b := w.heap.size) (o := 1) hlt hne y1) | (go_at_call 140; refine (num_rk _ _ _ _ h (by omega)).mono ?_; rintro e wx ⟨v, rfl, v0, v1, h⟩; have c0 := h.cell (b := w.heap.size) (o := 0) (v := .int .i64 0) hlt hne d0; have c1 := h.cell (b := w.heap.size) (o := 1) (v := .int .i64 0) hlt hne d1; have z0 := h.fz (b := w.heap.size) (o := 0) hlt hne y0; have z1 := h.fz (b := w.heap.size) (o := 1) hlt hne y1) | (go_at_call 153; refine (l9All_any _).mono ?_; rintro e wx ⟨rfl, hb⟩; replace h := h.call hb; have c0 := h.cell (b := w.heap.size) (o := 0) (v := .int .i64 0) hlt hne d0; have c1 := h.cell (b := w.heap.size) (o := 1) (v := .int .i64 0) hlt hne d1; have z0 := h.fz (b := w.heap.size) (o := 0) hlt hne y0; have z1 := h.fz (b := w.heap.size) (o := 1) hlt hne y1))
  all_goals refine bodyPost_ret (results_two rfl _ _ w.heap.size _ _ _ rfl (fill0 c0) (fill1 c0 c1) Tryd.underlying26 rfl (by kernel_rfl)) rfl ?_
  all_goals exact ⟨⟨_, _, rfl⟩, hup (((hdn (h.more (by omega))).set (Nat.le_refl _) _).set (Nat.le_refl _) _)⟩
end Go.Proofs.YthbbgkpkijlclaaDoor.num
namespace Go.Proofs.YthbbgkpkijlclaaDoor.num
open Go.ChangeShapes Go.WideShapes Go.ChangeAt Go.RowKit
set_option linter.unusedVariables false
/-- The Mod of a rest that may not be ok. -/
def sel5 (v : Int) : Int := if v = 0 then -1 else if v = 1 then 0 else if v = 2 then 1 else if v = 3 then 65536 else 65537
theorem sel5_at (X : World) {v : Int} (h0 : 0 ≤ v) (h1 : v < 5) :
    (X.alloc (Obj.cells #[.int .i64 (-1), .int .i64 0, .int .i64 1, .int .i64 65536, .int .i64 65537] 3)).cell? ⟨X.heap.size, v.toNat, none⟩ = some (.int .i64 (sel5 v)) := by
  rcases (show v = 0 ∨ v = 1 ∨ v = 2 ∨ v = 3 ∨ v = 4 by omega) with rfl | rfl | rfl | rfl | rfl <;> simp [go_sem, sel5]
theorem sel5_in {v : Int} (h0 : 0 ≤ v) (h1 : v < 5) :
    (#[.int .i64 (-1), .int .i64 0, .int .i64 1, .int .i64 65536, .int .i64 65537] : Array Value)[v.toNat]? = some (.int .i64 (sel5 v)) := by
  rcases (show v = 0 ∨ v = 1 ∨ v = 2 ∨ v = 3 ∨ v = 4 by omega) with rfl | rfl | rfl | rfl | rfl <;> simp [sel5]
set_option maxRecDepth 100000 in
set_option maxHeartbeats 4000000 in
theorem l9Wild_rk (w0 w : World) (r B : Nat) (h : Rk w0 r B w) (hk : B ≤ 700000000000) :
    Calls Tryd.prog 84 #[.pointer (some ⟨r, 0, none⟩)] w fun e w' => (∃ lo hi : Int, e = .returned (.agg #[.int .i64 lo, .int .i64 hi])) ∧ Rk w0 r (B + 40) w' := by
  have hr := h.lt
  obtain ⟨W, hW, d0, d1, hlt, hB, y0, y1, hsz⟩ := box2 w (.int .i64 0) (.int .i64 0) 26
  have hne : w.heap.size ≠ r := by omega
  have h0 := h
  have h := (h.call hB).here
  have hup : ∀ {n w'}, Rk w r n w' → Rk w0 r n w' := fun k => h0.trans k
  have hdn : ∀ {n w'}, Rk W r n w' → Rk w r n w' := fun k => (h0.here.call hB).trans k
  go_enter Tryd.func84, Tryd.ntmps84
  go_wp2_with fail
  rw [← hW]
  clear hW h0
  go_wp2_with (first | (go_at_call 109; refine (pick_rk _ _ _ _ _ h (by omega) (by omega) (by omega)).mono ?_; rintro e wx ⟨v, rfl, v0, v1, h⟩; have c0 := h.cell (b := w.heap.size) (o := 0) (v := .int .i64 0) hlt hne d0; have c1 := h.cell (b := w.heap.size) (o := 1) (v := .int .i64 0) hlt hne d1; have z0 := h.fz (b := w.heap.size) (o := 0) hlt hne y0; have z1 := h.fz (b := w.heap.size) (o := 1) hlt hne y1) | (go_at_call 161; refine (l9Rest_rk _ _ _ _ h (by omega)).mono ?_; rintro e wx ⟨⟨lo, hi, rfl⟩, h⟩; have c0 := h.cell (b := w.heap.size) (o := 0) (v := .int .i64 0) hlt hne d0; have c1 := h.cell (b := w.heap.size) (o := 1) (v := .int .i64 0) hlt hne d1; have z0 := h.fz (b := w.heap.size) (o := 0) hlt hne y0; have z1 := h.fz (b := w.heap.size) (o := 1) hlt hne y1))
  · go_region_with (first | (go_at_call 109; refine (pick_rk _ _ _ _ _ (h.call (by first | exact Below.refl _ _ | exact (Below.refl _ _).drew)).here (by omega) (by omega) (by omega)).mono ?_; rintro e wy ⟨v5, rfl, v50, v51, h1⟩; replace h := (h.call (by first | exact Below.refl _ _ | exact (Below.refl _ _).drew)).trans h1; clear h1; have hsel := fun X => sel5_at X v50 v51; have hsin := sel5_in v50 v51; have c0 := h.cell (b := w.heap.size) (o := 0) (v := .int .i64 0) hlt hne d0; have c1 := h.cell (b := w.heap.size) (o := 1) (v := .int .i64 0) hlt hne d1; have z0 := h.fz (b := w.heap.size) (o := 0) hlt hne y0; have z1 := h.fz (b := w.heap.size) (o := 1) hlt hne y1; have l0 := Nat.lt_of_lt_of_le hlt h.size; have hrl := h.lt) | (go_at_call 109; refine (pick_rk _ _ _ _ _ (h.call (((Below.refl wx.heap.size wx).alloc (Nat.le_refl _) (Obj.cells #[.int .i64 (-1), .int .i64 0, .int .i64 1, .int .i64 65536, .int .i64 65537] 3)).drew)).here (by omega) (by omega) (by omega)).mono ?_; rintro e wy ⟨v5, rfl, v50, v51, h1⟩; have q5n : wx.heap.size ≠ r := (by have := h.lt; omega); have q5l : wx.heap.size < wy.heap.size := Nat.lt_of_lt_of_le (by simp) h1.size; have q5 : wy.cell? ⟨wx.heap.size, v5.toNat, none⟩ = some (.int .i64 (sel5 v5)) := h1.cell (by simp) q5n (sel5_at wx v50 v51); replace h := (h.call (((Below.refl wx.heap.size wx).alloc (Nat.le_refl _) (Obj.cells #[.int .i64 (-1), .int .i64 0, .int .i64 1, .int .i64 65536, .int .i64 65537] 3)).drew)).trans h1; clear h1; have c0 := h.cell (b := w.heap.size) (o := 0) (v := .int .i64 0) hlt hne d0; have c1 := h.cell (b := w.heap.size) (o := 1) (v := .int .i64 0) hlt hne d1; have z0 := h.fz (b := w.heap.size) (o := 0) hlt hne y0; have z1 := h.fz (b := w.heap.size) (o := 1) hlt hne y1; have l0 := Nat.lt_of_lt_of_le hlt h.size; have hrl := h.lt) | (go_at_call 109; refine (pick_rk _ _ _ _ _ (h.call ((Below.refl wx.heap.size wx).alloc (Nat.le_refl _) (Obj.cells #[.int .i64 (-1), .int .i64 0, .int .i64 1, .int .i64 65536, .int .i64 65537] 3))).here (by omega) (by omega) (by omega)).mono ?_; rintro e wy ⟨v5, rfl, v50, v51, h1⟩; have q5n : wx.heap.size ≠ r := (by have := h.lt; omega); have q5l : wx.heap.size < wy.heap.size := Nat.lt_of_lt_of_le (by simp) h1.size; have q5 : wy.cell? ⟨wx.heap.size, v5.toNat, none⟩ = some (.int .i64 (sel5 v5)) := h1.cell (by simp) q5n (sel5_at wx v50 v51); replace h := (h.call ((Below.refl wx.heap.size wx).alloc (Nat.le_refl _) (Obj.cells #[.int .i64 (-1), .int .i64 0, .int .i64 1, .int .i64 65536, .int .i64 65537] 3))).trans h1; clear h1; have c0 := h.cell (b := w.heap.size) (o := 0) (v := .int .i64 0) hlt hne d0; have c1 := h.cell (b := w.heap.size) (o := 1) (v := .int .i64 0) hlt hne d1; have z0 := h.fz (b := w.heap.size) (o := 0) hlt hne y0; have z1 := h.fz (b := w.heap.size) (o := 1) hlt hne y1; have l0 := Nat.lt_of_lt_of_le hlt h.size; have hrl := h.lt) | (go_at_call 141; refine (wild_rk _ _ _ _ (h.call (by first | exact Below.refl _ _ | exact (Below.refl _ _).drew)).here (by omega)).mono ?_; rintro e wz ⟨v7, rfl, v70, v71, h1⟩; (try replace q5 := h1.cell q5l q5n q5); (try replace q5l := Nat.lt_of_lt_of_le q5l h1.size); replace h := (h.call (by first | exact Below.refl _ _ | exact (Below.refl _ _).drew)).trans h1; clear h1; have c0 := h.cell (b := w.heap.size) (o := 0) (v := .int .i64 0) hlt hne d0; have c1 := h.cell (b := w.heap.size) (o := 1) (v := .int .i64 0) hlt hne d1; have z0 := h.fz (b := w.heap.size) (o := 0) hlt hne y0; have z1 := h.fz (b := w.heap.size) (o := 1) hlt hne y1; have l0 := Nat.lt_of_lt_of_le hlt h.size; have hrl := h.lt) | (go_at_call 141; refine (wild_rk _ _ _ _ (h.call (((Below.refl wy.heap.size wy).alloc (Nat.le_refl _) (Obj.cells #[.int .i64 (-1), .int .i64 0, .int .i64 1, .int .i64 65536, .int .i64 65537] 3)).drew)).here (by omega)).mono ?_; rintro e wz ⟨v7, rfl, v70, v71, h1⟩; have q5n : wy.heap.size ≠ r := (by have := h.lt; omega); have q5l : wy.heap.size < wz.heap.size := Nat.lt_of_lt_of_le (by simp) h1.size; have q5 : wz.cell? ⟨wy.heap.size, v5.toNat, none⟩ = some (.int .i64 (sel5 v5)) := h1.cell (by simp) q5n (sel5_at wy v50 v51); replace h := (h.call (((Below.refl wy.heap.size wy).alloc (Nat.le_refl _) (Obj.cells #[.int .i64 (-1), .int .i64 0, .int .i64 1, .int .i64 65536, .int .i64 65537] 3)).drew)).trans h1; clear h1; have c0 := h.cell (b := w.heap.size) (o := 0) (v := .int .i64 0) hlt hne d0; have c1 := h.cell (b := w.heap.size) (o := 1) (v := .int .i64 0) hlt hne d1; have z0 := h.fz (b := w.heap.size) (o := 0) hlt hne y0; have z1 := h.fz (b := w.heap.size) (o := 1) hlt hne y1; have l0 := Nat.lt_of_lt_of_le hlt h.size; have hrl := h.lt) | (go_at_call 141; refine (wild_rk _ _ _ _ (h.call ((Below.refl wy.heap.size wy).alloc (Nat.le_refl _) (Obj.cells #[.int .i64 (-1), .int .i64 0, .int .i64 1, .int .i64 65536, .int .i64 65537] 3))).here (by omega)).mono ?_; rintro e wz ⟨v7, rfl, v70, v71, h1⟩; have q5n : wy.heap.size ≠ r := (by have := h.lt; omega); have q5l : wy.heap.size < wz.heap.size := Nat.lt_of_lt_of_le (by simp) h1.size; have q5 : wz.cell? ⟨wy.heap.size, v5.toNat, none⟩ = some (.int .i64 (sel5 v5)) := h1.cell (by simp) q5n (sel5_at wy v50 v51); replace h := (h.call ((Below.refl wy.heap.size wy).alloc (Nat.le_refl _) (Obj.cells #[.int .i64 (-1), .int .i64 0, .int .i64 1, .int .i64 65536, .int .i64 65537] 3))).trans h1; clear h1; have c0 := h.cell (b := w.heap.size) (o := 0) (v := .int .i64 0) hlt hne d0; have c1 := h.cell (b := w.heap.size) (o := 1) (v := .int .i64 0) hlt hne d1; have z0 := h.fz (b := w.heap.size) (o := 0) hlt hne y0; have z1 := h.fz (b := w.heap.size) (o := 1) hlt hne y1; have l0 := Nat.lt_of_lt_of_le hlt h.size; have hrl := h.lt))
    all_goals go_wp2
    all_goals first
      | (refine bodyPost_ret (results_two rfl _ _ w.heap.size _ _ _ rfl (fill0 c0) (fill1 c0 c1) Tryd.underlying26 rfl (by kernel_rfl)) rfl ?_
         exact ⟨⟨_, _, rfl⟩, hup (((hdn (h.more (by omega))).set (Nat.le_refl _) _).set (Nat.le_refl _) _)⟩)
      | (have hX := fun (X : World) (hx : w.heap.size < X.heap.size) (i : Nat) => ((Below.refl X.heap.size X).alloc (Nat.le_refl _) (Obj.cells #[.int .i64 (-1), .int .i64 0, .int .i64 1, .int .i64 65536, .int .i64 65537] 3)).cell (p := ⟨w.heap.size, i, none⟩) hx
         refine bodyPost_ret (results_two rfl _ _ w.heap.size _ _ _ rfl ((hX _ (by simpa using l0) 0).trans (fill0 c0)) ((hX _ (by simpa using l0) 1).trans (fill1 c0 c1)) Tryd.underlying26 rfl (by kernel_rfl)) rfl ?_
         exact ⟨⟨_, _, rfl⟩, hup ((((hdn (h.more (by omega))).set (Nat.le_refl _) _).set (Nat.le_refl _) _).call ((Below.refl _ _).alloc (Nat.le_refl _) _))⟩)
  · refine bodyPost_ret (results_two rfl _ _ w.heap.size _ _ _ rfl (fill0 c0) (fill1 c0 c1) Tryd.underlying26 rfl (by kernel_rfl)) rfl ?_
    exact ⟨⟨_, _, rfl⟩, hup (((hdn (h.more (by omega))).set (Nat.le_refl _) _).set (Nat.le_refl _) _)⟩
end Go.Proofs.YthbbgkpkijlclaaDoor.num
namespace Go.Proofs.YthbbgkpkijlclaaDoor.num
open Go.ChangeShapes Go.WideShapes Go.ChangeAt Go.RowKit
set_option linter.unusedVariables false
set_option linter.unusedSimpArgs false
set_option maxRecDepth 100000 in
set_option maxHeartbeats 4000000 in
theorem drawRestDo_any (w : World) (a : Option Addr) (len cap : Nat) (h : Code8 w a len) (hl : len ≤ cap) (hm : cap ≤ 9223372036854775807) :
    Calls Tryd.prog 79 #[.slice a len cap] w fun e w' => (∃ op lo hi lo2 hi2 : Int, e = .returned (.tuple #[.int .i64 op, .agg #[.int .i64 lo, .int .i64 hi], .agg #[.int .i64 lo2, .int .i64 hi2]])) ∧ Below w.heap.size w w' := by
  obtain ⟨W, hW, H⟩ := Hd.two w (.int .i64 0) (.int .i64 0) (.int .i64 0) (.int .i64 0) 26 26
  have hc := h.below H.below
  have hsz : W.heap.size = w.heap.size + 2 := by rw [hW]; simp
  go_enter Tryd.func79, Tryd.ntmps79
  go_wp2_with fail
  rw [← hW]
  clear hW h
  refine (open_any W a len cap hc hl hm).mono ?_
  rintro e w1 ⟨rfl, hst⟩
  have H1 := H.call (hst.below)
  have h := Rk.of_st hst
  have hr : W.heap.size < w1.heap.size := h.lt
  clear hst hc H
  generalize hrr : W.heap.size = r at *
  have hge : w.heap.size + 2 ≤ r := by omega
  clear hsz hrr
  have HH := hide H1
  clear H1
  go_wp2_with (go_at_call 109; refine (pick_rk _ _ _ _ _ h (by omega) (by omega) (by omega)).mono ?_; rintro e wx ⟨v, rfl, v0, v1, h⟩)
  all_goals
    refine (l9Wild_rk _ _ _ _ h (by omega)).mono ?_
    rintro e w5 ⟨⟨lo, hi, rfl⟩, h⟩
    obtain ⟨W5, hW5, e0, e1, hlt5, hB5, -, -, -⟩ := box2 w5 (.int .i64 lo) (.int .i64 hi) 26
    have hs5 := h.size
    have hr5 := h.lt
    go_wp2_with fail
    rw [← hW5]
    clear hW5
    have h5 := h.call hB5
    refine (l9Wild_rk _ _ _ _ h5.here (by omega)).mono ?_
    rintro e w6 ⟨⟨lo2, hi2, rfl⟩, h6⟩
    obtain ⟨W2, hW2, f0, f1, hlt2, hB2, fz0, fz1, -⟩ := box2 w6 (.int .i64 lo2) (.int .i64 hi2) 26
    have hs6 := h6.size
    have h7 := h6.call hB2
    have hr7 := h6.lt
    have hbw : Below w.heap.size w W2 := ((unhide HH).below.trans (h.below (by omega) (by omega))).trans ((hB5.mono (by omega)).trans ((h7.below (by omega) (by omega))))
    go_upto_region 3 with fail
    all_goals
      rw [← hW2]
      clear hW2
      have hs5' := h5.size
      have k4 : W5.cell? ⟨w.heap.size, 0, none⟩ = some (.int .i64 0) := h5.cell (by omega) (by omega) ((unhide HH).get (by simp))
      have k5 : W5.cell? ⟨w.heap.size, 1, none⟩ = some (.int .i64 0) := h5.cell (by omega) (by omega) ((unhide HH).get (by simp))
      have k6 : W5.cell? ⟨w.heap.size + 1, 0, none⟩ = some (.int .i64 0) := h5.cell (by omega) (by omega) ((unhide HH).get (by simp))
      have k7 : W5.cell? ⟨w.heap.size + 1, 1, none⟩ = some (.int .i64 0) := h5.cell (by omega) (by omega) ((unhide HH).get (by simp))
      have x4 : W5.frozen? ⟨w.heap.size, 0, none⟩ = false := h5.fz (by omega) (by omega) ((unhide HH).fz (v := .int .i64 0) (by simp))
      have x5 : W5.frozen? ⟨w.heap.size, 1, none⟩ = false := h5.fz (by omega) (by omega) ((unhide HH).fz (v := .int .i64 0) (by simp))
      have x6 : W5.frozen? ⟨w.heap.size + 1, 0, none⟩ = false := h5.fz (by omega) (by omega) ((unhide HH).fz (v := .int .i64 0) (by simp))
      have x7 : W5.frozen? ⟨w.heap.size + 1, 1, none⟩ = false := h5.fz (by omega) (by omega) ((unhide HH).fz (v := .int .i64 0) (by simp))
      generalize hgg1 : w5.heap.size = g1 at *
      generalize hgg2 : w6.heap.size = g2 at *
      have b0 : W2.cell? ⟨g1, 0, none⟩ = some (.int .i64 lo) := h7.cell (by omega) (by omega) e0
      have b1 : W2.cell? ⟨g1, 1, none⟩ = some (.int .i64 hi) := h7.cell (by omega) (by omega) e1
      have b2 : W2.cell? ⟨g2, 0, none⟩ = some (.int .i64 lo2) := f0
      have b3 : W2.cell? ⟨g2, 1, none⟩ = some (.int .i64 hi2) := f1
      have b4 : W2.cell? ⟨w.heap.size, 0, none⟩ = some (.int .i64 0) := h7.cell (by omega) (by omega) k4
      have b5 : W2.cell? ⟨w.heap.size, 1, none⟩ = some (.int .i64 0) := h7.cell (by omega) (by omega) k5
      have b6 : W2.cell? ⟨w.heap.size + 1, 0, none⟩ = some (.int .i64 0) := h7.cell (by omega) (by omega) k6
      have b7 : W2.cell? ⟨w.heap.size + 1, 1, none⟩ = some (.int .i64 0) := h7.cell (by omega) (by omega) k7
      have y2 : W2.frozen? ⟨g2, 0, none⟩ = false := fz0
      have y3 : W2.frozen? ⟨g2, 1, none⟩ = false := fz1
      have y4 : W2.frozen? ⟨w.heap.size, 0, none⟩ = false := h7.fz (by omega) (by omega) x4
      have y5 : W2.frozen? ⟨w.heap.size, 1, none⟩ = false := h7.fz (by omega) (by omega) x5
      have y6 : W2.frozen? ⟨w.heap.size + 1, 0, none⟩ = false := h7.fz (by omega) (by omega) x6
      have y7 : W2.frozen? ⟨w.heap.size + 1, 1, none⟩ = false := h7.fz (by omega) (by omega) x7
      have hord : w.heap.size + 1 < r ∧ r < g1 ∧ g1 < g2 ∧ g2 < W2.heap.size := ⟨by omega, by omega, by omega, by omega⟩
      have hh := h7.here
      clear e0 e1 f0 f1 fz0 fz1 k4 k5 k6 k7 x4 x5 x6 x7 h h5 h6 h7 hs5 hs6 hs5' hr5 hr7 hlt5 hlt2 hB5 hB2 HH hr hge hgg1 hgg2
      have h := hh
      clear hh
      obtain ⟨o1, o2, o3, o4⟩ := hord
      have c0 := h.cell (b := g1) (o := 0) (v := .int .i64 lo) (by omega) (by omega) b0; have c1 := h.cell (b := g1) (o := 1) (v := .int .i64 hi) (by omega) (by omega) b1; have c2 := h.cell (b := g2) (o := 0) (v := .int .i64 lo2) (by omega) (by omega) b2; have c3 := h.cell (b := g2) (o := 1) (v := .int .i64 hi2) (by omega) (by omega) b3; have c4 := h.cell (b := w.heap.size) (o := 0) (v := .int .i64 0) (by omega) (by omega) b4; have c5 := h.cell (b := w.heap.size) (o := 1) (v := .int .i64 0) (by omega) (by omega) b5; have c6 := h.cell (b := w.heap.size + 1) (o := 0) (v := .int .i64 0) (by omega) (by omega) b6; have c7 := h.cell (b := w.heap.size + 1) (o := 1) (v := .int .i64 0) (by omega) (by omega) b7; have z2 := h.fz (b := g2) (o := 0) (by omega) (by omega) y2; have z3 := h.fz (b := g2) (o := 1) (by omega) (by omega) y3; have z4 := h.fz (b := w.heap.size) (o := 0) (by omega) (by omega) y4; have z5 := h.fz (b := w.heap.size) (o := 1) (by omega) (by omega) y5; have z6 := h.fz (b := w.heap.size + 1) (o := 0) (by omega) (by omega) y6; have z7 := h.fz (b := w.heap.size + 1) (o := 1) (by omega) (by omega) y7
      go_wp2_with (go_at_call 109; refine (pick_rk _ _ _ _ _ (by first | exact h | exact h.drew) (by omega) (by omega) (by omega)).mono ?_; rintro e wx ⟨v, rfl, v0, v1, h⟩; clear c0 c1 c2 c3 c4 c5 c6 c7 z2 z3 z4 z5 z6 z7; have c0 := h.cell (b := g1) (o := 0) (v := .int .i64 lo) (by omega) (by omega) b0; have c1 := h.cell (b := g1) (o := 1) (v := .int .i64 hi) (by omega) (by omega) b1; have c2 := h.cell (b := g2) (o := 0) (v := .int .i64 lo2) (by omega) (by omega) b2; have c3 := h.cell (b := g2) (o := 1) (v := .int .i64 hi2) (by omega) (by omega) b3; have c4 := h.cell (b := w.heap.size) (o := 0) (v := .int .i64 0) (by omega) (by omega) b4; have c5 := h.cell (b := w.heap.size) (o := 1) (v := .int .i64 0) (by omega) (by omega) b5; have c6 := h.cell (b := w.heap.size + 1) (o := 0) (v := .int .i64 0) (by omega) (by omega) b6; have c7 := h.cell (b := w.heap.size + 1) (o := 1) (v := .int .i64 0) (by omega) (by omega) b7; have z2 := h.fz (b := g2) (o := 0) (by omega) (by omega) y2; have z3 := h.fz (b := g2) (o := 1) (by omega) (by omega) y3; have z4 := h.fz (b := w.heap.size) (o := 0) (by omega) (by omega) y4; have z5 := h.fz (b := w.heap.size) (o := 1) (by omega) (by omega) y5; have z6 := h.fz (b := w.heap.size + 1) (o := 0) (by omega) (by omega) y6; have z7 := h.fz (b := w.heap.size + 1) (o := 1) (by omega) (by omega) y7)
      all_goals
        have hbx := hbw.trans (h.below (n := w.heap.size) (by omega) (by omega))
        clear b0 b1 b2 b3 b4 b5 b6 b7 y2 y3 y4 y5 y6 y7
        first
          | (have hv34 : v < 34 := v1
             have ne1 : g1 ≠ g2 := by omega
             have ne2 : w.heap.size ≠ g2 := by omega
             have ne3 : w.heap.size + 1 ≠ g2 := by omega
             have hby := (hbx.setCell (p := ⟨g2, 0, none⟩) (by simp only; omega) (.int .i64 0)).setCell (p := ⟨g2, 1, none⟩) (by simp only; omega) (.int .i64 (v - 1))
             generalize hw3 : (wx.setCell ⟨g2, 0, none⟩ (.int .i64 0)).setCell ⟨g2, 1, none⟩ (.int .i64 (v - 1)) = W3 at hby ⊢
             have d0 : W3.cell? ⟨g1, 0, none⟩ = some (.int .i64 lo) := by rw [← hw3]; simp [go_sem, c0, c1, c2, c3, c4, c5, c6, c7, ne1, ne2, ne3, ne1.symm, ne2.symm, ne3.symm]
             have d1 : W3.cell? ⟨g1, 1, none⟩ = some (.int .i64 hi) := by rw [← hw3]; simp [go_sem, c0, c1, c2, c3, c4, c5, c6, c7, ne1, ne2, ne3, ne1.symm, ne2.symm, ne3.symm]
             have d2 : W3.cell? ⟨g2, 0, none⟩ = some (.int .i64 0) := by rw [← hw3]; simp [go_sem, c0, c1, c2, c3, c4, c5, c6, c7, ne1, ne2, ne3, ne1.symm, ne2.symm, ne3.symm]
             have d3 : W3.cell? ⟨g2, 1, none⟩ = some (.int .i64 (v - 1)) := by rw [← hw3]; simp [go_sem, c0, c1, c2, c3, c4, c5, c6, c7, ne1, ne2, ne3, ne1.symm, ne2.symm, ne3.symm]
             have d4 : W3.cell? ⟨w.heap.size, 0, none⟩ = some (.int .i64 0) := by rw [← hw3]; simp [go_sem, c0, c1, c2, c3, c4, c5, c6, c7, ne1, ne2, ne3, ne1.symm, ne2.symm, ne3.symm]
             have d5 : W3.cell? ⟨w.heap.size, 1, none⟩ = some (.int .i64 0) := by rw [← hw3]; simp [go_sem, c0, c1, c2, c3, c4, c5, c6, c7, ne1, ne2, ne3, ne1.symm, ne2.symm, ne3.symm]
             have d6 : W3.cell? ⟨w.heap.size + 1, 0, none⟩ = some (.int .i64 0) := by rw [← hw3]; simp [go_sem, c0, c1, c2, c3, c4, c5, c6, c7, ne1, ne2, ne3, ne1.symm, ne2.symm, ne3.symm]
             have d7 : W3.cell? ⟨w.heap.size + 1, 1, none⟩ = some (.int .i64 0) := by rw [← hw3]; simp [go_sem, c0, c1, c2, c3, c4, c5, c6, c7, ne1, ne2, ne3, ne1.symm, ne2.symm, ne3.symm]
             have u4 : W3.frozen? ⟨w.heap.size, 0, none⟩ = false := by rw [← hw3]; simp [go_sem, z4]
             have u5 : W3.frozen? ⟨w.heap.size, 1, none⟩ = false := by rw [← hw3]; simp [go_sem, z5]
             have u6 : W3.frozen? ⟨w.heap.size + 1, 0, none⟩ = false := by rw [← hw3]; simp [go_sem, z6]
             have u7 : W3.frozen? ⟨w.heap.size + 1, 1, none⟩ = false := by rw [← hw3]; simp [go_sem, z7]
             clear hw3 c0 c1 c2 c3 c4 c5 c6 c7 z2 z3 z4 z5 z6 z7 hbx ne1 ne2 ne3
             go_region
             all_goals go_wp2_with fail
             all_goals refine bodyPost_ret (results_tmp_two_two rfl _ _ w.heap.size (w.heap.size + 1) (.int .i64 lo) (.int .i64 hi) (.int .i64 0) (.int .i64 (v - 1)) _ rfl rfl (by simp [go_sem, d4]) (by simp [go_sem, d5]) (by simp [go_sem, d6]) (by simp [go_sem, d7]) Tryd.underlying26 rfl (by kernel_rfl)) rfl ?_
             all_goals exact ⟨⟨_, _, _, _, _, rfl⟩, by first | exact (((((hby.setCell (by exact Nat.le_refl _) _).setCell (by exact Nat.le_refl _) _).setCell (by exact Nat.le_add_right _ _) _).setCell (by exact Nat.le_add_right _ _) _)) | exact (((((hby.setCell (by exact Nat.le_refl _) _).setCell (by exact Nat.le_refl _) _).setCell (by exact Nat.le_add_right _ _) _).setCell (by exact Nat.le_add_right _ _) _)).drew⟩)
          | (go_region
             all_goals go_wp2_with fail
             all_goals refine bodyPost_ret (results_tmp_two_two rfl _ _ w.heap.size (w.heap.size + 1) (.int .i64 lo) (.int .i64 hi) (.int .i64 lo2) (.int .i64 hi2) _ rfl rfl (by simp [go_sem, c4]) (by simp [go_sem, c5]) (by simp [go_sem, c6]) (by simp [go_sem, c7]) Tryd.underlying26 rfl (by kernel_rfl)) rfl ?_
             all_goals exact ⟨⟨_, _, _, _, _, rfl⟩, by first | exact (((((hbx.setCell (by exact Nat.le_refl _) _).setCell (by exact Nat.le_refl _) _).setCell (by exact Nat.le_add_right _ _) _).setCell (by exact Nat.le_add_right _ _) _)) | exact (((((hbx.setCell (by exact Nat.le_refl _) _).setCell (by exact Nat.le_refl _) _).setCell (by exact Nat.le_add_right _ _) _).setCell (by exact Nat.le_add_right _ _) _)).drew⟩)
end Go.Proofs.YthbbgkpkijlclaaDoor.num
namespace Go.Proofs.YthbbgkpkijlclaaDoor.num
open Go.ChangeShapes Go.WideShapes Go.ChangeAt Go.RowKit
set_option linter.unusedVariables false

theorem or_bound {a b : Int} (h0 : 0 ≤ a) (h1 : a ≤ 4294967295) (k0 : 0 ≤ b) (k1 : b ≤ 4294967295) : 0 ≤ bits .or .i64 a b ∧ bits .or .i64 a b ≤ 4294967295 := by
  have e : bits .or .i64 a b = IntKind.i64.wrap (((BitVec.ofInt 64 a) ||| (BitVec.ofInt 64 b)).toNat : Int) := rfl
  obtain ⟨x, rfl⟩ := Int.eq_ofNat_of_zero_le h0
  obtain ⟨y, rfl⟩ := Int.eq_ofNat_of_zero_le k0
  have ex : (BitVec.ofInt 64 (x : Int)).toNat = x := by
    rw [BitVec.toNat_ofInt]; omega
  have ey : (BitVec.ofInt 64 (y : Int)).toNat = y := by
    rw [BitVec.toNat_ofInt]; omega
  rw [BitVec.toNat_or, ex, ey] at e
  have hb : x ||| y < 2 ^ 32 := Nat.or_lt_two_pow (by omega) (by omega)
  rw [e, IntWalk.i64_in _ ⟨by omega, by omega⟩]
  omega
theorem wide_bound {p q r s : Int} (p0 : 0 ≤ p) (p1 : p ≤ 255) (q0 : 0 ≤ q) (q1 : q ≤ 255) (r0 : 0 ≤ r) (r1 : r ≤ 255) (s0 : 0 ≤ s) (s1 : s ≤ 255) :
    0 ≤ bits .or .i64 (bits .or .i64 (bits .or .i64 (p * 16777216) (q * 65536)) (r * 256)) s ∧ bits .or .i64 (bits .or .i64 (bits .or .i64 (p * 16777216) (q * 65536)) (r * 256)) s ≤ 4294967295 := by
  have h1 := or_bound (a := p * 16777216) (b := q * 65536) (by omega) (by omega) (by omega) (by omega)
  have h2 := or_bound (b := r * 256) h1.1 h1.2 (by omega) (by omega)
  exact or_bound h2.1 h2.2 s0 (by omega)
set_option maxRecDepth 100000 in
set_option maxHeartbeats 4000000 in
theorem wide_any (w : World) (a : Option Addr) (len cap : Nat) (i : Int) (h : Code8 w a len) (hl : len ≤ 1048576) (hi : 0 ≤ i) (hi2 : i ≤ 900000) :
    Calls Tryd.prog 95 #[.slice a len cap, .int .i64 i] w fun e w' => ∃ v : Int, e = .returned (.int .i64 v) ∧ 0 ≤ v ∧ v ≤ 4294967295 ∧ Below w.heap.size w w' := by
  have H := hide h
  clear h
  go_enter Tryd.func95, Tryd.ntmps95
  have BB := Below.refl w.heap.size w
  have e1 : IntKind.i64.wrap (i + 1) = i + 1 := IntWalk.i64_in _ ⟨by omega, by omega⟩
  have e2 : IntKind.i64.wrap (i + 2) = i + 2 := IntWalk.i64_in _ ⟨by omega, by omega⟩
  have e3 : IntKind.i64.wrap (i + 3) = i + 3 := IntWalk.i64_in _ ⟨by omega, by omega⟩
  go_wp2_with (go_at_call 94; refine (at_any _ _ _ _ _ ((unhide H).below BB) hl (by omega) (by omega)).mono ?_; rintro e w1 ⟨v, rfl, v0, v1, hb⟩; replace BB := below_up BB BB.size hb)
  go_ret
  exact ⟨_, rfl, (wide_bound (by assumption) (by assumption) (by assumption) (by assumption) (by assumption) (by assumption) (by assumption) (by assumption)).1, (wide_bound (by assumption) (by assumption) (by assumption) (by assumption) (by assumption) (by assumption) (by assumption) (by assumption)).2, BB⟩
end Go.Proofs.YthbbgkpkijlclaaDoor.num
namespace Go.Proofs.YthbbgkpkijlclaaDoor.num
open Go.ChangeShapes Go.WideShapes Go.ChangeAt Go.RowKit
set_option linter.unusedVariables false
set_option maxRecDepth 100000 in
set_option maxHeartbeats 4000000 in
theorem ofRest_any (x y : Int) (w : World) (a : Option Addr) (len cap : Nat) (i : Int) (hc : Code8 w a len) (hl : len ≤ 1048576) (hi : 0 ≤ i) (hi2 : i ≤ 800000) :
    Calls Tryd.prog 27 #[.agg #[.int .i64 x, .int .i64 y], .slice a len cap, .int .i64 i] w fun e w' => (∃ v : Int, e = .returned (.int .i64 v)) ∧ Below w.heap.size w w' := by
  obtain ⟨W, hW, H⟩ := Hd.one w (.int .i64 x) (.int .i64 y) 26
  have hC := hide (hc.below H.below)
  clear hc
  cases h : qOk (x, y)
  · go_enter Tryd.func27, Tryd.ntmps27
    go_wp2_with fail
    rw [← hW]
    clear hW
    have a0 := H.get (b := w.heap.size) (o := 0) (v := .int .i64 x) (by simp)
    have a1 := H.get (b := w.heap.size) (o := 1) (v := .int .i64 y) (by simp)
    go_wp2_with (go_at_call 75; refine (sRestOk_xy _ _ _).mono ?_; rintro e w' ⟨rfl, hb⟩; rw [h]; replace H := H.call hb; have a0 := H.get (b := w.heap.size) (o := 0) (v := .int .i64 x) (by simp); have a1 := H.get (b := w.heap.size) (o := 1) (v := .int .i64 y) (by simp))
    go_ret
    exact ⟨⟨_, rfl⟩, H.below⟩
  · have hx := (qOk_iff _).1 h
    simp only at hx
    by_cases hz : x = 0
    · subst hz
      go_enter Tryd.func27, Tryd.ntmps27
      go_wp2_with fail
      rw [← hW]
      clear hW
      have a0 := H.get (b := w.heap.size) (o := 0) (v := .int .i64 0) (by simp)
      have a1 := H.get (b := w.heap.size) (o := 1) (v := .int .i64 y) (by simp)
      go_wp2_with (go_at_call 75; refine (sRestOk_xy _ _ _).mono ?_; rintro e w' ⟨rfl, hb⟩; rw [h]; replace H := H.call hb; have a0 := H.get (b := w.heap.size) (o := 0) (v := .int .i64 0) (by simp); have a1 := H.get (b := w.heap.size) (o := 1) (v := .int .i64 y) (by simp))
      go_ret
      exact ⟨⟨_, rfl⟩, H.below⟩
    · have hz' : (x == 0) = false := by simp [hz]
      have hi3 : wrap64 (i + 3) = i + 3 := w64_id (by omega) (by omega)
      go_enter Tryd.func27, Tryd.ntmps27
      go_wp2_with fail
      rw [← hW]
      clear hW
      have a0 := H.get (b := w.heap.size) (o := 0) (v := .int .i64 x) (by simp)
      have a1 := H.get (b := w.heap.size) (o := 1) (v := .int .i64 y) (by simp)
      go_wp2_with (go_at_call 75; refine (sRestOk_xy _ _ _).mono ?_; rintro e w' ⟨rfl, hb⟩; rw [h]; replace H := H.call hb; have hC := hide ((unhide hC).below hb); have a0 := H.get (b := w.heap.size) (o := 0) (v := .int .i64 x) (by simp); have a1 := H.get (b := w.heap.size) (o := 1) (v := .int .i64 y) (by simp))
      go_cut [7] from 7 (fun t7 wx => ∃ v : Int, t7 = .int .i64 v ∧ Hd w [(w.heap.size, 0, .int .i64 x), (w.heap.size, 1, .int .i64 y)] wx ∧ Hid (Code8 wx a len))
      case first =>
        go_region_held3 (fun w' => w'.cell? ⟨w.heap.size, 0, none⟩ = some (.int .i64 x) ∧ w'.cell? ⟨w.heap.size, 1, none⟩ = some (.int .i64 y)) (first | exact ⟨a0, a1⟩ | (simp [go_sem, *]; done)) (first | (go_at_call 94; refine (at_any _ _ _ _ _ (by first | exact unhide hC | exact (unhide hC).below (below_drewN (Below.refl _ _) 1)) hl (by omega) (by omega)).mono ?_; rintro e w' ⟨z, rfl, z0, z1, hb⟩; (first | (replace H := H.call hb) | (replace H := (H.drewN 1).call hb)); (first | (replace hC := hide ((unhide hC).below hb)) | (replace hC := hide (((unhide hC).below (below_drewN (Below.refl _ _) 1)).below hb))); clear hb; have a0 := H.get (b := w.heap.size) (o := 0) (v := .int .i64 x) (by simp); have a1 := H.get (b := w.heap.size) (o := 1) (v := .int .i64 y) (by simp)))
        all_goals
          go_wp2_with fail
          go_meet
          exact ⟨_, rfl, by first | exact H | exact H.drewN 1, by first | exact hC | exact hide ((unhide hC).below (below_drewN (Below.refl _ _) 1))⟩
      case rest =>
        clear H hC a0 a1
        obtain ⟨v, rfl, H, hC⟩ := hcut
        have a0 := H.get (b := w.heap.size) (o := 0) (v := .int .i64 x) (by simp); have a1 := H.get (b := w.heap.size) (o := 1) (v := .int .i64 y) (by simp)
        go_wp2_with (first | (go_at_call 94; refine (at_any _ _ _ _ _ (by first | exact unhide hC | exact (unhide hC).below (below_drewN (Below.refl _ _) 1)) hl (by omega) (by omega)).mono ?_; rintro e w' ⟨z, rfl, z0, z1, hb⟩; (first | (replace H := H.call hb) | (replace H := (H.drewN 1).call hb)); (first | (replace hC := hide ((unhide hC).below hb)) | (replace hC := hide (((unhide hC).below (below_drewN (Below.refl _ _) 1)).below hb))); clear hb; have a0 := H.get (b := w.heap.size) (o := 0) (v := .int .i64 x) (by simp); have a1 := H.get (b := w.heap.size) (o := 1) (v := .int .i64 y) (by simp)))
        · go_cut [7] from 7 (fun t7 wx => ∃ v : Int, t7 = .int .i64 v ∧ Hd w [(w.heap.size, 0, .int .i64 x), (w.heap.size, 1, .int .i64 y)] wx)
          case first =>
            go_region_held3 (fun w' => w'.cell? ⟨w.heap.size, 0, none⟩ = some (.int .i64 x) ∧ w'.cell? ⟨w.heap.size, 1, none⟩ = some (.int .i64 y)) (first | exact ⟨a0, a1⟩ | (simp [go_sem, *]; done)) (first | (go_at_call 95; refine (wide_any _ _ _ _ _ (by first | exact unhide hC | exact (unhide hC).below (below_drewN (Below.refl _ _) 1)) hl (by omega) (by omega)).mono ?_; rintro e w' ⟨z, rfl, z0, z1, hb⟩; (first | (replace H := H.call hb) | (replace H := (H.drewN 1).call hb)); (first | (replace hC := hide ((unhide hC).below hb)) | (replace hC := hide (((unhide hC).below (below_drewN (Below.refl _ _) 1)).below hb))); clear hb; have a0 := H.get (b := w.heap.size) (o := 0) (v := .int .i64 x) (by simp); have a1 := H.get (b := w.heap.size) (o := 1) (v := .int .i64 y) (by simp)))
            all_goals
              go_wp2_with fail
              go_meet
              exact ⟨_, rfl, by first | exact H | exact H.drewN 1⟩
          case rest =>
            clear H hC a0 a1
            obtain ⟨v, rfl, H⟩ := hcut
            go_wp2_with (go_at_call 96; refine (specWrap_any _ _).mono ?_; rintro e w' ⟨rfl, rfl⟩)
            go_ret
            exact ⟨⟨_, rfl⟩, H.below⟩
        · go_wp2_with (go_at_call 96; refine (specWrap_any _ _).mono ?_; rintro e w' ⟨rfl, rfl⟩)
          go_ret
          exact ⟨⟨_, rfl⟩, H.below⟩
end Go.Proofs.YthbbgkpkijlclaaDoor.num
