/-
  Ranges that are drawn.
-/
import Derived.Test.YthbbgkpkijlclaaDoorSe
import Derived.Test.YthbbgkpkijlclaaDoorWild
namespace Go.Proofs.YthbbgkpkijlclaaDoor.num
open Go.ChangeShapes Go.WideShapes Go.ChangeAt Go.RowKit
set_option linter.unusedVariables false


/-- A reader of block r, that was there in w0, has picked B times at most; of what was there in w0 nothing has turned but the reader. -/
def Rk (w0 : World) (r B : Nat) (w : World) : Prop := (∃ k0, Rd w0 r k0) ∧ ∃ k, k ≤ B ∧ Rd w r k ∧ Kept r w0 w
theorem Rk.more {w0 w : World} {r B B' : Nat} (h : Rk w0 r B w) (hB : B ≤ B') : Rk w0 r B' w := by
  obtain ⟨h0, k, hk, hr⟩ := h
  exact ⟨h0, k, by omega, hr⟩
theorem Rk.call {w0 w w' : World} {r B : Nat} (h : Rk w0 r B w) (hb : Below w.heap.size w w') : Rk w0 r B w' := by
  obtain ⟨h0, k, hk, hr, hkp⟩ := h
  exact ⟨h0, k, hk, hr.below hb, hkp.trans (Kept.of_below hb)⟩
theorem Rk.cell {w0 w : World} {r B : Nat} (h : Rk w0 r B w) {b o : Nat} {v : Value} (hb : b < w0.heap.size) (hr : b ≠ r) (hc : w0.cell? ⟨b, o, none⟩ = some v) : w.cell? ⟨b, o, none⟩ = some v := by
  obtain ⟨h0, k, hk, hd, hkp⟩ := h
  rw [hkp.cell (p := ⟨b, o, none⟩) hb hr]; exact hc
theorem Rk.fz {w0 w : World} {r B : Nat} (h : Rk w0 r B w) {b o : Nat} (hb : b < w0.heap.size) (hr : b ≠ r) (hc : w0.frozen? ⟨b, o, none⟩ = false) : w.frozen? ⟨b, o, none⟩ = false := by
  obtain ⟨h0, k, hk, hd, hkp⟩ := h
  rw [World.frozen?_of_block (w := w0) (w' := w) (a := ⟨b, o, none⟩) (hkp.block b hb hr)]; exact hc
theorem Rk.trans {w0 w1 w2 : World} {r B B' : Nat} (h : Rk w0 r B w1) (k : Rk w1 r B' w2) : Rk w0 r B' w2 := by
  obtain ⟨h0, k1, hk1, hd1, hkp1⟩ := h
  obtain ⟨-, k2, hk2, hd2, hkp2⟩ := k
  exact ⟨h0, k2, hk2, hd2, hkp1.trans hkp2⟩
theorem Rk.here {w0 w : World} {r B : Nat} (h : Rk w0 r B w) : Rk w r B w := by
  obtain ⟨h0, k, hk, hd, hkp⟩ := h
  exact ⟨⟨k, hd⟩, k, hk, hd, Kept.refl _ _⟩
theorem Rk.lt {w0 w : World} {r B : Nat} (h : Rk w0 r B w) : r < w.heap.size := by
  obtain ⟨h0, k, hk, hd, hkp⟩ := h
  exact hd.1
theorem Rk.size {w0 w : World} {r B : Nat} (h : Rk w0 r B w) : w0.heap.size ≤ w.heap.size := by
  obtain ⟨h0, k, hk, hd, hkp⟩ := h
  exact hkp.size
/-- A store into a block that was not there in w0. -/
theorem Rk.set {w0 w : World} {r B b o : Nat} (h : Rk w0 r B w) (hb : w0.heap.size ≤ b) (u : Value) : Rk w0 r B (w.setCell ⟨b, o, none⟩ u) := by
  obtain ⟨h00, k, hk, ⟨h1, a, len, cap, c0, c1, f1, hl, hc⟩, hkp⟩ := h
  have h01 := h00
  obtain ⟨k0, hr0, a0, len0, cap0, c00, -, -, -, hc00⟩ := h00
  have hr : b ≠ r := by omega
  have hne : ∀ q, (⟨b, o, none⟩ : Addr) ≠ ⟨r, q, none⟩ := fun q e => hr (by cases e; rfl)
  have hsame := (hkp.head hr0).symm.trans c0
  rw [c00] at hsame
  injection hsame with hsame
  injection hsame with e1 e2 e3
  subst e1 e2 e3
  refine ⟨h01, k, hk, ⟨by simpa using h1, a0, len0, cap0, ?_, ?_, by simpa using f1, hl, ?_⟩, ⟨hkp.os, hkp.tape, hkp.output, by simpa using hkp.size, fun i hi hir => (Below.heap_setCell w ⟨b, o, none⟩ u i (by show i ≠ b; omega)).trans (hkp.block i hi hir), fun hq => by rw [World.cell?_setCell_other _ _ _ _ (hne 0)]; exact hkp.head hq⟩⟩
  · rw [World.cell?_setCell_other _ _ _ _ (hne 0)]; exact c0
  · rw [World.cell?_setCell_other _ _ _ _ (hne 1)]; exact c1
  · rcases hc with h' | ⟨bc, off, ha, hbr, hbs, hz⟩
    · exact .inl h'
    · rcases hc00 with h' | ⟨bc0, off0, ha0, hbr0, hbs0, hz0⟩
      · exact .inl h'
      · rw [ha0] at ha
        injection ha with ha
        injection ha with e1 e2 e3
        subst e1 e2
        refine .inr ⟨bc0, off0, ha0, hbr, by simpa using hbs, fun i hi => ?_⟩
        obtain ⟨z, z0, z1, zc⟩ := hz i hi
        refine ⟨z, z0, z1, ?_⟩
        rw [World.cell?_setCell_other _ _ _ _ (fun e => by cases e; omega)]
        exact zc
theorem pick_rk (w0 w : World) (r B : Nat) (n : Int) (h : Rk w0 r B w) (hk : B ≤ 1000000000000) (hn : 1 ≤ n) (hn2 : n ≤ 65536) :
    Calls Tryd.prog 109 #[.pointer (some ⟨r, 0, none⟩), .int .i64 n] w fun e w' => ∃ v : Int, e = .returned (.int .i64 v) ∧ 0 ≤ v ∧ v < n ∧ Rk w0 r (B + 1) w' := by
  obtain ⟨h0, k, hkB, hr, hkp⟩ := h
  refine (pick_any w r k n hr (by omega) hn hn2).mono ?_
  rintro e w' ⟨v, rfl, v0, v1, hr', hkp'⟩
  exact ⟨v, rfl, v0, v1, h0, k + 1, by omega, hr', hkp.trans hkp'⟩
theorem num_rk (w0 w : World) (r B : Nat) (h : Rk w0 r B w) (hk : B ≤ 999000000000) :
    Calls Tryd.prog 140 #[.pointer (some ⟨r, 0, none⟩)] w fun e w' => ∃ v : Int, e = .returned (.int .i64 v) ∧ -2147483648 ≤ v ∧ v ≤ 2147483647 ∧ Rk w0 r (B + 6) w' := by
  obtain ⟨h0, k, hkB, hr, hkp⟩ := h
  refine (num_any w r k hr (by omega)).mono ?_
  rintro e w' ⟨v, rfl, v0, v1, k', hk', hr', hkp'⟩
  exact ⟨v, rfl, v0, v1, h0, k', by omega, hr', hkp.trans hkp'⟩
theorem wild_rk (w0 w : World) (r B : Nat) (h : Rk w0 r B w) (hk : B ≤ 900000000000) :
    Calls Tryd.prog 141 #[.pointer (some ⟨r, 0, none⟩)] w fun e w' => ∃ v : Int, e = .returned (.int .i64 v) ∧ -9223372036854775808 ≤ v ∧ v ≤ 9223372036854775807 ∧ Rk w0 r (B + 7) w' := by
  go_enter Tryd.func141, Tryd.ntmps141
  go_wp2_with (first | (go_at_call 109; refine (pick_rk _ _ _ _ _ h (by omega) (by omega) (by omega)).mono ?_; rintro e wx ⟨v, rfl, v0, v1, h⟩) | (go_at_call 140; refine (num_rk _ _ _ _ h (by omega)).mono ?_; rintro e wx ⟨v, rfl, v0, v1, h⟩))
  all_goals go_ret
  all_goals exact ⟨_, rfl, by omega, by omega, h.more (by omega)⟩
theorem fill0 {w : World} {g : Nat} {x u v : Value} (c0 : w.cell? ⟨g, 0, none⟩ = some x) : ((w.setCell ⟨g, 0, none⟩ u).setCell ⟨g, 1, none⟩ v).cell? ⟨g, 0, none⟩ = some u := by
  rw [World.cell?_setCell_other _ _ _ _ (by simp), World.cell?_setCell_same _ _ _ (by rw [c0])]
theorem fill1 {w : World} {g : Nat} {x y u v : Value} (c0 : w.cell? ⟨g, 0, none⟩ = some x) (c1 : w.cell? ⟨g, 1, none⟩ = some y) : ((w.setCell ⟨g, 0, none⟩ u).setCell ⟨g, 1, none⟩ v).cell? ⟨g, 1, none⟩ = some v := by
  rw [World.cell?_setCell_same _ _ _ (by rw [World.cell?_setCell_other _ _ _ _ (by simp), c1])]
set_option maxRecDepth 100000 in
set_option maxHeartbeats 4000000 in
theorem l8Range_rk (w0 w : World) (r B : Nat) (h : Rk w0 r B w) (hk : B ≤ 800000000000) :
    Calls Tryd.prog 160 #[.pointer (some ⟨r, 0, none⟩)] w fun e w' => (∃ lo hi : Int, e = .returned (.agg #[.int .i64 lo, .int .i64 hi]) ∧ rOk (lo, hi) = true) ∧ Rk w0 r (B + 14) w' := by
  have hr := h.lt
  obtain ⟨W, hW, d0, d1, hlt, hB, y0, y1, hsz⟩ := box2 w (.int .i64 0) (.int .i64 0) 24
  have hne : w.heap.size ≠ r := by omega
  have h0 := h
  have h := (h.call hB).here
  have hup : ∀ {w'}, Rk w r (B + 14) w' → Rk w0 r (B + 14) w' := fun k => h0.trans k
  have hdn : ∀ {n w'}, Rk W r n w' → Rk w r n w' := fun k => (h0.here.call hB).trans k
  go_enter Tryd.func160, Tryd.ntmps160
  go_wp2_with fail
  rw [← hW]
  clear hW h0
  go_wp2_with (first | (go_at_call 109; refine (pick_rk _ _ _ _ _ h (by omega) (by omega) (by omega)).mono ?_; rintro e wx ⟨v, rfl, v0, v1, h⟩; have c0 := h.cell (b := w.heap.size) (o := 0) (v := .int .i64 0) hlt hne d0; have c1 := h.cell (b := w.heap.size) (o := 1) (v := .int .i64 0) hlt hne d1; have z0 := h.fz (b := w.heap.size) (o := 0) hlt hne y0; have z1 := h.fz (b := w.heap.size) (o := 1) hlt hne y1) | (go_at_call 140; refine (num_rk _ _ _ _ h (by omega)).mono ?_; rintro e wx ⟨v, rfl, v0, v1, h⟩; have c0 := h.cell (b := w.heap.size) (o := 0) (v := .int .i64 0) hlt hne d0; have c1 := h.cell (b := w.heap.size) (o := 1) (v := .int .i64 0) hlt hne d1; have z0 := h.fz (b := w.heap.size) (o := 0) hlt hne y0; have z1 := h.fz (b := w.heap.size) (o := 1) hlt hne y1) | (go_at_call 89; refine (l8None_any _).mono ?_; rintro e wx ⟨rfl, hb⟩; replace h := h.call hb; have c0 := h.cell (b := w.heap.size) (o := 0) (v := .int .i64 0) hlt hne d0; have c1 := h.cell (b := w.heap.size) (o := 1) (v := .int .i64 0) hlt hne d1; have z0 := h.fz (b := w.heap.size) (o := 0) hlt hne y0; have z1 := h.fz (b := w.heap.size) (o := 1) hlt hne y1) | (go_at_call 118; refine (l8Cut_any _ _ _).mono ?_; rintro e wx ⟨rfl, hb⟩; replace h := h.call hb; have c0 := h.cell (b := w.heap.size) (o := 0) (v := .int .i64 0) hlt hne d0; have c1 := h.cell (b := w.heap.size) (o := 1) (v := .int .i64 0) hlt hne d1; have z0 := h.fz (b := w.heap.size) (o := 0) hlt hne y0; have z1 := h.fz (b := w.heap.size) (o := 1) hlt hne y1) | (go_at_call 144; refine (l8Min_any _ _ _).mono ?_; rintro e w' ⟨rfl, rfl⟩) | (go_at_call 145; refine (l8Max_any _ _ _).mono ?_; rintro e w' ⟨rfl, rfl⟩))
  all_goals refine bodyPost_ret (results_two rfl _ _ w.heap.size _ _ _ rfl (fill0 c0) (fill1 c0 c1) Tryd.underlying24 rfl (by kernel_rfl)) rfl ?_
  all_goals refine ⟨⟨_, _, rfl, ?_⟩, hup (((hdn (h.more (by omega))).set (Nat.le_refl _) _).set (Nat.le_refl _) _)⟩
  all_goals first
    | exact rOk_none
    | exact cut8_ok _ _
    | exact some_ok ⟨by simp only; omega, by simp only; omega, by simp only; omega⟩
    | decide
set_option maxRecDepth 100000 in
set_option maxHeartbeats 4000000 in
theorem l8Wild_rk (w0 w : World) (r B : Nat) (h : Rk w0 r B w) (hk : B ≤ 700000000000) :
    Calls Tryd.prog 83 #[.pointer (some ⟨r, 0, none⟩)] w fun e w' => (∃ lo hi : Int, e = .returned (.agg #[.int .i64 lo, .int .i64 hi]) ∧ (-9223372036854775808 ≤ lo ∧ lo ≤ 9223372036854775807 ∧ -9223372036854775808 ≤ hi ∧ hi ≤ 9223372036854775807)) ∧ Rk w0 r (B + 16) w' := by
  have hr := h.lt
  obtain ⟨W, hW, d0, d1, hlt, hB, y0, y1, hsz⟩ := box2 w (.int .i64 0) (.int .i64 0) 24
  have hne : w.heap.size ≠ r := by omega
  have h0 := h
  have h := (h.call hB).here
  have hup : ∀ {n w'}, Rk w r n w' → Rk w0 r n w' := fun k => h0.trans k
  have hdn : ∀ {n w'}, Rk W r n w' → Rk w r n w' := fun k => (h0.here.call hB).trans k
  go_enter Tryd.func83, Tryd.ntmps83
  go_wp2_with fail
  rw [← hW]
  clear hW h0
  go_wp2_with (first | (go_at_call 109; refine (pick_rk _ _ _ _ _ h (by omega) (by omega) (by omega)).mono ?_; rintro e wx ⟨v, rfl, v0, v1, h⟩; have c0 := h.cell (b := w.heap.size) (o := 0) (v := .int .i64 0) hlt hne d0; have c1 := h.cell (b := w.heap.size) (o := 1) (v := .int .i64 0) hlt hne d1; have z0 := h.fz (b := w.heap.size) (o := 0) hlt hne y0; have z1 := h.fz (b := w.heap.size) (o := 1) hlt hne y1) | (go_at_call 141; refine (wild_rk _ _ _ _ h (by omega)).mono ?_; rintro e wx ⟨v, rfl, v0, v1, h⟩; have c0 := h.cell (b := w.heap.size) (o := 0) (v := .int .i64 0) hlt hne d0; have c1 := h.cell (b := w.heap.size) (o := 1) (v := .int .i64 0) hlt hne d1; have z0 := h.fz (b := w.heap.size) (o := 0) hlt hne y0; have z1 := h.fz (b := w.heap.size) (o := 1) hlt hne y1) | (go_at_call 160; refine (l8Range_rk _ _ _ _ h (by omega)).mono ?_; rintro e wx ⟨⟨lo, hi, rfl, hok⟩, h⟩; have c0 := h.cell (b := w.heap.size) (o := 0) (v := .int .i64 0) hlt hne d0; have c1 := h.cell (b := w.heap.size) (o := 1) (v := .int .i64 0) hlt hne d1; have z0 := h.fz (b := w.heap.size) (o := 0) hlt hne y0; have z1 := h.fz (b := w.heap.size) (o := 1) hlt hne y1))
  all_goals refine bodyPost_ret (results_two rfl _ _ w.heap.size _ _ _ rfl (fill0 c0) (fill1 c0 c1) Tryd.underlying24 rfl (by kernel_rfl)) rfl ?_
  all_goals refine ⟨⟨_, _, rfl, ?_⟩, hup (((hdn (h.more (by omega))).set (Nat.le_refl _) _).set (Nat.le_refl _) _)⟩
  all_goals first
    | exact ⟨by omega, by omega, by omega, by omega⟩
    | (have hq := (rOk_iff _).1 hok; simp only at hq; exact ⟨by omega, by omega, by omega, by omega⟩)
set_option maxRecDepth 100000 in
set_option maxHeartbeats 4000000 in
theorem l8Shift_rk (w0 w : World) (r B : Nat) (op : Int) (h : Rk w0 r B w) (hk : B ≤ 700000000000) :
    Calls Tryd.prog 131 #[.pointer (some ⟨r, 0, none⟩), .int .i64 op] w fun e w' => (∃ lo hi : Int, e = .returned (.agg #[.int .i64 lo, .int .i64 hi]) ∧ rOk (lo, hi) = true) ∧ Rk w0 r (B + 16) w' := by
  have hr := h.lt
  obtain ⟨W, hW, d0, d1, hlt, hB, y0, y1, hsz⟩ := box2 w (.int .i64 0) (.int .i64 0) 24
  have hne : w.heap.size ≠ r := by omega
  have h0 := h
  have h := (h.call hB).here
  have hup : ∀ {n w'}, Rk w r n w' → Rk w0 r n w' := fun k => h0.trans k
  have hdn : ∀ {n w'}, Rk W r n w' → Rk w r n w' := fun k => (h0.here.call hB).trans k
  go_enter Tryd.func131, Tryd.ntmps131
  go_wp2_with fail
  all_goals rw [← hW]
  all_goals clear hW h0
  all_goals go_wp2_with (first | (go_at_call 109; refine (pick_rk _ _ _ _ _ h (by omega) (by omega) (by omega)).mono ?_; rintro e wx ⟨v, rfl, v0, v1, h⟩; have c0 := h.cell (b := w.heap.size) (o := 0) (v := .int .i64 0) hlt hne d0; have c1 := h.cell (b := w.heap.size) (o := 1) (v := .int .i64 0) hlt hne d1; have z0 := h.fz (b := w.heap.size) (o := 0) hlt hne y0; have z1 := h.fz (b := w.heap.size) (o := 1) hlt hne y1) | (go_at_call 160; refine (l8Range_rk _ _ _ _ h (by omega)).mono ?_; rintro e wx ⟨⟨lo, hi, rfl, hok⟩, h⟩; have c0 := h.cell (b := w.heap.size) (o := 0) (v := .int .i64 0) hlt hne d0; have c1 := h.cell (b := w.heap.size) (o := 1) (v := .int .i64 0) hlt hne d1; have z0 := h.fz (b := w.heap.size) (o := 0) hlt hne y0; have z1 := h.fz (b := w.heap.size) (o := 1) hlt hne y1) | (go_at_call 118; refine (l8Cut_any _ _ _).mono ?_; rintro e wx ⟨rfl, hb⟩; replace h := h.call hb; have c0 := h.cell (b := w.heap.size) (o := 0) (v := .int .i64 0) hlt hne d0; have c1 := h.cell (b := w.heap.size) (o := 1) (v := .int .i64 0) hlt hne d1; have z0 := h.fz (b := w.heap.size) (o := 0) hlt hne y0; have z1 := h.fz (b := w.heap.size) (o := 1) hlt hne y1))
  all_goals refine bodyPost_ret (results_two rfl _ _ w.heap.size _ _ _ rfl (fill0 c0) (fill1 c0 c1) Tryd.underlying24 rfl (by kernel_rfl)) rfl ?_
  all_goals refine ⟨⟨_, _, rfl, ?_⟩, hup (((hdn (h.more (by omega))).set (Nat.le_refl _) _).set (Nat.le_refl _) _)⟩
  all_goals first
    | exact cut8_ok _ _
    | exact hok
end Go.Proofs.YthbbgkpkijlclaaDoor.num
