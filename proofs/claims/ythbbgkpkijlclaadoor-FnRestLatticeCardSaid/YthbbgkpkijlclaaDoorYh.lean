/-
  DrawRestMeet.
-/
import Derived.Test.YthbbgkpkijlclaaDoorYg
namespace Go.Proofs.YthbbgkpkijlclaaDoor.num
open Go.ChangeShapes Go.WideShapes Go.ChangeAt Go.RowKit
set_option linter.unusedVariables false


set_option maxRecDepth 100000 in
set_option maxHeartbeats 4000000 in
theorem drawRestMeet_any (w : World) (a : Option Addr) (len cap : Nat) (h : Code8 w a len) (hl : len ≤ cap) (hm : cap ≤ 9223372036854775807) :
    Calls Tryd.prog 70 #[.slice a len cap] w fun e w' => (∃ lo hi lo2 hi2 : Int, e = .returned (.tuple #[.agg #[.int .i64 lo, .int .i64 hi], .agg #[.int .i64 lo2, .int .i64 hi2]])) ∧ Below w.heap.size w w' := by
  obtain ⟨W, hW, H⟩ := Hd.two w (.int .i64 0) (.int .i64 0) (.int .i64 0) (.int .i64 0) 26 26
  have hc := h.below H.below
  have hsz : W.heap.size = w.heap.size + 2 := by rw [hW]; simp
  go_enter Tryd.func70, Tryd.ntmps70
  go_wp2_with fail
  rw [← hW]
  clear hW h
  refine (open_any W a len cap hc hl hm).mono ?_
  rintro e w1 ⟨rfl, hst⟩
  have H1 := H.call (hst.below)
  have h := Rk.of_st hst
  have hr : W.heap.size < w1.heap.size := h.lt
  clear hst hc H
  generalize hrr : W.heap.size = r at *
  have hge : w.heap.size + 2 ≤ r := by omega
  clear hsz hrr
  have HH := hide H1
  clear H1
  go_wp2_with fail
  refine (l9Two_rk _ _ _ _ h (by omega)).mono ?_
  rintro e w2 ⟨⟨lo, hi, lo2, hi2, rfl⟩, h⟩
  have hs2 := h.size
  have b4 : w2.cell? ⟨w.heap.size, 0, none⟩ = some (.int .i64 0) := h.cell (by omega) (by omega) ((unhide HH).get (by simp))
  have b5 : w2.cell? ⟨w.heap.size, 1, none⟩ = some (.int .i64 0) := h.cell (by omega) (by omega) ((unhide HH).get (by simp))
  have b6 : w2.cell? ⟨w.heap.size + 1, 0, none⟩ = some (.int .i64 0) := h.cell (by omega) (by omega) ((unhide HH).get (by simp))
  have b7 : w2.cell? ⟨w.heap.size + 1, 1, none⟩ = some (.int .i64 0) := h.cell (by omega) (by omega) ((unhide HH).get (by simp))
  have y4 : w2.frozen? ⟨w.heap.size, 0, none⟩ = false := h.fz (by omega) (by omega) ((unhide HH).fz (v := .int .i64 0) (by simp))
  have y5 : w2.frozen? ⟨w.heap.size, 1, none⟩ = false := h.fz (by omega) (by omega) ((unhide HH).fz (v := .int .i64 0) (by simp))
  have y6 : w2.frozen? ⟨w.heap.size + 1, 0, none⟩ = false := h.fz (by omega) (by omega) ((unhide HH).fz (v := .int .i64 0) (by simp))
  have y7 : w2.frozen? ⟨w.heap.size + 1, 1, none⟩ = false := h.fz (by omega) (by omega) ((unhide HH).fz (v := .int .i64 0) (by simp))
  have L2 : Hd w2 [] w2 := Hd.start w2
  have L4 := (L2.box (.int .i64 lo) (.int .i64 hi) 26).box (.int .i64 lo2) (.int .i64 hi2) 26
  rw [size_alloc1] at L4
  have hbw : Below w.heap.size w w2 := (unhide HH).below.trans (h.below (by omega) (by omega))
  have hlt : w.heap.size + 2 ≤ w2.heap.size := by omega
  clear h hs2 HH
  go_upto_region 3 with fail
  have hB4 : Below w2.heap.size w2 ((w2.alloc (.cells #[.int .i64 lo, .int .i64 hi] 26)).alloc (.cells #[.int .i64 lo2, .int .i64 hi2] 26)) := L4.below
  generalize (w2.alloc (.cells #[.int .i64 lo, .int .i64 hi] 26)).alloc (.cells #[.int .i64 lo2, .int .i64 hi2] 26) = W4 at *
  have c0 := L4.get (b := w2.heap.size) (o := 0) (v := .int .i64 lo) (by simp)
  have c1 := L4.get (b := w2.heap.size) (o := 1) (v := .int .i64 hi) (by simp)
  have c2 := L4.get (b := w2.heap.size + 1) (o := 0) (v := .int .i64 lo2) (by simp)
  have c3 := L4.get (b := w2.heap.size + 1) (o := 1) (v := .int .i64 hi2) (by simp)
  have d4 : W4.cell? ⟨w.heap.size, 0, none⟩ = some (.int .i64 0) := by rw [hB4.cell (p := ⟨w.heap.size, 0, none⟩) (by show w.heap.size < _; omega)]; exact b4
  have d5 : W4.cell? ⟨w.heap.size, 1, none⟩ = some (.int .i64 0) := by rw [hB4.cell (p := ⟨w.heap.size, 1, none⟩) (by show w.heap.size < _; omega)]; exact b5
  have d6 : W4.cell? ⟨w.heap.size + 1, 0, none⟩ = some (.int .i64 0) := by rw [hB4.cell (p := ⟨w.heap.size + 1, 0, none⟩) (by show w.heap.size + 1 < _; omega)]; exact b6
  have d7 : W4.cell? ⟨w.heap.size + 1, 1, none⟩ = some (.int .i64 0) := by rw [hB4.cell (p := ⟨w.heap.size + 1, 1, none⟩) (by show w.heap.size + 1 < _; omega)]; exact b7
  have x4 : W4.frozen? ⟨w.heap.size, 0, none⟩ = false := by rw [hB4.frozen (p := ⟨w.heap.size, 0, none⟩) (by show w.heap.size < _; omega)]; exact y4
  have x5 : W4.frozen? ⟨w.heap.size, 1, none⟩ = false := by rw [hB4.frozen (p := ⟨w.heap.size, 1, none⟩) (by show w.heap.size < _; omega)]; exact y5
  have x6 : W4.frozen? ⟨w.heap.size + 1, 0, none⟩ = false := by rw [hB4.frozen (p := ⟨w.heap.size + 1, 0, none⟩) (by show w.heap.size + 1 < _; omega)]; exact y6
  have x7 : W4.frozen? ⟨w.heap.size + 1, 1, none⟩ = false := by rw [hB4.frozen (p := ⟨w.heap.size + 1, 1, none⟩) (by show w.heap.size + 1 < _; omega)]; exact y7
  have hb4 : Below w.heap.size w W4 := below_up hbw (by omega) hB4
  clear b4 b5 b6 b7 y4 y5 y6 y7 L2 L4 hB4 hbw
  generalize hg : w2.heap.size = g at *
  clear hg
  go_region
  go_wp2_with fail
  refine bodyPost_ret (results_two_two rfl _ _ w.heap.size (w.heap.size + 1) (.int .i64 lo) (.int .i64 hi) (.int .i64 lo2) (.int .i64 hi2) _ rfl rfl (by simp [go_sem, d4]) (by simp [go_sem, d5]) (by simp [go_sem, d6]) (by simp [go_sem, d7]) Tryd.underlying26 rfl (by kernel_rfl)) rfl ?_
  exact ⟨⟨_, _, _, _, rfl⟩, by first | exact ((((hb4.setCell (by exact Nat.le_refl _) _).setCell (by exact Nat.le_refl _) _).setCell (by exact Nat.le_add_right _ _) _).setCell (by exact Nat.le_add_right _ _) _) | exact ((((hb4.setCell (by exact Nat.le_refl _) _).setCell (by exact Nat.le_refl _) _).setCell (by exact Nat.le_add_right _ _) _).setCell (by exact Nat.le_add_right _ _) _).drew⟩
end Go.Proofs.YthbbgkpkijlclaaDoor.num
