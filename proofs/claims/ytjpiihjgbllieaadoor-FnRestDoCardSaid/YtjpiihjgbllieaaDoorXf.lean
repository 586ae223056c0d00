/-
  The functions that restOperator tells of: shifts.
-/
import Derived.Test.YtjpiihjgbllieaaDoorXe
import Derived.Test.YtjpiihjgbllieaaDoorTb
namespace Go.Proofs.YtjpiihjgbllieaaDoor.num
open Go.ChangeShapes Go.WideShapes Go.ChangeAt Go.RowKit
set_option linter.unusedVariables false

theorem gv_shifts {w : World} (h : Gv w 3 (0, 31)) : 3 < w.heap.size ∧ w.cell? ⟨3, 0, none⟩ = some (.int .i64 0) ∧ w.cell? ⟨3, 1, none⟩ = some (.int .i64 31) ∧ 0 < w.heap.size ∧ 1 < w.heap.size ∧ 2 < w.heap.size := ⟨h.1, h.2.1, h.2.2, by have := h.1; omega, by have := h.1; omega, by have := h.1; omega⟩
set_option maxRecDepth 100000 in
set_option maxHeartbeats 4000000 in
theorem shiftR_rest (x y x2 y2 : Int) (w : World) (hG : Gq w) (hS : Gv w 3 (0, 31)) (hx2 : x2 ≠ 0) :
    Calls Tryd.prog 136 #[.agg #[.int .i64 x, .int .i64 y], .agg #[.int .i64 x2, .int .i64 y2]] w fun e w' => e = .returned (.agg #[.int .i64 1, .int .i64 0]) ∧ Below w.heap.size w w' := by
  obtain ⟨W, hW, H⟩ := Hd.three w (.int .i64 x) (.int .i64 y) (.int .i64 x2) (.int .i64 y2) (.int .i64 0) (.int .i64 0) 24 24 24
  have hd : decide (x2 = 0) = false := by simp [hx2]
  go_enter Tryd.func136, Tryd.ntmps136
  go_wp2_with fail
  rw [← hW]
  clear hW
  have c0 := H.get (b := w.heap.size) (o := 0) (v := .int .i64 x) (by simp)
  have c1 := H.get (b := w.heap.size) (o := 1) (v := .int .i64 y) (by simp)
  have c2 := H.get (b := w.heap.size + 1) (o := 0) (v := .int .i64 x2) (by simp)
  have c3 := H.get (b := w.heap.size + 1) (o := 1) (v := .int .i64 y2) (by simp)
  have c4 := H.get (b := w.heap.size + 2) (o := 0) (v := .int .i64 0) (by simp)
  have c5 := H.get (b := w.heap.size + 2) (o := 1) (v := .int .i64 0) (by simp)
  have z0 := H.fz (b := w.heap.size + 2) (o := 0) (v := .int .i64 0) (by simp)
  have z1 := H.fz (b := w.heap.size + 2) (o := 1) (v := .int .i64 0) (by simp)
  obtain ⟨gs, g0, g1, gz⟩ := Gq.all (Gv.below hG H.below); obtain ⟨ss, s0, s1, sa, sb, sc⟩ := gv_shifts (Gv.below hS H.below)
  go_wp2_with (first | (go_at_call 59; refine (single_xy _ _ _).mono ?_; rintro e w' ⟨rfl, hb⟩; rw [hd]; replace H := H.call hb; have c0 := H.get (b := w.heap.size) (o := 0) (v := .int .i64 x) (by simp); have c1 := H.get (b := w.heap.size) (o := 1) (v := .int .i64 y) (by simp); have c2 := H.get (b := w.heap.size + 1) (o := 0) (v := .int .i64 x2) (by simp); have c3 := H.get (b := w.heap.size + 1) (o := 1) (v := .int .i64 y2) (by simp); have c4 := H.get (b := w.heap.size + 2) (o := 0) (v := .int .i64 0) (by simp); have c5 := H.get (b := w.heap.size + 2) (o := 1) (v := .int .i64 0) (by simp); have z0 := H.fz (b := w.heap.size + 2) (o := 0) (v := .int .i64 0) (by simp); have z1 := H.fz (b := w.heap.size + 2) (o := 1) (v := .int .i64 0) (by simp); obtain ⟨gs, g0, g1, gz⟩ := Gq.all (Gv.below hG H.below); obtain ⟨ss, s0, s1, sa, sb, sc⟩ := gv_shifts (Gv.below hS H.below)))
  obtain ⟨f0, f1, fb⟩ := H.fill (b := w.heap.size + 2) (x := .int .i64 0) (y := .int .i64 0) (by simp) (by simp) (by omega) (.int .i64 1) (.int .i64 0)
  refine bodyPost_ret (results_two rfl _ _ (w.heap.size + 2) (.int .i64 1) (.int .i64 0) _ rfl f0 f1 Tryd.underlying24 rfl (by kernel_rfl)) rfl ?_
  exact ⟨rfl, fb⟩
set_option maxRecDepth 100000 in
set_option maxHeartbeats 4000000 in
theorem shiftR_out (x y y2 : Int) (w : World) (hG : Gq w) (hS : Gv w 3 (0, 31)) (hs : ¬ (0 ≤ y2 ∧ y2 ≤ 31)) :
    Calls Tryd.prog 136 #[.agg #[.int .i64 x, .int .i64 y], .agg #[.int .i64 0, .int .i64 y2]] w fun e w' => e = .returned (.agg #[.int .i64 1, .int .i64 0]) ∧ Below w.heap.size w w' := by
  obtain ⟨W, hW, H⟩ := Hd.three w (.int .i64 x) (.int .i64 y) (.int .i64 0) (.int .i64 y2) (.int .i64 0) (.int .i64 0) 24 24 24
  have hd : (decide ((0 : Int) ≤ y2) && decide (y2 ≤ 31)) = false := by rw [← Bool.not_eq_true, Bool.and_eq_true]; simpa using hs
  go_enter Tryd.func136, Tryd.ntmps136
  go_wp2_with fail
  rw [← hW]
  clear hW
  have c0 := H.get (b := w.heap.size) (o := 0) (v := .int .i64 x) (by simp)
  have c1 := H.get (b := w.heap.size) (o := 1) (v := .int .i64 y) (by simp)
  have c2 := H.get (b := w.heap.size + 1) (o := 0) (v := .int .i64 0) (by simp)
  have c3 := H.get (b := w.heap.size + 1) (o := 1) (v := .int .i64 y2) (by simp)
  have c4 := H.get (b := w.heap.size + 2) (o := 0) (v := .int .i64 0) (by simp)
  have c5 := H.get (b := w.heap.size + 2) (o := 1) (v := .int .i64 0) (by simp)
  have z0 := H.fz (b := w.heap.size + 2) (o := 0) (v := .int .i64 0) (by simp)
  have z1 := H.fz (b := w.heap.size + 2) (o := 1) (v := .int .i64 0) (by simp)
  obtain ⟨gs, g0, g1, gz⟩ := Gq.all (Gv.below hG H.below); obtain ⟨ss, s0, s1, sa, sb, sc⟩ := gv_shifts (Gv.below hS H.below)
  go_wp2_with (first | (go_at_call 59; refine (single_xy _ _ _).mono ?_; rintro e w' ⟨rfl, hb⟩; simp only [decide_true]; replace H := H.call hb; have c0 := H.get (b := w.heap.size) (o := 0) (v := .int .i64 x) (by simp); have c1 := H.get (b := w.heap.size) (o := 1) (v := .int .i64 y) (by simp); have c2 := H.get (b := w.heap.size + 1) (o := 0) (v := .int .i64 0) (by simp); have c3 := H.get (b := w.heap.size + 1) (o := 1) (v := .int .i64 y2) (by simp); have c4 := H.get (b := w.heap.size + 2) (o := 0) (v := .int .i64 0) (by simp); have c5 := H.get (b := w.heap.size + 2) (o := 1) (v := .int .i64 0) (by simp); have z0 := H.fz (b := w.heap.size + 2) (o := 0) (v := .int .i64 0) (by simp); have z1 := H.fz (b := w.heap.size + 2) (o := 1) (v := .int .i64 0) (by simp); obtain ⟨gs, g0, g1, gz⟩ := Gq.all (Gv.below hG H.below); obtain ⟨ss, s0, s1, sa, sb, sc⟩ := gv_shifts (Gv.below hS H.below)) | (go_at_call 109; refine (ihas_xy _ _ _ _).mono ?_; rintro e w' ⟨rfl, hb⟩; rw [hd]; replace H := H.call hb; have c0 := H.get (b := w.heap.size) (o := 0) (v := .int .i64 x) (by simp); have c1 := H.get (b := w.heap.size) (o := 1) (v := .int .i64 y) (by simp); have c2 := H.get (b := w.heap.size + 1) (o := 0) (v := .int .i64 0) (by simp); have c3 := H.get (b := w.heap.size + 1) (o := 1) (v := .int .i64 y2) (by simp); have c4 := H.get (b := w.heap.size + 2) (o := 0) (v := .int .i64 0) (by simp); have c5 := H.get (b := w.heap.size + 2) (o := 1) (v := .int .i64 0) (by simp); have z0 := H.fz (b := w.heap.size + 2) (o := 0) (v := .int .i64 0) (by simp); have z1 := H.fz (b := w.heap.size + 2) (o := 1) (v := .int .i64 0) (by simp); obtain ⟨gs, g0, g1, gz⟩ := Gq.all (Gv.below hG H.below); obtain ⟨ss, s0, s1, sa, sb, sc⟩ := gv_shifts (Gv.below hS H.below)))
  obtain ⟨f0, f1, fb⟩ := H.fill (b := w.heap.size + 2) (x := .int .i64 0) (y := .int .i64 0) (by simp) (by simp) (by omega) (.int .i64 1) (.int .i64 0)
  refine bodyPost_ret (results_two rfl _ _ (w.heap.size + 2) (.int .i64 1) (.int .i64 0) _ rfl f0 f1 Tryd.underlying24 rfl (by kernel_rfl)) rfl ?_
  exact ⟨rfl, fb⟩
set_option maxRecDepth 100000 in
set_option maxHeartbeats 4000000 in
theorem shiftR_in (x y y2 : Int) (w : World) (hG : Gq w) (hS : Gv w 3 (0, 31)) (hs : 0 ≤ y2 ∧ y2 ≤ 31) (h : qOk (x, y) = true) :
    Calls Tryd.prog 136 #[.agg #[.int .i64 x, .int .i64 y], .agg #[.int .i64 0, .int .i64 y2]] w fun e w' => e = .returned (.agg #[.int .i64 (make9 (x * 2 ^ y2.toNat) (y * 2 ^ y2.toNat)).1, .int .i64 (make9 (x * 2 ^ y2.toNat) (y * 2 ^ y2.toNat)).2]) ∧ Below w.heap.size w w' := by
  obtain ⟨W, hW, H⟩ := Hd.three w (.int .i64 x) (.int .i64 y) (.int .i64 0) (.int .i64 y2) (.int .i64 0) (.int .i64 0) 24 24 24
  have hd : (decide ((0 : Int) ≤ y2) && decide (y2 ≤ 31)) = true := by simp; exact hs
  have hx := (qOk_iff _).1 h
  simp only at hx
  have p1 := two_pow_pos y2.toNat
  have p2 := two_pow_le y2.toNat 31 (by omega)
  have e31 : (2 : Int) ^ 31 = 2147483648 := by decide
  obtain ⟨m2, m3⟩ := mul_bd x (2 ^ y2.toNat) ⟨by omega, by omega⟩ ⟨by omega, by omega⟩
  obtain ⟨m4, m5⟩ := mul_bd y (2 ^ y2.toNat) ⟨by omega, by omega⟩ ⟨by omega, by omega⟩
  have m6 : 0 ≤ x * 2 ^ y2.toNat := Int.mul_nonneg (by omega) (by omega)
  have hw0 : wrap64 (2 ^ y2.toNat) = 2 ^ y2.toNat := w64_id (by omega) (by omega)
  clear p2 e31
  have w1 : wrap64 (x * 2 ^ y2.toNat) = x * 2 ^ y2.toNat := w64_id (by omega) (by omega)
  have w2 : wrap64 (y * 2 ^ y2.toNat) = y * 2 ^ y2.toNat := w64_id (by omega) (by omega)
  have hm3 : ∀ w1 : World, Calls Tryd.prog 74 #[.int .i64 (y * 2 ^ y2.toNat), .int .i64 (x * 2 ^ y2.toNat)] w1 fun e w' => e = .returned (.agg #[.int .i64 (make9 (x * 2 ^ y2.toNat) (y * 2 ^ y2.toNat)).1, .int .i64 (make9 (x * 2 ^ y2.toNat) (y * 2 ^ y2.toNat)).2]) ∧ Below w1.heap.size w1 w' := fun w1 => restOf_any (y * 2 ^ y2.toNat) (x * 2 ^ y2.toNat) m6 (by omega) w1
  generalize make9 (x * 2 ^ y2.toNat) (y * 2 ^ y2.toNat) = q at *
  go_enter Tryd.func136, Tryd.ntmps136
  go_wp2_with fail
  rw [← hW]
  clear hW
  have c0 := H.get (b := w.heap.size) (o := 0) (v := .int .i64 x) (by simp)
  have c1 := H.get (b := w.heap.size) (o := 1) (v := .int .i64 y) (by simp)
  have c2 := H.get (b := w.heap.size + 1) (o := 0) (v := .int .i64 0) (by simp)
  have c3 := H.get (b := w.heap.size + 1) (o := 1) (v := .int .i64 y2) (by simp)
  have c4 := H.get (b := w.heap.size + 2) (o := 0) (v := .int .i64 0) (by simp)
  have c5 := H.get (b := w.heap.size + 2) (o := 1) (v := .int .i64 0) (by simp)
  have z0 := H.fz (b := w.heap.size + 2) (o := 0) (v := .int .i64 0) (by simp)
  have z1 := H.fz (b := w.heap.size + 2) (o := 1) (v := .int .i64 0) (by simp)
  obtain ⟨gs, g0, g1, gz⟩ := Gq.all (Gv.below hG H.below); obtain ⟨ss, s0, s1, sa, sb, sc⟩ := gv_shifts (Gv.below hS H.below)
  go_wp2_with (first | (go_at_call 59; refine (single_xy _ _ _).mono ?_; rintro e w' ⟨rfl, hb⟩; simp only [decide_true]; replace H := H.call hb; have c0 := H.get (b := w.heap.size) (o := 0) (v := .int .i64 x) (by simp); have c1 := H.get (b := w.heap.size) (o := 1) (v := .int .i64 y) (by simp); have c2 := H.get (b := w.heap.size + 1) (o := 0) (v := .int .i64 0) (by simp); have c3 := H.get (b := w.heap.size + 1) (o := 1) (v := .int .i64 y2) (by simp); have c4 := H.get (b := w.heap.size + 2) (o := 0) (v := .int .i64 0) (by simp); have c5 := H.get (b := w.heap.size + 2) (o := 1) (v := .int .i64 0) (by simp); have z0 := H.fz (b := w.heap.size + 2) (o := 0) (v := .int .i64 0) (by simp); have z1 := H.fz (b := w.heap.size + 2) (o := 1) (v := .int .i64 0) (by simp); obtain ⟨gs, g0, g1, gz⟩ := Gq.all (Gv.below hG H.below); obtain ⟨ss, s0, s1, sa, sb, sc⟩ := gv_shifts (Gv.below hS H.below)) | (go_at_call 109; refine (ihas_xy _ _ _ _).mono ?_; rintro e w' ⟨rfl, hb⟩; rw [hd]; replace H := H.call hb; have c0 := H.get (b := w.heap.size) (o := 0) (v := .int .i64 x) (by simp); have c1 := H.get (b := w.heap.size) (o := 1) (v := .int .i64 y) (by simp); have c2 := H.get (b := w.heap.size + 1) (o := 0) (v := .int .i64 0) (by simp); have c3 := H.get (b := w.heap.size + 1) (o := 1) (v := .int .i64 y2) (by simp); have c4 := H.get (b := w.heap.size + 2) (o := 0) (v := .int .i64 0) (by simp); have c5 := H.get (b := w.heap.size + 2) (o := 1) (v := .int .i64 0) (by simp); have z0 := H.fz (b := w.heap.size + 2) (o := 0) (v := .int .i64 0) (by simp); have z1 := H.fz (b := w.heap.size + 2) (o := 1) (v := .int .i64 0) (by simp); obtain ⟨gs, g0, g1, gz⟩ := Gq.all (Gv.below hG H.below); obtain ⟨ss, s0, s1, sa, sb, sc⟩ := gv_shifts (Gv.below hS H.below)) | (go_at_call 74; refine (hm3 _).mono ?_; rintro e w' ⟨rfl, hb⟩; replace H := H.call hb; have c0 := H.get (b := w.heap.size) (o := 0) (v := .int .i64 x) (by simp); have c1 := H.get (b := w.heap.size) (o := 1) (v := .int .i64 y) (by simp); have c2 := H.get (b := w.heap.size + 1) (o := 0) (v := .int .i64 0) (by simp); have c3 := H.get (b := w.heap.size + 1) (o := 1) (v := .int .i64 y2) (by simp); have c4 := H.get (b := w.heap.size + 2) (o := 0) (v := .int .i64 0) (by simp); have c5 := H.get (b := w.heap.size + 2) (o := 1) (v := .int .i64 0) (by simp); have z0 := H.fz (b := w.heap.size + 2) (o := 0) (v := .int .i64 0) (by simp); have z1 := H.fz (b := w.heap.size + 2) (o := 1) (v := .int .i64 0) (by simp)))
  obtain ⟨f0, f1, fb⟩ := H.fill (b := w.heap.size + 2) (x := .int .i64 0) (y := .int .i64 0) (by simp) (by simp) (by omega) (.int .i64 q.1) (.int .i64 q.2)
  refine bodyPost_ret (results_two rfl _ _ (w.heap.size + 2) (.int .i64 q.1) (.int .i64 q.2) _ rfl f0 f1 Tryd.underlying24 rfl (by kernel_rfl)) rfl ?_
  exact ⟨rfl, fb⟩
end Go.Proofs.YtjpiihjgbllieaaDoor.num
