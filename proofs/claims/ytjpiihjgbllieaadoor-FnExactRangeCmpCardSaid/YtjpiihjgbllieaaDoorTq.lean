/-
  The model's l8Ne; RangeCmp.
-/
import Derived.Test.YtjpiihjgbllieaaDoorTp
namespace Go.Proofs.YtjpiihjgbllieaaDoor.num
open Go.ChangeShapes Go.WideShapes Go.ChangeAt Go.RowKit
set_option linter.unusedVariables false

set_option maxRecDepth 100000 in
set_option maxHeartbeats 4000000 in
theorem l8Ne_xy (x y x2 y2 : Int) (hx1 : -2147483648 ≤ x) (hx2 : y ≤ 2147483647) (hx3 : x ≤ y) (hy1 : -2147483648 ≤ x2) (hy2 : y2 ≤ 2147483647) (hy3 : x2 ≤ y2) (w : World) :
    Calls Tryd.prog 98 #[.agg #[.int .i64 x, .int .i64 y], .agg #[.int .i64 x2, .int .i64 y2]] w fun e w' => e = .returned (.agg #[.int .i64 (ne8 (x, y) (x2, y2)).1, .int .i64 (ne8 (x, y) (x2, y2)).2]) ∧ Below w.heap.size w w' := by
  obtain ⟨W, hW, H⟩ := Hd.three w (.int .i64 x) (.int .i64 y) (.int .i64 x2) (.int .i64 y2) (.int .i64 0) (.int .i64 0) 46 46 46
  unfold ne8
  by_cases q1 : x2 = y2
  · rw [if_neg (fun hh => hh q1)]
    subst q1
    by_cases q2 : x = x2
    · rw [if_pos q2]
      subst q2
      have hz : (x == x) = true := by simp
      go_enter Tryd.func98, Tryd.ntmps98
      go_wp2_with fail
      rw [← hW]
      clear hW
      have a0 := H.get (b := w.heap.size) (o := 0) (v := .int .i64 x) (by simp)
      have a1 := H.get (b := w.heap.size) (o := 1) (v := .int .i64 y) (by simp)
      have b0 := H.get (b := w.heap.size + 1) (o := 0) (v := .int .i64 x) (by simp)
      have b1 := H.get (b := w.heap.size + 1) (o := 1) (v := .int .i64 x) (by simp)
      have r0 := H.get (b := w.heap.size + 2) (o := 0) (v := .int .i64 0) (by simp)
      have z0 := H.fz (b := w.heap.size + 2) (o := 0) (v := .int .i64 0) (by simp)
      have r1 := H.get (b := w.heap.size + 2) (o := 1) (v := .int .i64 0) (by simp)
      have z1 := H.fz (b := w.heap.size + 2) (o := 1) (v := .int .i64 0) (by simp)
      go_wp2_with (first | (go_at_call 85; refine (l8Cut_any _ _ _).mono ?_; rintro e w' ⟨rfl, hb⟩; replace H := H.call hb; have a0 := H.get (b := w.heap.size) (o := 0) (v := .int .i64 x) (by simp); have a1 := H.get (b := w.heap.size) (o := 1) (v := .int .i64 y) (by simp); have b0 := H.get (b := w.heap.size + 1) (o := 0) (v := .int .i64 x) (by simp); have b1 := H.get (b := w.heap.size + 1) (o := 1) (v := .int .i64 x) (by simp); have r0 := H.get (b := w.heap.size + 2) (o := 0) (v := .int .i64 0) (by simp); have z0 := H.fz (b := w.heap.size + 2) (o := 0) (v := .int .i64 0) (by simp); have r1 := H.get (b := w.heap.size + 2) (o := 1) (v := .int .i64 0) (by simp); have z1 := H.fz (b := w.heap.size + 2) (o := 1) (v := .int .i64 0) (by simp)))
      generalize cut8 _ _ = q
      obtain ⟨f0, f1, fb⟩ := H.fill (b := w.heap.size + 2) (x := .int .i64 0) (y := .int .i64 0) (by simp) (by simp) (by omega) (.int .i64 q.1) (.int .i64 q.2)
      refine bodyPost_ret (results_two rfl _ _ (w.heap.size + 2) (.int .i64 q.1) (.int .i64 q.2) _ rfl f0 f1 Tryd.underlying46 rfl (by kernel_rfl)) rfl ?_
      exact ⟨rfl, fb⟩
    · rw [if_neg q2]
      have hz : (x == x2) = false := by simp; omega
      by_cases q3 : y = x2
      · rw [if_pos q3]
        subst q3
        go_enter Tryd.func98, Tryd.ntmps98
        go_wp2_with fail
        rw [← hW]
        clear hW
        have a0 := H.get (b := w.heap.size) (o := 0) (v := .int .i64 x) (by simp)
        have a1 := H.get (b := w.heap.size) (o := 1) (v := .int .i64 y) (by simp)
        have b0 := H.get (b := w.heap.size + 1) (o := 0) (v := .int .i64 y) (by simp)
        have b1 := H.get (b := w.heap.size + 1) (o := 1) (v := .int .i64 y) (by simp)
        have r0 := H.get (b := w.heap.size + 2) (o := 0) (v := .int .i64 0) (by simp)
        have z0 := H.fz (b := w.heap.size + 2) (o := 0) (v := .int .i64 0) (by simp)
        have r1 := H.get (b := w.heap.size + 2) (o := 1) (v := .int .i64 0) (by simp)
        have z1 := H.fz (b := w.heap.size + 2) (o := 1) (v := .int .i64 0) (by simp)
        go_wp2_with (first | (go_at_call 85; refine (l8Cut_any _ _ _).mono ?_; rintro e w' ⟨rfl, hb⟩; replace H := H.call hb; have a0 := H.get (b := w.heap.size) (o := 0) (v := .int .i64 x) (by simp); have a1 := H.get (b := w.heap.size) (o := 1) (v := .int .i64 y) (by simp); have b0 := H.get (b := w.heap.size + 1) (o := 0) (v := .int .i64 y) (by simp); have b1 := H.get (b := w.heap.size + 1) (o := 1) (v := .int .i64 y) (by simp); have r0 := H.get (b := w.heap.size + 2) (o := 0) (v := .int .i64 0) (by simp); have z0 := H.fz (b := w.heap.size + 2) (o := 0) (v := .int .i64 0) (by simp); have r1 := H.get (b := w.heap.size + 2) (o := 1) (v := .int .i64 0) (by simp); have z1 := H.fz (b := w.heap.size + 2) (o := 1) (v := .int .i64 0) (by simp)))
        generalize cut8 _ _ = q
        obtain ⟨f0, f1, fb⟩ := H.fill (b := w.heap.size + 2) (x := .int .i64 0) (y := .int .i64 0) (by simp) (by simp) (by omega) (.int .i64 q.1) (.int .i64 q.2)
        refine bodyPost_ret (results_two rfl _ _ (w.heap.size + 2) (.int .i64 q.1) (.int .i64 q.2) _ rfl f0 f1 Tryd.underlying46 rfl (by kernel_rfl)) rfl ?_
        exact ⟨rfl, fb⟩
      · rw [if_neg q3]
        have hz2 : (y == x2) = false := by simp; omega
        clear hW H
        go_enter Tryd.func98, Tryd.ntmps98
        go_wp2
        refine bodyPost_ret (results_two rfl _ _ (w.heap.size + 1 + 1) (.int .i64 x) (.int .i64 y) _ rfl (by simp [go_sem]) (by simp [go_sem]) Tryd.underlying46 rfl (by kernel_rfl)) rfl ?_
        exact ⟨rfl, rws.below3 _ _ _ _⟩
  · rw [if_pos q1]
    have hz : (x2 == y2) = false := by simp; omega
    have hz2 : (x2 != y2) = true := by simp; omega
    clear hW H
    go_enter Tryd.func98, Tryd.ntmps98
    go_wp2
    refine bodyPost_ret (results_two rfl _ _ (w.heap.size + 1 + 1) (.int .i64 x) (.int .i64 y) _ rfl (by simp [go_sem]) (by simp [go_sem]) Tryd.underlying46 rfl (by kernel_rfl)) rfl ?_
    exact ⟨rfl, rws.below3 _ _ _ _⟩
end Go.Proofs.YtjpiihjgbllieaaDoor.num
