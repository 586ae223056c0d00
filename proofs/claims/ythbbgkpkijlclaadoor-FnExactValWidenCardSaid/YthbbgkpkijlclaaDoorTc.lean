/-
  The program's ranges: RangeHas, fromTo, RangeMeet.
-/
import Derived.Test.YthbbgkpkijlclaaDoorTb
namespace Go.Proofs.YthbbgkpkijlclaaDoor.num
open Go.ChangeShapes Go.WideShapes Go.ChangeAt Go.RowKit
set_option linter.unusedVariables false

theorem iHas_xy (x y v : Int) (w : World) (h : Gv w 1 none8) :
    Calls Tryd.prog 61 #[.agg #[.int .i64 x, .int .i64 y], .int .i64 v] w fun e w' => e = .returned (.bool (rHas (x, y) v)) ∧ Below w.heap.size w w' := by
  obtain ⟨W, hW, H⟩ := Hd.one w (.int .i64 x) (.int .i64 y) 24
  have c0 := H.get (b := w.heap.size) (o := 0) (v := .int .i64 x) (by simp)
  have c1 := H.get (b := w.heap.size) (o := 1) (v := .int .i64 y) (by simp)
  unfold rHas
  cases k : rOk (x, y)
  all_goals
    go_enter Tryd.func61, Tryd.ntmps61
    go_wp2_with fail
    rw [← hW]
    clear hW
    go_wp2_with (first | (go_at_call 63; refine (iOk_xy _ _ _ (h.below H.below)).mono ?_; rintro e w' ⟨rfl, hb⟩; replace H := H.call hb; have d0 := H.get (b := w.heap.size) (o := 0) (v := .int .i64 x) (by simp); have d1 := H.get (b := w.heap.size) (o := 1) (v := .int .i64 y) (by simp)) | (go_at_call 137; refine (ihas_xy _ _ _ _).mono ?_; rintro e w2 ⟨rfl, hb⟩; replace H := H.call hb))
    go_ret
    exact ⟨ret_bool (by simp), H.below⟩
theorem fromTo_any (a b : Int) (w : World) (h : Gv w 1 none8) :
    Calls Tryd.prog 165 #[.int .i64 a, .int .i64 b] w fun e w' => e = .returned (.agg #[.int .i64 (cut8 a b).1, .int .i64 (cut8 a b).2]) ∧ Below w.heap.size w w' := by
  obtain ⟨gs, g0, g1, gz⟩ := h.none
  clear h
  by_cases h : min b 2147483647 < max a (-2147483648)
  · have e : cut8 a b = none8 := by unfold cut8; rw [if_pos h]
    rw [e]
    go_enter Tryd.func165, Tryd.ntmps165
    go_wp2
    all_goals
      refine bodyPost_ret (results_two rfl _ _ w.heap.size (.int .i64 1) (.int .i64 0) _ rfl (by simp [go_sem]) (by simp [go_sem]) Tryd.underlying24 rfl (by kernel_rfl)) rfl ?_
      exact ⟨rfl, ((Below.refl _ _).alloc (Nat.le_refl _) _).alloc (by simp) _⟩
  · have e : cut8 a b = (max a (-2147483648), min b 2147483647) := by unfold cut8; rw [if_neg h]
    rw [e]
    go_enter Tryd.func165, Tryd.ntmps165
    go_wp2
    all_goals
      refine bodyPost_ret (results_two rfl _ _ w.heap.size (.int .i64 (max a (-2147483648))) (.int .i64 (min b 2147483647)) _ rfl (by simp [go_sem] <;> omega) (by simp [go_sem] <;> omega) Tryd.underlying24 rfl (by kernel_rfl)) rfl ?_
      exact ⟨rfl, ((Below.refl _ _).alloc (Nat.le_refl _) _).alloc (by simp) _⟩
end Go.Proofs.YthbbgkpkijlclaaDoor.num
