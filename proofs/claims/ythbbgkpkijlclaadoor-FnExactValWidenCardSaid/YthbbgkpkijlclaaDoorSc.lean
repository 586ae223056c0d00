/-
  The model's ranges: RangeOk by its parts, RangeHas, RangeIn.
-/
import Derived.Test.YthbbgkpkijlclaaDoorSb
namespace Go.Proofs.YthbbgkpkijlclaaDoor.num
open Go.ChangeShapes Go.WideShapes Go.ChangeAt Go.RowKit
set_option linter.unusedVariables false

theorem RangeOk_xy (x y : Int) (w : World) :
    Calls Tryd.prog 59 #[.agg #[.int .i64 x, .int .i64 y]] w fun e w' => e = .returned (.bool (rOk (x, y))) ∧ Below w.heap.size w w' := RangeOk_any (x, y) w
theorem RangeOk_is {x y : Int} {b : Bool} (h : rOk (x, y) = b) (w : World) :
    Calls Tryd.prog 59 #[.agg #[.int .i64 x, .int .i64 y]] w fun e w' => e = .returned (.bool b) ∧ Below w.heap.size w w' := by rw [← h]; exact RangeOk_xy x y w
theorem RangeHas_xy (x y v : Int) (w : World) :
    Calls Tryd.prog 28 #[.agg #[.int .i64 x, .int .i64 y], .int .i64 v] w fun e w' => e = .returned (.bool (rHas (x, y) v)) ∧ Below w.heap.size w w' := by
  obtain ⟨W, hW, H⟩ := Hd.one w (.int .i64 x) (.int .i64 y) 24
  have c0 := H.get (b := w.heap.size) (o := 0) (v := .int .i64 x) (by simp)
  have c1 := H.get (b := w.heap.size) (o := 1) (v := .int .i64 y) (by simp)
  unfold rHas
  cases h : rOk (x, y)
  all_goals
    go_enter Tryd.func28, Tryd.ntmps28
    go_wp2_with fail
    rw [← hW]
    go_wp2_with (first | (go_at_call 59; refine (RangeOk_is h _).mono ?_; rintro e w' ⟨rfl, hb⟩; replace H := H.call hb; have d0 := H.get (b := w.heap.size) (o := 0) (v := .int .i64 x) (by simp); have d1 := H.get (b := w.heap.size) (o := 1) (v := .int .i64 y) (by simp)) | (go_at_call 97; refine (l1In_any _ _ _ _).mono ?_; rintro e w' ⟨rfl, rfl⟩))
    go_ret
    exact ⟨rfl, H.below⟩
theorem some_if {x y : Int} (h : isN (x, y) = false) : ∀ {α : Type} (a b : α), (if x = 1 then (if y = 0 then a else b) else b) = b := by
  intro α a b
  rw [isN_not] at h
  simp only at h
  by_cases e : x = 1
  · rw [if_pos e, if_neg (fun k => h ⟨e, k⟩)]
  · rw [if_neg e]
theorem none_xy {x y : Int} (h : isN (x, y) = true) : x = 1 ∧ y = 0 := (isN_iff _).1 h
end Go.Proofs.YthbbgkpkijlclaaDoor.num
