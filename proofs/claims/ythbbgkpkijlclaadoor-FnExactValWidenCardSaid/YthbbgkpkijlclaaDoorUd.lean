/-
  The program's rests: RestOk, RestHas.
-/
import Derived.Test.YthbbgkpkijlclaaDoorUc
namespace Go.Proofs.YthbbgkpkijlclaaDoor.num
open Go.ChangeShapes Go.WideShapes Go.ChangeAt Go.RowKit
set_option linter.unusedVariables false

theorem iRestOk_xy (x y : Int) (w : World) :
    Calls Tryd.prog 77 #[.agg #[.int .i64 x, .int .i64 y]] w fun e w' => e = .returned (.bool (qOk (x, y))) ∧ Below w.heap.size w w' := by
  obtain ⟨W, hW, H⟩ := Hd.one w (.int .i64 x) (.int .i64 y) 26
  have a0 := H.get (b := w.heap.size) (o := 0) (v := .int .i64 x) (by simp)
  have a1 := H.get (b := w.heap.size) (o := 1) (v := .int .i64 y) (by simp)
  by_cases h0 : x = 0
  · subst h0
    go_enter Tryd.func77, Tryd.ntmps77
    go_wp2_with fail
    rw [← hW]
    clear hW
    go_wp2_with (first | (go_at_call 149; refine (single_xy _ _ _).mono ?_; rintro e w' ⟨rfl, hb⟩; replace H := H.call hb; have a0 := H.get (b := w.heap.size) (o := 0) (v := .int .i64 0) (by simp); have a1 := H.get (b := w.heap.size) (o := 1) (v := .int .i64 y) (by simp)) | (go_at_call 132; refine (implOk_any _ _).mono ?_; rintro e w' ⟨rfl, rfl⟩))
    go_ret
    exact ⟨rfl, H.below⟩
  · have hd : decide (x = 0) = false := by simp [h0]
    go_enter Tryd.func77, Tryd.ntmps77
    go_wp2_with fail
    rw [← hW]
    clear hW
    go_wp2_with (first | (go_at_call 149; refine (single_xy _ _ _).mono ?_; rintro e w' ⟨rfl, hb⟩; rw [hd]; replace H := H.call hb; have a0 := H.get (b := w.heap.size) (o := 0) (v := .int .i64 x) (by simp); have a1 := H.get (b := w.heap.size) (o := 1) (v := .int .i64 y) (by simp)))
    all_goals
      go_ret
      refine ⟨ret_bool ?_, H.below⟩
      rw [Bool.eq_iff_iff, qOk_iff]
      simp
      omega
end Go.Proofs.YthbbgkpkijlclaaDoor.num
