/-
  The program's restOfNums.
-/
import Derived.Test.YtjpiihjgbllieaaDoorXf
import Derived.Test.YtjpiihjgbllieaaDoorXc
namespace Go.Proofs.YtjpiihjgbllieaaDoor.num
open Go.ChangeShapes Go.WideShapes Go.ChangeAt Go.RowKit
set_option linter.unusedVariables false

set_option maxRecDepth 100000 in
set_option maxHeartbeats 4000000 in
theorem restOfNums_any (op a b : Int) (w : World) (hG : Gq w) :
    Calls Tryd.prog 60 #[.int .i64 op, .int .i64 a, .int .i64 b] w fun e w' => e = .returned (.agg #[.int .i64 (if (numDo op a b).2 = 0 then 0 else 1), .int .i64 (if (numDo op a b).2 = 0 then (numDo op a b).1 else 0)]) ∧ Below w.heap.size w w' := by
  have hn : ∀ w1 : World, Calls Tryd.prog 45 #[.int .i64 op, .int .i64 a, .int .i64 b] w1 fun e w' => e = .returned (.tuple #[.int .i64 (numDo op a b).1, .int .i64 (numDo op a b).2]) ∧ Below w1.heap.size w1 w' := fun w1 => implDo_any op a b w1
  have hr : ∀ w1 : World, Calls Tryd.prog 74 #[.int .i64 (numDo op a b).1, .int .i64 0] w1 fun e w' => e = .returned (.agg #[.int .i64 0, .int .i64 (numDo op a b).1]) ∧ Below w1.heap.size w1 w' := fun w1 => by
    have := restOf_any (numDo op a b).1 0 (by omega) (by omega) w1
    rw [make9_zero] at this
    exact this
  generalize numDo op a b = q at *
  obtain ⟨v, f⟩ := q
  simp only at hn hr ⊢
  obtain ⟨W, hW, H⟩ := Hd.one w (.int .i64 0) (.int .i64 0) 24
  by_cases hf : f = 0
  · subst hf
    rw [if_pos rfl, if_pos rfl]
    go_enter Tryd.func60, Tryd.ntmps60
    go_wp2_with fail
    rw [← hW]
    clear hW
    go_wp2_with (first | (go_at_call 45; refine (hn _).mono ?_; rintro e w' ⟨rfl, hb⟩; replace H := H.call hb; have c0 := H.get (b := w.heap.size) (o := 0) (v := .int .i64 0) (by simp); have c1 := H.get (b := w.heap.size) (o := 1) (v := .int .i64 0) (by simp); have z0 := H.fz (b := w.heap.size) (o := 0) (v := .int .i64 0) (by simp); have z1 := H.fz (b := w.heap.size) (o := 1) (v := .int .i64 0) (by simp); obtain ⟨gs, g0, g1, gz⟩ := Gq.all (Gv.below hG H.below)) | (go_at_call 74; refine (hr _).mono ?_; rintro e w' ⟨rfl, hb⟩; replace H := H.call hb; have c0 := H.get (b := w.heap.size) (o := 0) (v := .int .i64 0) (by simp); have c1 := H.get (b := w.heap.size) (o := 1) (v := .int .i64 0) (by simp); have z0 := H.fz (b := w.heap.size) (o := 0) (v := .int .i64 0) (by simp); have z1 := H.fz (b := w.heap.size) (o := 1) (v := .int .i64 0) (by simp); obtain ⟨gs, g0, g1, gz⟩ := Gq.all (Gv.below hG H.below)))
    obtain ⟨f0, f1, fb⟩ := H.fill (b := w.heap.size) (x := .int .i64 0) (y := .int .i64 0) (by simp) (by simp) (by omega) (.int .i64 0) (.int .i64 v)
    refine bodyPost_ret (results_two rfl _ _ (w.heap.size) (.int .i64 0) (.int .i64 v) _ rfl f0 f1 Tryd.underlying24 rfl (by kernel_rfl)) rfl ?_
    exact ⟨rfl, fb⟩
  · rw [if_neg hf, if_neg hf]
    have hf' : (f != 0) = true := by simp [hf]
    go_enter Tryd.func60, Tryd.ntmps60
    go_wp2_with fail
    rw [← hW]
    clear hW
    go_wp2_with (first | (go_at_call 45; refine (hn _).mono ?_; rintro e w' ⟨rfl, hb⟩; replace H := H.call hb; have c0 := H.get (b := w.heap.size) (o := 0) (v := .int .i64 0) (by simp); have c1 := H.get (b := w.heap.size) (o := 1) (v := .int .i64 0) (by simp); have z0 := H.fz (b := w.heap.size) (o := 0) (v := .int .i64 0) (by simp); have z1 := H.fz (b := w.heap.size) (o := 1) (v := .int .i64 0) (by simp); obtain ⟨gs, g0, g1, gz⟩ := Gq.all (Gv.below hG H.below)) | (go_at_call 74; refine (hr _).mono ?_; rintro e w' ⟨rfl, hb⟩; replace H := H.call hb; have c0 := H.get (b := w.heap.size) (o := 0) (v := .int .i64 0) (by simp); have c1 := H.get (b := w.heap.size) (o := 1) (v := .int .i64 0) (by simp); have z0 := H.fz (b := w.heap.size) (o := 0) (v := .int .i64 0) (by simp); have z1 := H.fz (b := w.heap.size) (o := 1) (v := .int .i64 0) (by simp); obtain ⟨gs, g0, g1, gz⟩ := Gq.all (Gv.below hG H.below)))
    obtain ⟨f0, f1, fb⟩ := H.fill (b := w.heap.size) (x := .int .i64 0) (y := .int .i64 0) (by simp) (by simp) (by omega) (.int .i64 1) (.int .i64 0)
    refine bodyPost_ret (results_two rfl _ _ (w.heap.size) (.int .i64 1) (.int .i64 0) _ rfl f0 f1 Tryd.underlying24 rfl (by kernel_rfl)) rfl ?_
    exact ⟨rfl, fb⟩
end Go.Proofs.YtjpiihjgbllieaaDoor.num
