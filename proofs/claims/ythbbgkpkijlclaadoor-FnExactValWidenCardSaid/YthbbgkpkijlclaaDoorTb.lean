/-
  The program's ranges: ends, both, has, RangeOk.
-/
import Derived.Test.YthbbgkpkijlclaaDoorTa
namespace Go.Proofs.YthbbgkpkijlclaaDoor.num
open Go.ChangeShapes Go.WideShapes Go.ChangeAt Go.RowKit
set_option linter.unusedVariables false

theorem ends_xy (x y : Int) (w : World) :
    Calls Tryd.prog 138 #[.agg #[.int .i64 x, .int .i64 y]] w fun e w' => e = .returned (.agg #[.int .i64 x, .int .i64 y]) ∧ Below w.heap.size w w' := by
  go_enter Tryd.func138, Tryd.ntmps138
  go_wp2
  refine bodyPost_ret (results_two rfl _ _ (w.heap.size + 1) (.int .i64 x) (.int .i64 y) _ rfl (by simp [go_sem]) (by simp [go_sem]) Tryd.underlying135 rfl (by kernel_rfl)) rfl ?_
  exact ⟨rfl, ((Below.refl _ _).alloc (Nat.le_refl _) _).alloc (by simp) _⟩
theorem both_ok (x y : Int) (w : World) :
    Calls Tryd.prog 139 #[.agg #[.int .i64 x, .int .i64 y], .func (Fn.func 132) #[] #[]] w fun e w' => e = .returned (.bool (okB x && okB y)) ∧ Below w.heap.size w w' := by
  cases hx : okB x
  all_goals
    go_enter Tryd.func139, Tryd.ntmps139
    go_wp2_with (go_at_call 132; refine (implOk_any _ _).mono ?_; rintro e w' ⟨rfl, rfl⟩)
    go_ret
    exact ⟨rfl, (Below.refl _ _).alloc (Nat.le_refl _) _⟩
theorem ihas_xy (x y v : Int) (w : World) :
    Calls Tryd.prog 137 #[.agg #[.int .i64 x, .int .i64 y], .int .i64 v] w fun e w' => e = .returned (.bool (decide (x ≤ v) && decide (v ≤ y))) ∧ Below w.heap.size w w' := by
  go_enter Tryd.func137, Tryd.ntmps137
  go_wp2
  all_goals
    go_ret
    exact ⟨ret_bool (by rename_i h; simp [h]; try omega), (Below.refl _ _).alloc (Nat.le_refl _) _⟩
theorem iOk_xy (x y : Int) (w : World) (h : Gv w 1 none8) :
    Calls Tryd.prog 63 #[.agg #[.int .i64 x, .int .i64 y]] w fun e w' => e = .returned (.bool (rOk (x, y))) ∧ Below w.heap.size w w' := by
  rw [rOk_eq]
  obtain ⟨W, hW, H⟩ := Hd.one w (.int .i64 x) (.int .i64 y) 24
  obtain ⟨gs, g0, g1, gz⟩ := h.none
  clear h
  have c0 := H.get (b := w.heap.size) (o := 0) (v := .int .i64 x) (by simp)
  have c1 := H.get (b := w.heap.size) (o := 1) (v := .int .i64 y) (by simp)
  cases n : isN (x, y)
  · have hq := @some_if x y n
    cases hx : okB x
    · go_enter Tryd.func63, Tryd.ntmps63
      go_wp2_with fail
      rw [← hW]
      clear hW
      go_wp2_with (first | (go_at_call 138; refine (ends_xy _ _ _).mono ?_; rintro e w' ⟨rfl, hb⟩; replace H := H.call hb) | (go_at_call 139; refine (both_ok _ _ _).mono ?_; rintro e w2 ⟨rfl, hb⟩; replace H := H.call hb))
      go_ret
      exact ⟨rfl, H.below⟩
    · cases hy : okB y
      all_goals
        go_enter Tryd.func63, Tryd.ntmps63
        go_wp2_with fail
        rw [← hW]
        clear hW
        go_wp2_with (first | (go_at_call 138; refine (ends_xy _ _ _).mono ?_; rintro e w' ⟨rfl, hb⟩; replace H := H.call hb) | (go_at_call 139; refine (both_ok _ _ _).mono ?_; rintro e w2 ⟨rfl, hb⟩; replace H := H.call hb; have d0 := H.get (b := w.heap.size) (o := 0) (v := .int .i64 x) (by simp); have d1 := H.get (b := w.heap.size) (o := 1) (v := .int .i64 y) (by simp)))
        go_ret
        exact ⟨rfl, H.below⟩
  · obtain ⟨rfl, rfl⟩ := none_xy n
    clear hW H c0 c1
    go_enter Tryd.func63, Tryd.ntmps63
    go_wp2
    go_ret
    exact ⟨rfl, (Below.refl _ _).alloc (Nat.le_refl _) _⟩
end Go.Proofs.YthbbgkpkijlclaaDoor.num
