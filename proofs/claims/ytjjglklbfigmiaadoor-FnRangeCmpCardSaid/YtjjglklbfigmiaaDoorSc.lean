/-
  The model's ranges: RangeOk by its parts, RangeHas, RangeIn.
-/
import Derived.Test.YtjjglklbfigmiaaDoorSb
namespace Go.Proofs.YtjjglklbfigmiaaDoor.num
open Go.ChangeShapes Go.WideShapes Go.ChangeAt Go.RowKit
set_option linter.unusedVariables false

theorem RangeOk_xy (x y : Int) (w : World) :
    Calls Tryd.prog 18 #[.agg #[.int .i64 x, .int .i64 y]] w fun e w' => e = .returned (.bool (rOk (x, y))) ∧ Below w.heap.size w w' := RangeOk_any (x, y) w
theorem RangeOk_is {x y : Int} {b : Bool} (h : rOk (x, y) = b) (w : World) :
    Calls Tryd.prog 18 #[.agg #[.int .i64 x, .int .i64 y]] w fun e w' => e = .returned (.bool b) ∧ Below w.heap.size w w' := by rw [← h]; exact RangeOk_xy x y w
theorem RangeHas_xy (x y v : Int) (w : World) :
    Calls Tryd.prog 21 #[.agg #[.int .i64 x, .int .i64 y], .int .i64 v] w fun e w' => e = .returned (.bool (rHas (x, y) v)) ∧ Below w.heap.size w w' := by
  obtain ⟨W, hW, H⟩ := Hd.one w (.int .i64 x) (.int .i64 y) 25
  have c0 := H.get (b := w.heap.size) (o := 0) (v := .int .i64 x) (by simp)
  have c1 := H.get (b := w.heap.size) (o := 1) (v := .int .i64 y) (by simp)
  unfold rHas
  cases h : rOk (x, y)
  all_goals
    go_enter Tryd.func21, Tryd.ntmps21
    go_wp2_with fail
    rw [← hW]
    go_wp2_with (first | (go_at_call 18; refine (RangeOk_is h _).mono ?_; rintro e w' ⟨rfl, hb⟩; replace H := H.call hb; have d0 := H.get (b := w.heap.size) (o := 0) (v := .int .i64 x) (by simp); have d1 := H.get (b := w.heap.size) (o := 1) (v := .int .i64 y) (by simp)) | (go_at_call 59; refine (l1In_any _ _ _ _).mono ?_; rintro e w' ⟨rfl, rfl⟩))
    go_ret
    exact ⟨rfl, H.below⟩
theorem some_if {x y : Int} (h : isN (x, y) = false) : ∀ {α : Type} (a b : α), (if x = 1 then (if y = 0 then a else b) else b) = b := by
  intro α a b
  rw [isN_not] at h
  simp only at h
  by_cases e : x = 1
  · rw [if_pos e, if_neg (fun k => h ⟨e, k⟩)]
  · rw [if_neg e]
theorem none_xy {x y : Int} (h : isN (x, y) = true) : x = 1 ∧ y = 0 := (isN_iff _).1 h
set_option maxRecDepth 100000 in
set_option maxHeartbeats 2000000 in
theorem RangeIn_xy (x y x2 y2 : Int) (w : World) :
    Calls Tryd.prog 23 #[.agg #[.int .i64 x, .int .i64 y], .agg #[.int .i64 x2, .int .i64 y2]] w fun e w' => e = .returned (.bool (rIn (x, y) (x2, y2))) ∧ Below w.heap.size w w' := by
  obtain ⟨W, hW, H⟩ := Hd.two w (.int .i64 x) (.int .i64 y) (.int .i64 x2) (.int .i64 y2) 25 25
  have c0 := H.get (b := w.heap.size) (o := 0) (v := .int .i64 x) (by simp)
  have c1 := H.get (b := w.heap.size) (o := 1) (v := .int .i64 y) (by simp)
  unfold rIn
  cases h : rOk (x, y)
  · go_enter Tryd.func23, Tryd.ntmps23
    go_wp2_with fail
    rw [← hW]
    go_wp2_with (go_at_call 18; refine (RangeOk_xy _ _ _).mono ?_; rintro e w' ⟨rfl, hb⟩; replace H := H.call hb; have d0 := H.get (b := w.heap.size + 1) (o := 0) (v := .int .i64 x2) (by simp); have d1 := H.get (b := w.heap.size + 1) (o := 1) (v := .int .i64 y2) (by simp))
    go_ret
    exact ⟨rfl, H.below⟩
  · cases h2 : rOk (x2, y2)
    · go_enter Tryd.func23, Tryd.ntmps23
      go_wp2_with fail
      rw [← hW]
      go_wp2_with (go_at_call 18; refine (RangeOk_xy _ _ _).mono ?_; rintro e w' ⟨rfl, hb⟩; replace H := H.call hb; have d0 := H.get (b := w.heap.size + 1) (o := 0) (v := .int .i64 x2) (by simp); have d1 := H.get (b := w.heap.size + 1) (o := 1) (v := .int .i64 y2) (by simp))
      go_ret
      exact ⟨rfl, H.below⟩
    · cases n : isN (x, y)
      · have hq := @some_if x y n
        cases q : decide (x2 ≤ x)
        all_goals
          go_enter Tryd.func23, Tryd.ntmps23
          go_wp2_with fail
          rw [← hW]
          go_wp2_with (go_at_call 18; refine (RangeOk_xy _ _ _).mono ?_; rintro e w' ⟨rfl, hb⟩; replace H := H.call hb; have c0 := H.get (b := w.heap.size + 1) (o := 0) (v := .int .i64 x2) (by simp); have c1 := H.get (b := w.heap.size + 1) (o := 1) (v := .int .i64 y2) (by simp))
          have k0 := fun p : Over w' => H.over (b := w.heap.size) (o := 0) (v := .int .i64 x) (by simp) p
          have k1 := fun p : Over w' => H.over (b := w.heap.size) (o := 1) (v := .int .i64 y) (by simp) p
          have k2 := fun p : Over w' => H.over (b := w.heap.size + 1) (o := 0) (v := .int .i64 x2) (by simp) p
          have k3 := fun p : Over w' => H.over (b := w.heap.size + 1) (o := 1) (v := .int .i64 y2) (by simp) p
          refine wp_region_over (by kernel_rfl) (by kernel_rfl) ?_
          repeat (go_big_quiet_step (first | (go_at_call 55; rename_i p; refine (l8None_any _).mono ?_; rintro e' w' ⟨rfl, hb1⟩; exact ⟨rfl, p.next hb1⟩)))
          refine wpQuiet_nil ?_
          rintro _ ⟨p, rfl⟩
          replace H := H.call p.below
          clear k0 k1 k2 k3
          generalize p.w = w3 at *
          go_wp2
          go_ret
          refine ⟨ret_bool ?_, H.below⟩
          simp_all
          try omega
      · obtain ⟨rfl, rfl⟩ := none_xy n
        go_enter Tryd.func23, Tryd.ntmps23
        go_wp2_with fail
        rw [← hW]
        go_wp2_with (go_at_call 18; refine (RangeOk_xy _ _ _).mono ?_; rintro e w' ⟨rfl, hb⟩; replace H := H.call hb; have c0 := H.get (b := w.heap.size + 1) (o := 0) (v := .int .i64 x2) (by simp); have c1 := H.get (b := w.heap.size + 1) (o := 1) (v := .int .i64 y2) (by simp))
        have k0 := fun p : Over w' => H.over (b := w.heap.size) (o := 0) (v := .int .i64 1) (by simp) p
        have k1 := fun p : Over w' => H.over (b := w.heap.size) (o := 1) (v := .int .i64 0) (by simp) p
        have k2 := fun p : Over w' => H.over (b := w.heap.size + 1) (o := 0) (v := .int .i64 x2) (by simp) p
        have k3 := fun p : Over w' => H.over (b := w.heap.size + 1) (o := 1) (v := .int .i64 y2) (by simp) p
        refine wp_region_over (by kernel_rfl) (by kernel_rfl) ?_
        repeat (go_big_quiet_step (first | (go_at_call 55; rename_i p; refine (l8None_any _).mono ?_; rintro e' w' ⟨rfl, hb1⟩; exact ⟨rfl, p.next hb1⟩)))
        refine wpQuiet_nil ?_
        rintro _ ⟨p, rfl⟩
        replace H := H.call p.below
        clear k0 k1 k2 k3
        generalize p.w = w3 at *
        go_wp2
        go_ret
        exact ⟨rfl, H.below⟩
end Go.Proofs.YtjjglklbfigmiaaDoor.num
