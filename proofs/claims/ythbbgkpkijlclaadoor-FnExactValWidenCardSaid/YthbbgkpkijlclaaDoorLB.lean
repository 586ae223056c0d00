/-
  The model's tests and join of vals.
-/
import Derived.Test.YthbbgkpkijlclaaDoorSc
import Derived.Test.YthbbgkpkijlclaaDoorLA
import Derived.Test.YthbbgkpkijlclaaDoorMA
import Derived.Test.YthbbgkpkijlclaaDoorVb
import Derived.Test.YthbbgkpkijlclaaDoorVc
namespace Go.Proofs.YthbbgkpkijlclaaDoor.num
open Go.ChangeShapes Go.WideShapes Go.ChangeAt Go.RowKit
set_option linter.unusedVariables false

theorem RangeIn_xy (x y x2 y2 : Int) (w : World) :
    Calls Tryd.prog 112 #[.agg #[.int .i64 x, .int .i64 y], .agg #[.int .i64 x2, .int .i64 y2]] w fun e w' => e = .returned (.bool (rIn (x, y) (x2, y2))) ∧ Below w.heap.size w w' := by
  obtain ⟨W, hW, H⟩ := Hd.two w (.int .i64 x) (.int .i64 y) (.int .i64 x2) (.int .i64 y2) 24 24
  have c0 := H.get (b := w.heap.size) (o := 0) (v := .int .i64 x) (by simp)
  have c1 := H.get (b := w.heap.size) (o := 1) (v := .int .i64 y) (by simp)
  unfold rIn
  cases h : rOk (x, y)
  · go_enter Tryd.func112, Tryd.ntmps112
    go_wp2_with fail
    rw [← hW]
    go_wp2_with (go_at_call 59; refine (RangeOk_xy _ _ _).mono ?_; rintro e w' ⟨rfl, hb⟩; replace H := H.call hb; have d0 := H.get (b := w.heap.size + 1) (o := 0) (v := .int .i64 x2) (by simp); have d1 := H.get (b := w.heap.size + 1) (o := 1) (v := .int .i64 y2) (by simp))
    go_ret
    exact ⟨rfl, H.below⟩
  · cases h2 : rOk (x2, y2)
    · go_enter Tryd.func112, Tryd.ntmps112
      go_wp2_with fail
      rw [← hW]
      go_wp2_with (go_at_call 59; refine (RangeOk_xy _ _ _).mono ?_; rintro e w' ⟨rfl, hb⟩; replace H := H.call hb; have d0 := H.get (b := w.heap.size + 1) (o := 0) (v := .int .i64 x2) (by simp); have d1 := H.get (b := w.heap.size + 1) (o := 1) (v := .int .i64 y2) (by simp))
      go_ret
      exact ⟨rfl, H.below⟩
    · cases n : isN (x, y)
      · have hq := @some_if x y n
        cases q : decide (x2 ≤ x)
        all_goals
          go_enter Tryd.func112, Tryd.ntmps112
          go_wp2_with fail
          rw [← hW]
          go_wp2_with (go_at_call 59; refine (RangeOk_xy _ _ _).mono ?_; rintro e w' ⟨rfl, hb⟩; replace H := H.call hb; have c0 := H.get (b := w.heap.size + 1) (o := 0) (v := .int .i64 x2) (by simp); have c1 := H.get (b := w.heap.size + 1) (o := 1) (v := .int .i64 y2) (by simp))
          have k0 := fun p : Over w' => H.over (b := w.heap.size) (o := 0) (v := .int .i64 x) (by simp) p
          have k1 := fun p : Over w' => H.over (b := w.heap.size) (o := 1) (v := .int .i64 y) (by simp) p
          have k2 := fun p : Over w' => H.over (b := w.heap.size + 1) (o := 0) (v := .int .i64 x2) (by simp) p
          have k3 := fun p : Over w' => H.over (b := w.heap.size + 1) (o := 1) (v := .int .i64 y2) (by simp) p
          refine wp_region_over (by kernel_rfl) (by kernel_rfl) ?_
          repeat (go_big_quiet_step (first | (go_at_call 89; rename_i p; refine (l8None_any _).mono ?_; rintro e' w' ⟨rfl, hb1⟩; exact ⟨rfl, p.next hb1⟩)))
          refine wpQuiet_nil ?_
          rintro _ ⟨p, rfl⟩
          replace H := H.call p.below
          clear k0 k1 k2 k3
          generalize p.w = w3 at *
          go_wp2
          go_ret
          refine ⟨ret_bool ?_, H.below⟩
          simp_all
          try omega
      · obtain ⟨rfl, rfl⟩ := none_xy n
        go_enter Tryd.func112, Tryd.ntmps112
        go_wp2_with fail
        rw [← hW]
        go_wp2_with (go_at_call 59; refine (RangeOk_xy _ _ _).mono ?_; rintro e w' ⟨rfl, hb⟩; replace H := H.call hb; have c0 := H.get (b := w.heap.size + 1) (o := 0) (v := .int .i64 x2) (by simp); have c1 := H.get (b := w.heap.size + 1) (o := 1) (v := .int .i64 y2) (by simp))
        have k0 := fun p : Over w' => H.over (b := w.heap.size) (o := 0) (v := .int .i64 1) (by simp) p
        have k1 := fun p : Over w' => H.over (b := w.heap.size) (o := 1) (v := .int .i64 0) (by simp) p
        have k2 := fun p : Over w' => H.over (b := w.heap.size + 1) (o := 0) (v := .int .i64 x2) (by simp) p
        have k3 := fun p : Over w' => H.over (b := w.heap.size + 1) (o := 1) (v := .int .i64 y2) (by simp) p
        refine wp_region_over (by kernel_rfl) (by kernel_rfl) ?_
        repeat (go_big_quiet_step (first | (go_at_call 89; rename_i p; refine (l8None_any _).mono ?_; rintro e' w' ⟨rfl, hb1⟩; exact ⟨rfl, p.next hb1⟩)))
        refine wpQuiet_nil ?_
        rintro _ ⟨p, rfl⟩
        replace H := H.call p.below
        clear k0 k1 k2 k3
        generalize p.w = w3 at *
        go_wp2
        go_ret
        exact ⟨rfl, H.below⟩
end Go.Proofs.YthbbgkpkijlclaaDoor.num
namespace Go.Proofs.YthbbgkpkijlclaaDoor.num
open Go.ChangeShapes Go.WideShapes Go.ChangeAt Go.RowKit
set_option linter.unusedVariables false

set_option maxRecDepth 100000 in
set_option maxHeartbeats 4000000 in
theorem sVOk_xy (x y m t : Int) (w : World) :
    Calls Tryd.prog 37 #[.agg #[.int .i64 x, .int .i64 y, .int .i64 m, .int .i64 t]] w fun e w' => e = .returned (.bool (ok10 (x, y, m, t))) ∧ Below w.heap.size w w' := by
  have hM := fun w => sMake_xy x y m t w
  rcases isN10 x y m t with e | e
  · simp only [none10, Prod.mk.injEq] at e
    obtain ⟨rfl, rfl, rfl, rfl⟩ := e
    have e : ok10 (1, 0, 0, 0) = true := by decide
    rw [e]
    clear e
    obtain ⟨W, hW, H⟩ : ∃ W, W = w.alloc (.cells #[.int .i64 1, .int .i64 0, .int .i64 0, .int .i64 0] 30) ∧ Hd w [(w.heap.size, 0, .int .i64 1), (w.heap.size, 1, .int .i64 0), (w.heap.size, 2, .int .i64 0), (w.heap.size, 3, .int .i64 0)] W := ⟨_, rfl, by
      have h := ((Hd.start w).box4 (.int .i64 1) (.int .i64 0) (.int .i64 0) (.int .i64 0) 30)
      exact h⟩
    go_enter Tryd.func37, Tryd.ntmps37
    go_wp2_with fail
    rw [← hW]
    clear hW
    have k0 := fun p : Over _ => H.over (b := w.heap.size) (o := 0) (v := .int .i64 1) (by simp) p
    have k1 := fun p : Over _ => H.over (b := w.heap.size) (o := 1) (v := .int .i64 0) (by simp) p
    have k2 := fun p : Over _ => H.over (b := w.heap.size) (o := 2) (v := .int .i64 0) (by simp) p
    have k3 := fun p : Over _ => H.over (b := w.heap.size) (o := 3) (v := .int .i64 0) (by simp) p
    refine wp_region_over (by kernel_rfl) (by kernel_rfl) ?_
    repeat (go_big_quiet_step (first | (go_at_call 90; rename_i p; refine (l10None_any _).mono ?_; rintro e' w' ⟨rfl, hb1⟩; exact ⟨rfl, p.next hb1⟩) | (go_at_call 104; rename_i p; refine (l10Range_xy _ _ _ _ _).mono ?_; rintro e' w' ⟨rfl, hb1⟩; exact ⟨rfl, p.next hb1⟩) | (go_at_call 105; rename_i p; refine (l10Rest_xy _ _ _ _ _).mono ?_; rintro e' w' ⟨rfl, hb1⟩; exact ⟨rfl, p.next hb1⟩) | (go_at_call 59; rename_i p; refine (RangeOk_xy _ _ _).mono ?_; rintro e' w' ⟨rfl, hb1⟩; exact ⟨by (first | rw [h]), p.next hb1⟩) | (go_at_call 75; rename_i p; refine (sRestOk_xy _ _ _).mono ?_; rintro e' w' ⟨rfl, hb1⟩; exact ⟨by (first | rw [h2]), p.next hb1⟩) | (go_at_call 23; rename_i p; refine (hM _).mono ?_; rintro e' w' ⟨rfl, hb1⟩; exact ⟨rfl, p.next hb1⟩)))
    refine wpQuiet_nil ?_
    rintro _ ⟨p, rfl⟩
    replace H := H.call p.below
    clear k0 k1 k2 k3
    generalize p.w = w3 at *
    clear p
    go_wp2
    go_ret
    exact ⟨rfl, H.below⟩
  · have hq := @ne4_if x y m t 1 0 0 0 e
    rw [ok10_xy]
    cases h : rOk (x, y)
    · have e2 : make10 (x, y) (m, t) = none10 := by unfold make10; rw [if_pos (.inl h)]
      rw [e2, decide_eq_false (fun k => e k.symm)]
      clear e e2 hM
      have hM : True := trivial
      obtain ⟨W, hW, H⟩ : ∃ W, W = w.alloc (.cells #[.int .i64 x, .int .i64 y, .int .i64 m, .int .i64 t] 30) ∧ Hd w [(w.heap.size, 0, .int .i64 x), (w.heap.size, 1, .int .i64 y), (w.heap.size, 2, .int .i64 m), (w.heap.size, 3, .int .i64 t)] W := ⟨_, rfl, by
        have h := ((Hd.start w).box4 (.int .i64 x) (.int .i64 y) (.int .i64 m) (.int .i64 t) 30)
        exact h⟩
      go_enter Tryd.func37, Tryd.ntmps37
      go_wp2_with fail
      rw [← hW]
      clear hW
      have k0 := fun p : Over _ => H.over (b := w.heap.size) (o := 0) (v := .int .i64 x) (by simp) p
      have k1 := fun p : Over _ => H.over (b := w.heap.size) (o := 1) (v := .int .i64 y) (by simp) p
      have k2 := fun p : Over _ => H.over (b := w.heap.size) (o := 2) (v := .int .i64 m) (by simp) p
      have k3 := fun p : Over _ => H.over (b := w.heap.size) (o := 3) (v := .int .i64 t) (by simp) p
      refine wp_region_over (by kernel_rfl) (by kernel_rfl) ?_
      repeat (go_big_quiet_step (first | (go_at_call 90; rename_i p; refine (l10None_any _).mono ?_; rintro e' w' ⟨rfl, hb1⟩; exact ⟨rfl, p.next hb1⟩) | (go_at_call 104; rename_i p; refine (l10Range_xy _ _ _ _ _).mono ?_; rintro e' w' ⟨rfl, hb1⟩; exact ⟨rfl, p.next hb1⟩) | (go_at_call 105; rename_i p; refine (l10Rest_xy _ _ _ _ _).mono ?_; rintro e' w' ⟨rfl, hb1⟩; exact ⟨rfl, p.next hb1⟩) | (go_at_call 59; rename_i p; refine (RangeOk_xy _ _ _).mono ?_; rintro e' w' ⟨rfl, hb1⟩; exact ⟨by (first | rw [h]), p.next hb1⟩) | (go_at_call 75; rename_i p; refine (sRestOk_xy _ _ _).mono ?_; rintro e' w' ⟨rfl, hb1⟩; exact ⟨by (first | rw [h2]), p.next hb1⟩)))
      refine wpQuiet_nil ?_
      rintro _ ⟨p, rfl⟩
      replace H := H.call p.below
      clear k0 k1 k2 k3
      generalize p.w = w3 at *
      clear p
      go_wp2
      go_ret
      exact ⟨rfl, H.below⟩
    · cases h2 : qOk (m, t)
      · have e2 : make10 (x, y) (m, t) = none10 := by unfold make10; rw [if_pos (.inr (.inl h2))]
        rw [e2, decide_eq_false (fun k => e k.symm)]
        clear e e2
        obtain ⟨W, hW, H⟩ : ∃ W, W = w.alloc (.cells #[.int .i64 x, .int .i64 y, .int .i64 m, .int .i64 t] 30) ∧ Hd w [(w.heap.size, 0, .int .i64 x), (w.heap.size, 1, .int .i64 y), (w.heap.size, 2, .int .i64 m), (w.heap.size, 3, .int .i64 t)] W := ⟨_, rfl, by
          have h := ((Hd.start w).box4 (.int .i64 x) (.int .i64 y) (.int .i64 m) (.int .i64 t) 30)
          exact h⟩
        go_enter Tryd.func37, Tryd.ntmps37
        go_wp2_with fail
        rw [← hW]
        clear hW
        have k0 := fun p : Over _ => H.over (b := w.heap.size) (o := 0) (v := .int .i64 x) (by simp) p
        have k1 := fun p : Over _ => H.over (b := w.heap.size) (o := 1) (v := .int .i64 y) (by simp) p
        have k2 := fun p : Over _ => H.over (b := w.heap.size) (o := 2) (v := .int .i64 m) (by simp) p
        have k3 := fun p : Over _ => H.over (b := w.heap.size) (o := 3) (v := .int .i64 t) (by simp) p
        refine wp_region_over (by kernel_rfl) (by kernel_rfl) ?_
        repeat (go_big_quiet_step (first | (go_at_call 90; rename_i p; refine (l10None_any _).mono ?_; rintro e' w' ⟨rfl, hb1⟩; exact ⟨rfl, p.next hb1⟩) | (go_at_call 104; rename_i p; refine (l10Range_xy _ _ _ _ _).mono ?_; rintro e' w' ⟨rfl, hb1⟩; exact ⟨rfl, p.next hb1⟩) | (go_at_call 105; rename_i p; refine (l10Rest_xy _ _ _ _ _).mono ?_; rintro e' w' ⟨rfl, hb1⟩; exact ⟨rfl, p.next hb1⟩) | (go_at_call 59; rename_i p; refine (RangeOk_xy _ _ _).mono ?_; rintro e' w' ⟨rfl, hb1⟩; exact ⟨by (first | rw [h]), p.next hb1⟩) | (go_at_call 75; rename_i p; refine (sRestOk_xy _ _ _).mono ?_; rintro e' w' ⟨rfl, hb1⟩; exact ⟨by (first | rw [h2]), p.next hb1⟩) | (go_at_call 23; rename_i p; refine (hM _).mono ?_; rintro e' w' ⟨rfl, hb1⟩; exact ⟨rfl, p.next hb1⟩)))
        refine wpQuiet_nil ?_
        rintro _ ⟨p, rfl⟩
        replace H := H.call p.below
        clear k0 k1 k2 k3
        generalize p.w = w3 at *
        clear p
        go_wp2
        go_ret
        exact ⟨rfl, H.below⟩
      · clear e
        generalize make10 (x, y) (m, t) = q at *
        obtain ⟨q1, q2, q3, q4⟩ := q
        simp only at hM
        by_cases e : (q1, q2, q3, q4) = (x, y, m, t)
        · simp only [Prod.mk.injEq] at e
          obtain ⟨rfl, rfl, rfl, rfl⟩ := e
          rw [decide_eq_true rfl]
          obtain ⟨W, hW, H⟩ : ∃ W, W = w.alloc (.cells #[.int .i64 q1, .int .i64 q2, .int .i64 q3, .int .i64 q4] 30) ∧ Hd w [(w.heap.size, 0, .int .i64 q1), (w.heap.size, 1, .int .i64 q2), (w.heap.size, 2, .int .i64 q3), (w.heap.size, 3, .int .i64 q4)] W := ⟨_, rfl, by
            have h := ((Hd.start w).box4 (.int .i64 q1) (.int .i64 q2) (.int .i64 q3) (.int .i64 q4) 30)
            exact h⟩
          go_enter Tryd.func37, Tryd.ntmps37
          go_wp2_with fail
          rw [← hW]
          clear hW
          have k0 := fun p : Over _ => H.over (b := w.heap.size) (o := 0) (v := .int .i64 q1) (by simp) p
          have k1 := fun p : Over _ => H.over (b := w.heap.size) (o := 1) (v := .int .i64 q2) (by simp) p
          have k2 := fun p : Over _ => H.over (b := w.heap.size) (o := 2) (v := .int .i64 q3) (by simp) p
          have k3 := fun p : Over _ => H.over (b := w.heap.size) (o := 3) (v := .int .i64 q4) (by simp) p
          refine wp_region_over (by kernel_rfl) (by kernel_rfl) ?_
          repeat (go_big_quiet_step (first | (go_at_call 90; rename_i p; refine (l10None_any _).mono ?_; rintro e' w' ⟨rfl, hb1⟩; exact ⟨rfl, p.next hb1⟩) | (go_at_call 104; rename_i p; refine (l10Range_xy _ _ _ _ _).mono ?_; rintro e' w' ⟨rfl, hb1⟩; exact ⟨rfl, p.next hb1⟩) | (go_at_call 105; rename_i p; refine (l10Rest_xy _ _ _ _ _).mono ?_; rintro e' w' ⟨rfl, hb1⟩; exact ⟨rfl, p.next hb1⟩) | (go_at_call 59; rename_i p; refine (RangeOk_xy _ _ _).mono ?_; rintro e' w' ⟨rfl, hb1⟩; exact ⟨by (first | rw [h]), p.next hb1⟩) | (go_at_call 75; rename_i p; refine (sRestOk_xy _ _ _).mono ?_; rintro e' w' ⟨rfl, hb1⟩; exact ⟨by (first | rw [h2]), p.next hb1⟩) | (go_at_call 23; rename_i p; refine (hM _).mono ?_; rintro e' w' ⟨rfl, hb1⟩; exact ⟨rfl, p.next hb1⟩)))
          refine wpQuiet_nil ?_
          rintro _ ⟨p, rfl⟩
          replace H := H.call p.below
          clear k0 k1 k2 k3
          generalize p.w = w3 at *
          clear p
          go_wp2
          go_ret
          exact ⟨rfl, H.below⟩
        · rw [decide_eq_false e]
          have hq2 := @ne4_if x y m t q1 q2 q3 q4 (fun k => e k.symm)
          clear e
          obtain ⟨W, hW, H⟩ : ∃ W, W = w.alloc (.cells #[.int .i64 x, .int .i64 y, .int .i64 m, .int .i64 t] 30) ∧ Hd w [(w.heap.size, 0, .int .i64 x), (w.heap.size, 1, .int .i64 y), (w.heap.size, 2, .int .i64 m), (w.heap.size, 3, .int .i64 t)] W := ⟨_, rfl, by
            have h := ((Hd.start w).box4 (.int .i64 x) (.int .i64 y) (.int .i64 m) (.int .i64 t) 30)
            exact h⟩
          go_enter Tryd.func37, Tryd.ntmps37
          go_wp2_with fail
          rw [← hW]
          clear hW
          have k0 := fun p : Over _ => H.over (b := w.heap.size) (o := 0) (v := .int .i64 x) (by simp) p
          have k1 := fun p : Over _ => H.over (b := w.heap.size) (o := 1) (v := .int .i64 y) (by simp) p
          have k2 := fun p : Over _ => H.over (b := w.heap.size) (o := 2) (v := .int .i64 m) (by simp) p
          have k3 := fun p : Over _ => H.over (b := w.heap.size) (o := 3) (v := .int .i64 t) (by simp) p
          refine wp_region_over (by kernel_rfl) (by kernel_rfl) ?_
          repeat (go_big_quiet_step (first | (go_at_call 90; rename_i p; refine (l10None_any _).mono ?_; rintro e' w' ⟨rfl, hb1⟩; exact ⟨rfl, p.next hb1⟩) | (go_at_call 104; rename_i p; refine (l10Range_xy _ _ _ _ _).mono ?_; rintro e' w' ⟨rfl, hb1⟩; exact ⟨rfl, p.next hb1⟩) | (go_at_call 105; rename_i p; refine (l10Rest_xy _ _ _ _ _).mono ?_; rintro e' w' ⟨rfl, hb1⟩; exact ⟨rfl, p.next hb1⟩) | (go_at_call 59; rename_i p; refine (RangeOk_xy _ _ _).mono ?_; rintro e' w' ⟨rfl, hb1⟩; exact ⟨by (first | rw [h]), p.next hb1⟩) | (go_at_call 75; rename_i p; refine (sRestOk_xy _ _ _).mono ?_; rintro e' w' ⟨rfl, hb1⟩; exact ⟨by (first | rw [h2]), p.next hb1⟩) | (go_at_call 23; rename_i p; refine (hM _).mono ?_; rintro e' w' ⟨rfl, hb1⟩; exact ⟨rfl, p.next hb1⟩)))
          refine wpQuiet_nil ?_
          rintro _ ⟨p, rfl⟩
          replace H := H.call p.below
          clear k0 k1 k2 k3
          generalize p.w = w3 at *
          clear p
          go_wp2
          go_ret
          exact ⟨rfl, H.below⟩
set_option maxRecDepth 100000 in
set_option maxHeartbeats 4000000 in
theorem sVHas_xy (x y m t v : Int) (w : World) :
    Calls Tryd.prog 40 #[.agg #[.int .i64 x, .int .i64 y, .int .i64 m, .int .i64 t], .int .i64 v] w fun e w' => e = .returned (.bool (has10 (x, y, m, t) v)) ∧ Below w.heap.size w w' := by
  cases h : ok10 (x, y, m, t)
  · have e : has10 (x, y, m, t) v = false := by unfold has10; rw [h]; rfl
    rw [e]
    clear e
    obtain ⟨W, hW, H⟩ : ∃ W, W = w.alloc (.cells #[.int .i64 x, .int .i64 y, .int .i64 m, .int .i64 t] 30) ∧ Hd w [(w.heap.size, 0, .int .i64 x), (w.heap.size, 1, .int .i64 y), (w.heap.size, 2, .int .i64 m), (w.heap.size, 3, .int .i64 t)] W := ⟨_, rfl, by
      have h := ((Hd.start w).box4 (.int .i64 x) (.int .i64 y) (.int .i64 m) (.int .i64 t) 30)
      exact h⟩
    go_enter Tryd.func40, Tryd.ntmps40
    go_wp2_with fail
    rw [← hW]
    clear hW
    have k0 := fun p : Over _ => H.over (b := w.heap.size) (o := 0) (v := .int .i64 x) (by simp) p
    have k1 := fun p : Over _ => H.over (b := w.heap.size) (o := 1) (v := .int .i64 y) (by simp) p
    have k2 := fun p : Over _ => H.over (b := w.heap.size) (o := 2) (v := .int .i64 m) (by simp) p
    have k3 := fun p : Over _ => H.over (b := w.heap.size) (o := 3) (v := .int .i64 t) (by simp) p
    refine wp_region_over (by kernel_rfl) (by kernel_rfl) ?_
    repeat (go_big_quiet_step (first | (go_at_call 90; rename_i p; refine (l10None_any _).mono ?_; rintro e' w' ⟨rfl, hb1⟩; exact ⟨rfl, p.next hb1⟩) | (go_at_call 104; rename_i p; refine (l10Range_xy _ _ _ _ _).mono ?_; rintro e' w' ⟨rfl, hb1⟩; exact ⟨rfl, p.next hb1⟩) | (go_at_call 105; rename_i p; refine (l10Rest_xy _ _ _ _ _).mono ?_; rintro e' w' ⟨rfl, hb1⟩; exact ⟨rfl, p.next hb1⟩) | (go_at_call 37; rename_i p; refine (sVOk_xy _ _ _ _ _).mono ?_; rintro e' w' ⟨rfl, hb1⟩; exact ⟨by rw [h], p.next hb1⟩) | (go_at_call 28; rename_i p; refine (RangeHas_xy _ _ _ _).mono ?_; rintro e' w' ⟨rfl, hb1⟩; exact ⟨by rw [h2], p.next hb1⟩) | (go_at_call 29; rename_i p; refine (sRestHas_xy _ _ _ _).mono ?_; rintro e' w' ⟨rfl, hb1⟩; exact ⟨rfl, p.next hb1⟩)))
    refine wpQuiet_nil ?_
    rintro _ ⟨p, rfl⟩
    replace H := H.call p.below
    clear k0 k1 k2 k3
    generalize p.w = w3 at *
    clear p
    go_wp2
    go_ret
    exact ⟨rfl, H.below⟩
  · rcases isN10 x y m t with e | e
    · rw [e, has10_none]
      simp only [none10, Prod.mk.injEq] at e
      obtain ⟨rfl, rfl, rfl, rfl⟩ := e
      obtain ⟨W, hW, H⟩ : ∃ W, W = w.alloc (.cells #[.int .i64 1, .int .i64 0, .int .i64 0, .int .i64 0] 30) ∧ Hd w [(w.heap.size, 0, .int .i64 1), (w.heap.size, 1, .int .i64 0), (w.heap.size, 2, .int .i64 0), (w.heap.size, 3, .int .i64 0)] W := ⟨_, rfl, by
        have h := ((Hd.start w).box4 (.int .i64 1) (.int .i64 0) (.int .i64 0) (.int .i64 0) 30)
        exact h⟩
      go_enter Tryd.func40, Tryd.ntmps40
      go_wp2_with fail
      rw [← hW]
      clear hW
      have k0 := fun p : Over _ => H.over (b := w.heap.size) (o := 0) (v := .int .i64 1) (by simp) p
      have k1 := fun p : Over _ => H.over (b := w.heap.size) (o := 1) (v := .int .i64 0) (by simp) p
      have k2 := fun p : Over _ => H.over (b := w.heap.size) (o := 2) (v := .int .i64 0) (by simp) p
      have k3 := fun p : Over _ => H.over (b := w.heap.size) (o := 3) (v := .int .i64 0) (by simp) p
      refine wp_region_over (by kernel_rfl) (by kernel_rfl) ?_
      repeat (go_big_quiet_step (first | (go_at_call 90; rename_i p; refine (l10None_any _).mono ?_; rintro e' w' ⟨rfl, hb1⟩; exact ⟨rfl, p.next hb1⟩) | (go_at_call 104; rename_i p; refine (l10Range_xy _ _ _ _ _).mono ?_; rintro e' w' ⟨rfl, hb1⟩; exact ⟨rfl, p.next hb1⟩) | (go_at_call 105; rename_i p; refine (l10Rest_xy _ _ _ _ _).mono ?_; rintro e' w' ⟨rfl, hb1⟩; exact ⟨rfl, p.next hb1⟩) | (go_at_call 37; rename_i p; refine (sVOk_xy _ _ _ _ _).mono ?_; rintro e' w' ⟨rfl, hb1⟩; exact ⟨by rw [h], p.next hb1⟩) | (go_at_call 28; rename_i p; refine (RangeHas_xy _ _ _ _).mono ?_; rintro e' w' ⟨rfl, hb1⟩; exact ⟨by rw [h2], p.next hb1⟩) | (go_at_call 29; rename_i p; refine (sRestHas_xy _ _ _ _).mono ?_; rintro e' w' ⟨rfl, hb1⟩; exact ⟨rfl, p.next hb1⟩)))
      refine wpQuiet_nil ?_
      rintro _ ⟨p, rfl⟩
      replace H := H.call p.below
      clear k0 k1 k2 k3
      generalize p.w = w3 at *
      clear p
      go_wp2
      go_ret
      exact ⟨rfl, H.below⟩
    · have hq := @ne4_if x y m t 1 0 0 0 e
      have e2 : has10 (x, y, m, t) v = (rHas (x, y) v && qHas (m, t) v) := by unfold has10; rw [h]; rfl
      rw [e2]
      clear e e2
      cases h2 : rHas (x, y) v
      all_goals
        obtain ⟨W, hW, H⟩ : ∃ W, W = w.alloc (.cells #[.int .i64 x, .int .i64 y, .int .i64 m, .int .i64 t] 30) ∧ Hd w [(w.heap.size, 0, .int .i64 x), (w.heap.size, 1, .int .i64 y), (w.heap.size, 2, .int .i64 m), (w.heap.size, 3, .int .i64 t)] W := ⟨_, rfl, by
          have h := ((Hd.start w).box4 (.int .i64 x) (.int .i64 y) (.int .i64 m) (.int .i64 t) 30)
          exact h⟩
        go_enter Tryd.func40, Tryd.ntmps40
        go_wp2_with fail
        rw [← hW]
        clear hW
        have k0 := fun p : Over _ => H.over (b := w.heap.size) (o := 0) (v := .int .i64 x) (by simp) p
        have k1 := fun p : Over _ => H.over (b := w.heap.size) (o := 1) (v := .int .i64 y) (by simp) p
        have k2 := fun p : Over _ => H.over (b := w.heap.size) (o := 2) (v := .int .i64 m) (by simp) p
        have k3 := fun p : Over _ => H.over (b := w.heap.size) (o := 3) (v := .int .i64 t) (by simp) p
        refine wp_region_over (by kernel_rfl) (by kernel_rfl) ?_
        repeat (go_big_quiet_step (first | (go_at_call 90; rename_i p; refine (l10None_any _).mono ?_; rintro e' w' ⟨rfl, hb1⟩; exact ⟨rfl, p.next hb1⟩) | (go_at_call 104; rename_i p; refine (l10Range_xy _ _ _ _ _).mono ?_; rintro e' w' ⟨rfl, hb1⟩; exact ⟨rfl, p.next hb1⟩) | (go_at_call 105; rename_i p; refine (l10Rest_xy _ _ _ _ _).mono ?_; rintro e' w' ⟨rfl, hb1⟩; exact ⟨rfl, p.next hb1⟩) | (go_at_call 37; rename_i p; refine (sVOk_xy _ _ _ _ _).mono ?_; rintro e' w' ⟨rfl, hb1⟩; exact ⟨by rw [h], p.next hb1⟩) | (go_at_call 28; rename_i p; refine (RangeHas_xy _ _ _ _).mono ?_; rintro e' w' ⟨rfl, hb1⟩; exact ⟨by rw [h2], p.next hb1⟩) | (go_at_call 29; rename_i p; refine (sRestHas_xy _ _ _ _).mono ?_; rintro e' w' ⟨rfl, hb1⟩; exact ⟨rfl, p.next hb1⟩)))
        refine wpQuiet_nil ?_
        rintro _ ⟨p, rfl⟩
        replace H := H.call p.below
        clear k0 k1 k2 k3
        generalize p.w = w3 at *
        clear p
        go_wp2
        go_ret
        exact ⟨rfl, H.below⟩
end Go.Proofs.YthbbgkpkijlclaaDoor.num
namespace Go.Proofs.YthbbgkpkijlclaaDoor.num
open Go.ChangeShapes Go.WideShapes Go.ChangeAt Go.RowKit
set_option linter.unusedVariables false

set_option maxRecDepth 100000 in
set_option maxHeartbeats 4000000 in
theorem sVIn_xy (x y m t x2 y2 m2 t2 : Int) (w : World) :
    Calls Tryd.prog 49 #[.agg #[.int .i64 x, .int .i64 y, .int .i64 m, .int .i64 t], .agg #[.int .i64 x2, .int .i64 y2, .int .i64 m2, .int .i64 t2]] w fun e w' => e = .returned (.bool (in10 (x, y, m, t) (x2, y2, m2, t2))) ∧ Below w.heap.size w w' := by
  cases h : ok10 (x, y, m, t)
  · have e : in10 (x, y, m, t) (x2, y2, m2, t2) = false := by unfold in10; rw [h]; rfl
    rw [e]
    clear e
    obtain ⟨W, hW, H⟩ : ∃ W, W = (w.alloc (.cells #[.int .i64 x, .int .i64 y, .int .i64 m, .int .i64 t] 30)).alloc (.cells #[.int .i64 x2, .int .i64 y2, .int .i64 m2, .int .i64 t2] 30) ∧ Hd w [(w.heap.size + 1, 0, .int .i64 x2), (w.heap.size + 1, 1, .int .i64 y2), (w.heap.size + 1, 2, .int .i64 m2), (w.heap.size + 1, 3, .int .i64 t2), (w.heap.size, 0, .int .i64 x), (w.heap.size, 1, .int .i64 y), (w.heap.size, 2, .int .i64 m), (w.heap.size, 3, .int .i64 t)] W := ⟨_, rfl, by
      have h := (((Hd.start w).box4 (.int .i64 x) (.int .i64 y) (.int .i64 m) (.int .i64 t) 30).box4 (.int .i64 x2) (.int .i64 y2) (.int .i64 m2) (.int .i64 t2) 30)
      simp only [size_alloc1] at h
      exact h⟩
    go_enter Tryd.func49, Tryd.ntmps49
    go_wp2_with fail
    rw [← hW]
    clear hW
    have c0 := H.get (b := w.heap.size) (o := 0) (v := .int .i64 x) (by simp)
    have c1 := H.get (b := w.heap.size) (o := 1) (v := .int .i64 y) (by simp)
    have c2 := H.get (b := w.heap.size) (o := 2) (v := .int .i64 m) (by simp)
    have c3 := H.get (b := w.heap.size) (o := 3) (v := .int .i64 t) (by simp)
    have c4 := H.get (b := w.heap.size + 1) (o := 0) (v := .int .i64 x2) (by simp)
    have c5 := H.get (b := w.heap.size + 1) (o := 1) (v := .int .i64 y2) (by simp)
    have c6 := H.get (b := w.heap.size + 1) (o := 2) (v := .int .i64 m2) (by simp)
    have c7 := H.get (b := w.heap.size + 1) (o := 3) (v := .int .i64 t2) (by simp)
    go_wp2_with (first | (go_at_call 37; refine (sVOk_xy _ _ _ _ _).mono ?_; rintro e w' ⟨rfl, hb⟩; (first | rw [h]); replace H := H.call hb; clear hb; have c0 := H.get (b := w.heap.size) (o := 0) (v := .int .i64 x) (by simp); have c1 := H.get (b := w.heap.size) (o := 1) (v := .int .i64 y) (by simp); have c2 := H.get (b := w.heap.size) (o := 2) (v := .int .i64 m) (by simp); have c3 := H.get (b := w.heap.size) (o := 3) (v := .int .i64 t) (by simp); have c4 := H.get (b := w.heap.size + 1) (o := 0) (v := .int .i64 x2) (by simp); have c5 := H.get (b := w.heap.size + 1) (o := 1) (v := .int .i64 y2) (by simp); have c6 := H.get (b := w.heap.size + 1) (o := 2) (v := .int .i64 m2) (by simp); have c7 := H.get (b := w.heap.size + 1) (o := 3) (v := .int .i64 t2) (by simp)))
    go_ret
    exact ⟨rfl, H.below⟩
  cases h2 : ok10 (x2, y2, m2, t2)
  · have e : in10 (x, y, m, t) (x2, y2, m2, t2) = false := by unfold in10; rw [h, h2]; rfl
    rw [e]
    clear e
    obtain ⟨W, hW, H⟩ : ∃ W, W = (w.alloc (.cells #[.int .i64 x, .int .i64 y, .int .i64 m, .int .i64 t] 30)).alloc (.cells #[.int .i64 x2, .int .i64 y2, .int .i64 m2, .int .i64 t2] 30) ∧ Hd w [(w.heap.size + 1, 0, .int .i64 x2), (w.heap.size + 1, 1, .int .i64 y2), (w.heap.size + 1, 2, .int .i64 m2), (w.heap.size + 1, 3, .int .i64 t2), (w.heap.size, 0, .int .i64 x), (w.heap.size, 1, .int .i64 y), (w.heap.size, 2, .int .i64 m), (w.heap.size, 3, .int .i64 t)] W := ⟨_, rfl, by
      have h := (((Hd.start w).box4 (.int .i64 x) (.int .i64 y) (.int .i64 m) (.int .i64 t) 30).box4 (.int .i64 x2) (.int .i64 y2) (.int .i64 m2) (.int .i64 t2) 30)
      simp only [size_alloc1] at h
      exact h⟩
    go_enter Tryd.func49, Tryd.ntmps49
    go_wp2_with fail
    rw [← hW]
    clear hW
    have c0 := H.get (b := w.heap.size) (o := 0) (v := .int .i64 x) (by simp)
    have c1 := H.get (b := w.heap.size) (o := 1) (v := .int .i64 y) (by simp)
    have c2 := H.get (b := w.heap.size) (o := 2) (v := .int .i64 m) (by simp)
    have c3 := H.get (b := w.heap.size) (o := 3) (v := .int .i64 t) (by simp)
    have c4 := H.get (b := w.heap.size + 1) (o := 0) (v := .int .i64 x2) (by simp)
    have c5 := H.get (b := w.heap.size + 1) (o := 1) (v := .int .i64 y2) (by simp)
    have c6 := H.get (b := w.heap.size + 1) (o := 2) (v := .int .i64 m2) (by simp)
    have c7 := H.get (b := w.heap.size + 1) (o := 3) (v := .int .i64 t2) (by simp)
    go_wp2_with (first | (go_at_call 37; refine (sVOk_xy _ _ _ _ _).mono ?_; rintro e w' ⟨rfl, hb⟩; (first | rw [h] | rw [h2]); replace H := H.call hb; clear hb; have c0 := H.get (b := w.heap.size) (o := 0) (v := .int .i64 x) (by simp); have c1 := H.get (b := w.heap.size) (o := 1) (v := .int .i64 y) (by simp); have c2 := H.get (b := w.heap.size) (o := 2) (v := .int .i64 m) (by simp); have c3 := H.get (b := w.heap.size) (o := 3) (v := .int .i64 t) (by simp); have c4 := H.get (b := w.heap.size + 1) (o := 0) (v := .int .i64 x2) (by simp); have c5 := H.get (b := w.heap.size + 1) (o := 1) (v := .int .i64 y2) (by simp); have c6 := H.get (b := w.heap.size + 1) (o := 2) (v := .int .i64 m2) (by simp); have c7 := H.get (b := w.heap.size + 1) (o := 3) (v := .int .i64 t2) (by simp)))
    go_ret
    exact ⟨rfl, H.below⟩
  rcases isN10 x y m t with e1 | e1
  · have e : in10 (x, y, m, t) (x2, y2, m2, t2) = true := by rw [e1]; exact in10_none h2
    rw [e]
    clear e
    simp only [none10, Prod.mk.injEq] at e1
    obtain ⟨rfl, rfl, rfl, rfl⟩ := e1
    obtain ⟨W, hW, H⟩ : ∃ W, W = (w.alloc (.cells #[.int .i64 1, .int .i64 0, .int .i64 0, .int .i64 0] 30)).alloc (.cells #[.int .i64 x2, .int .i64 y2, .int .i64 m2, .int .i64 t2] 30) ∧ Hd w [(w.heap.size + 1, 0, .int .i64 x2), (w.heap.size + 1, 1, .int .i64 y2), (w.heap.size + 1, 2, .int .i64 m2), (w.heap.size + 1, 3, .int .i64 t2), (w.heap.size, 0, .int .i64 1), (w.heap.size, 1, .int .i64 0), (w.heap.size, 2, .int .i64 0), (w.heap.size, 3, .int .i64 0)] W := ⟨_, rfl, by
      have h := (((Hd.start w).box4 (.int .i64 1) (.int .i64 0) (.int .i64 0) (.int .i64 0) 30).box4 (.int .i64 x2) (.int .i64 y2) (.int .i64 m2) (.int .i64 t2) 30)
      simp only [size_alloc1] at h
      exact h⟩
    go_enter Tryd.func49, Tryd.ntmps49
    go_wp2_with fail
    rw [← hW]
    clear hW
    have c0 := H.get (b := w.heap.size) (o := 0) (v := .int .i64 1) (by simp)
    have c1 := H.get (b := w.heap.size) (o := 1) (v := .int .i64 0) (by simp)
    have c2 := H.get (b := w.heap.size) (o := 2) (v := .int .i64 0) (by simp)
    have c3 := H.get (b := w.heap.size) (o := 3) (v := .int .i64 0) (by simp)
    have c4 := H.get (b := w.heap.size + 1) (o := 0) (v := .int .i64 x2) (by simp)
    have c5 := H.get (b := w.heap.size + 1) (o := 1) (v := .int .i64 y2) (by simp)
    have c6 := H.get (b := w.heap.size + 1) (o := 2) (v := .int .i64 m2) (by simp)
    have c7 := H.get (b := w.heap.size + 1) (o := 3) (v := .int .i64 t2) (by simp)
    go_wp2_with (first | (go_at_call 37; refine (sVOk_xy _ _ _ _ _).mono ?_; rintro e w' ⟨rfl, hb⟩; (first | rw [h] | rw [h2]); replace H := H.call hb; clear hb; have c0 := H.get (b := w.heap.size) (o := 0) (v := .int .i64 1) (by simp); have c1 := H.get (b := w.heap.size) (o := 1) (v := .int .i64 0) (by simp); have c2 := H.get (b := w.heap.size) (o := 2) (v := .int .i64 0) (by simp); have c3 := H.get (b := w.heap.size) (o := 3) (v := .int .i64 0) (by simp); have c4 := H.get (b := w.heap.size + 1) (o := 0) (v := .int .i64 x2) (by simp); have c5 := H.get (b := w.heap.size + 1) (o := 1) (v := .int .i64 y2) (by simp); have c6 := H.get (b := w.heap.size + 1) (o := 2) (v := .int .i64 m2) (by simp); have c7 := H.get (b := w.heap.size + 1) (o := 3) (v := .int .i64 t2) (by simp)))
    have k0 := fun p : Over _ => H.over (b := w.heap.size) (o := 0) (v := .int .i64 1) (by simp) p
    have k1 := fun p : Over _ => H.over (b := w.heap.size) (o := 1) (v := .int .i64 0) (by simp) p
    have k2 := fun p : Over _ => H.over (b := w.heap.size) (o := 2) (v := .int .i64 0) (by simp) p
    have k3 := fun p : Over _ => H.over (b := w.heap.size) (o := 3) (v := .int .i64 0) (by simp) p
    have k4 := fun p : Over _ => H.over (b := w.heap.size + 1) (o := 0) (v := .int .i64 x2) (by simp) p
    have k5 := fun p : Over _ => H.over (b := w.heap.size + 1) (o := 1) (v := .int .i64 y2) (by simp) p
    have k6 := fun p : Over _ => H.over (b := w.heap.size + 1) (o := 2) (v := .int .i64 m2) (by simp) p
    have k7 := fun p : Over _ => H.over (b := w.heap.size + 1) (o := 3) (v := .int .i64 t2) (by simp) p
    refine wp_region_over (by kernel_rfl) (by kernel_rfl) ?_
    repeat (go_big_quiet_step (first | (go_at_call 90; rename_i p; refine (l10None_any _).mono ?_; rintro e' w' ⟨rfl, hb1⟩; exact ⟨rfl, p.next hb1⟩)))
    refine wpQuiet_nil ?_
    rintro _ ⟨p, rfl⟩
    replace H := H.call p.below
    clear k0 k1 k2 k3 k4 k5 k6 k7
    generalize p.w = w3 at *
    clear p
    go_wp2
    go_ret
    exact ⟨rfl, H.below⟩
  have hq1 := @ne4_if x y m t 1 0 0 0 e1
  rcases isN10 x2 y2 m2 t2 with e2 | e2
  · have e : in10 (x, y, m, t) (x2, y2, m2, t2) = false := by
      have k1 : decide (((x, y, m, t) : V10) = none10) = false := decide_eq_false e1
      unfold in10
      rw [h, h2, k1, decide_eq_true e2]
      rfl
    rw [e]
    clear e e1
    simp only [none10, Prod.mk.injEq] at e2
    obtain ⟨rfl, rfl, rfl, rfl⟩ := e2
    obtain ⟨W, hW, H⟩ : ∃ W, W = (w.alloc (.cells #[.int .i64 x, .int .i64 y, .int .i64 m, .int .i64 t] 30)).alloc (.cells #[.int .i64 1, .int .i64 0, .int .i64 0, .int .i64 0] 30) ∧ Hd w [(w.heap.size + 1, 0, .int .i64 1), (w.heap.size + 1, 1, .int .i64 0), (w.heap.size + 1, 2, .int .i64 0), (w.heap.size + 1, 3, .int .i64 0), (w.heap.size, 0, .int .i64 x), (w.heap.size, 1, .int .i64 y), (w.heap.size, 2, .int .i64 m), (w.heap.size, 3, .int .i64 t)] W := ⟨_, rfl, by
      have h := (((Hd.start w).box4 (.int .i64 x) (.int .i64 y) (.int .i64 m) (.int .i64 t) 30).box4 (.int .i64 1) (.int .i64 0) (.int .i64 0) (.int .i64 0) 30)
      simp only [size_alloc1] at h
      exact h⟩
    go_enter Tryd.func49, Tryd.ntmps49
    go_wp2_with fail
    rw [← hW]
    clear hW
    have c0 := H.get (b := w.heap.size) (o := 0) (v := .int .i64 x) (by simp)
    have c1 := H.get (b := w.heap.size) (o := 1) (v := .int .i64 y) (by simp)
    have c2 := H.get (b := w.heap.size) (o := 2) (v := .int .i64 m) (by simp)
    have c3 := H.get (b := w.heap.size) (o := 3) (v := .int .i64 t) (by simp)
    have c4 := H.get (b := w.heap.size + 1) (o := 0) (v := .int .i64 1) (by simp)
    have c5 := H.get (b := w.heap.size + 1) (o := 1) (v := .int .i64 0) (by simp)
    have c6 := H.get (b := w.heap.size + 1) (o := 2) (v := .int .i64 0) (by simp)
    have c7 := H.get (b := w.heap.size + 1) (o := 3) (v := .int .i64 0) (by simp)
    go_wp2_with (first | (go_at_call 37; refine (sVOk_xy _ _ _ _ _).mono ?_; rintro e w' ⟨rfl, hb⟩; (first | rw [h] | rw [h2]); replace H := H.call hb; clear hb; have c0 := H.get (b := w.heap.size) (o := 0) (v := .int .i64 x) (by simp); have c1 := H.get (b := w.heap.size) (o := 1) (v := .int .i64 y) (by simp); have c2 := H.get (b := w.heap.size) (o := 2) (v := .int .i64 m) (by simp); have c3 := H.get (b := w.heap.size) (o := 3) (v := .int .i64 t) (by simp); have c4 := H.get (b := w.heap.size + 1) (o := 0) (v := .int .i64 1) (by simp); have c5 := H.get (b := w.heap.size + 1) (o := 1) (v := .int .i64 0) (by simp); have c6 := H.get (b := w.heap.size + 1) (o := 2) (v := .int .i64 0) (by simp); have c7 := H.get (b := w.heap.size + 1) (o := 3) (v := .int .i64 0) (by simp)))
    have k0 := fun p : Over _ => H.over (b := w.heap.size) (o := 0) (v := .int .i64 x) (by simp) p
    have k1 := fun p : Over _ => H.over (b := w.heap.size) (o := 1) (v := .int .i64 y) (by simp) p
    have k2 := fun p : Over _ => H.over (b := w.heap.size) (o := 2) (v := .int .i64 m) (by simp) p
    have k3 := fun p : Over _ => H.over (b := w.heap.size) (o := 3) (v := .int .i64 t) (by simp) p
    have k4 := fun p : Over _ => H.over (b := w.heap.size + 1) (o := 0) (v := .int .i64 1) (by simp) p
    have k5 := fun p : Over _ => H.over (b := w.heap.size + 1) (o := 1) (v := .int .i64 0) (by simp) p
    have k6 := fun p : Over _ => H.over (b := w.heap.size + 1) (o := 2) (v := .int .i64 0) (by simp) p
    have k7 := fun p : Over _ => H.over (b := w.heap.size + 1) (o := 3) (v := .int .i64 0) (by simp) p
    refine wp_region_over (by kernel_rfl) (by kernel_rfl) ?_
    repeat (go_big_quiet_step (first | (go_at_call 90; rename_i p; refine (l10None_any _).mono ?_; rintro e' w' ⟨rfl, hb1⟩; exact ⟨rfl, p.next hb1⟩)))
    refine wpQuiet_nil ?_
    rintro _ ⟨p, rfl⟩
    replace H := H.call p.below
    clear k0 k1 k2 k3 k4 k5 k6 k7
    generalize p.w = w3 at *
    clear p
    go_wp2_with fail
    have k0 := fun p : Over _ => H.over (b := w.heap.size) (o := 0) (v := .int .i64 x) (by simp) p
    have k1 := fun p : Over _ => H.over (b := w.heap.size) (o := 1) (v := .int .i64 y) (by simp) p
    have k2 := fun p : Over _ => H.over (b := w.heap.size) (o := 2) (v := .int .i64 m) (by simp) p
    have k3 := fun p : Over _ => H.over (b := w.heap.size) (o := 3) (v := .int .i64 t) (by simp) p
    have k4 := fun p : Over _ => H.over (b := w.heap.size + 1) (o := 0) (v := .int .i64 1) (by simp) p
    have k5 := fun p : Over _ => H.over (b := w.heap.size + 1) (o := 1) (v := .int .i64 0) (by simp) p
    have k6 := fun p : Over _ => H.over (b := w.heap.size + 1) (o := 2) (v := .int .i64 0) (by simp) p
    have k7 := fun p : Over _ => H.over (b := w.heap.size + 1) (o := 3) (v := .int .i64 0) (by simp) p
    refine wp_region_over (by kernel_rfl) (by kernel_rfl) ?_
    repeat (go_big_quiet_step (first | (go_at_call 90; rename_i p; refine (l10None_any _).mono ?_; rintro e' w' ⟨rfl, hb1⟩; exact ⟨rfl, p.next hb1⟩)))
    refine wpQuiet_nil ?_
    rintro _ ⟨p, rfl⟩
    replace H := H.call p.below
    clear k0 k1 k2 k3 k4 k5 k6 k7
    generalize p.w = w4 at *
    clear p
    go_wp2
    go_ret
    exact ⟨rfl, H.below⟩
  · rw [in10_eq h h2 e1]
    have hq2 := @ne4_if x2 y2 m2 t2 1 0 0 0 e2
    clear e1 e2
    cases hi : rIn (x, y) (x2, y2)
    all_goals
      obtain ⟨W, hW, H⟩ : ∃ W, W = (w.alloc (.cells #[.int .i64 x, .int .i64 y, .int .i64 m, .int .i64 t] 30)).alloc (.cells #[.int .i64 x2, .int .i64 y2, .int .i64 m2, .int .i64 t2] 30) ∧ Hd w [(w.heap.size + 1, 0, .int .i64 x2), (w.heap.size + 1, 1, .int .i64 y2), (w.heap.size + 1, 2, .int .i64 m2), (w.heap.size + 1, 3, .int .i64 t2), (w.heap.size, 0, .int .i64 x), (w.heap.size, 1, .int .i64 y), (w.heap.size, 2, .int .i64 m), (w.heap.size, 3, .int .i64 t)] W := ⟨_, rfl, by
        have h := (((Hd.start w).box4 (.int .i64 x) (.int .i64 y) (.int .i64 m) (.int .i64 t) 30).box4 (.int .i64 x2) (.int .i64 y2) (.int .i64 m2) (.int .i64 t2) 30)
        simp only [size_alloc1] at h
        exact h⟩
      go_enter Tryd.func49, Tryd.ntmps49
      go_wp2_with fail
      rw [← hW]
      clear hW
      have c0 := H.get (b := w.heap.size) (o := 0) (v := .int .i64 x) (by simp)
      have c1 := H.get (b := w.heap.size) (o := 1) (v := .int .i64 y) (by simp)
      have c2 := H.get (b := w.heap.size) (o := 2) (v := .int .i64 m) (by simp)
      have c3 := H.get (b := w.heap.size) (o := 3) (v := .int .i64 t) (by simp)
      have c4 := H.get (b := w.heap.size + 1) (o := 0) (v := .int .i64 x2) (by simp)
      have c5 := H.get (b := w.heap.size + 1) (o := 1) (v := .int .i64 y2) (by simp)
      have c6 := H.get (b := w.heap.size + 1) (o := 2) (v := .int .i64 m2) (by simp)
      have c7 := H.get (b := w.heap.size + 1) (o := 3) (v := .int .i64 t2) (by simp)
      go_wp2_with (first | (go_at_call 37; refine (sVOk_xy _ _ _ _ _).mono ?_; rintro e w' ⟨rfl, hb⟩; (first | rw [h] | rw [h2]); replace H := H.call hb; clear hb; have c0 := H.get (b := w.heap.size) (o := 0) (v := .int .i64 x) (by simp); have c1 := H.get (b := w.heap.size) (o := 1) (v := .int .i64 y) (by simp); have c2 := H.get (b := w.heap.size) (o := 2) (v := .int .i64 m) (by simp); have c3 := H.get (b := w.heap.size) (o := 3) (v := .int .i64 t) (by simp); have c4 := H.get (b := w.heap.size + 1) (o := 0) (v := .int .i64 x2) (by simp); have c5 := H.get (b := w.heap.size + 1) (o := 1) (v := .int .i64 y2) (by simp); have c6 := H.get (b := w.heap.size + 1) (o := 2) (v := .int .i64 m2) (by simp); have c7 := H.get (b := w.heap.size + 1) (o := 3) (v := .int .i64 t2) (by simp)))
      have k0 := fun p : Over _ => H.over (b := w.heap.size) (o := 0) (v := .int .i64 x) (by simp) p
      have k1 := fun p : Over _ => H.over (b := w.heap.size) (o := 1) (v := .int .i64 y) (by simp) p
      have k2 := fun p : Over _ => H.over (b := w.heap.size) (o := 2) (v := .int .i64 m) (by simp) p
      have k3 := fun p : Over _ => H.over (b := w.heap.size) (o := 3) (v := .int .i64 t) (by simp) p
      have k4 := fun p : Over _ => H.over (b := w.heap.size + 1) (o := 0) (v := .int .i64 x2) (by simp) p
      have k5 := fun p : Over _ => H.over (b := w.heap.size + 1) (o := 1) (v := .int .i64 y2) (by simp) p
      have k6 := fun p : Over _ => H.over (b := w.heap.size + 1) (o := 2) (v := .int .i64 m2) (by simp) p
      have k7 := fun p : Over _ => H.over (b := w.heap.size + 1) (o := 3) (v := .int .i64 t2) (by simp) p
      refine wp_region_over (by kernel_rfl) (by kernel_rfl) ?_
      repeat (go_big_quiet_step (first | (go_at_call 90; rename_i p; refine (l10None_any _).mono ?_; rintro e' w' ⟨rfl, hb1⟩; exact ⟨rfl, p.next hb1⟩)))
      refine wpQuiet_nil ?_
      rintro _ ⟨p, rfl⟩
      replace H := H.call p.below
      clear k0 k1 k2 k3 k4 k5 k6 k7
      generalize p.w = w3 at *
      clear p
      go_wp2_with fail
      have k0 := fun p : Over _ => H.over (b := w.heap.size) (o := 0) (v := .int .i64 x) (by simp) p
      have k1 := fun p : Over _ => H.over (b := w.heap.size) (o := 1) (v := .int .i64 y) (by simp) p
      have k2 := fun p : Over _ => H.over (b := w.heap.size) (o := 2) (v := .int .i64 m) (by simp) p
      have k3 := fun p : Over _ => H.over (b := w.heap.size) (o := 3) (v := .int .i64 t) (by simp) p
      have k4 := fun p : Over _ => H.over (b := w.heap.size + 1) (o := 0) (v := .int .i64 x2) (by simp) p
      have k5 := fun p : Over _ => H.over (b := w.heap.size + 1) (o := 1) (v := .int .i64 y2) (by simp) p
      have k6 := fun p : Over _ => H.over (b := w.heap.size + 1) (o := 2) (v := .int .i64 m2) (by simp) p
      have k7 := fun p : Over _ => H.over (b := w.heap.size + 1) (o := 3) (v := .int .i64 t2) (by simp) p
      refine wp_region_over (by kernel_rfl) (by kernel_rfl) ?_
      repeat (go_big_quiet_step (first | (go_at_call 90; rename_i p; refine (l10None_any _).mono ?_; rintro e' w' ⟨rfl, hb1⟩; exact ⟨rfl, p.next hb1⟩) | (go_at_call 104; rename_i p; refine (l10Range_xy _ _ _ _ _).mono ?_; rintro e' w' ⟨rfl, hb1⟩; exact ⟨rfl, p.next hb1⟩) | (go_at_call 105; rename_i p; refine (l10Rest_xy _ _ _ _ _).mono ?_; rintro e' w' ⟨rfl, hb1⟩; exact ⟨rfl, p.next hb1⟩) | (go_at_call 112; rename_i p; refine (RangeIn_xy _ _ _ _ _).mono ?_; rintro e' w' ⟨rfl, hb1⟩; exact ⟨by rw [hi], p.next hb1⟩) | (go_at_call 113; rename_i p; refine (sRestIn_xy _ _ _ _ _).mono ?_; rintro e' w' ⟨rfl, hb1⟩; exact ⟨rfl, p.next hb1⟩)))
      refine wpQuiet_nil ?_
      rintro _ ⟨p, rfl⟩
      replace H := H.call p.below
      clear k0 k1 k2 k3 k4 k5 k6 k7
      generalize p.w = w4 at *
      clear p
      go_wp2
      go_ret
      exact ⟨rfl, H.below⟩
end Go.Proofs.YthbbgkpkijlclaaDoor.num
namespace Go.Proofs.YthbbgkpkijlclaaDoor.num
open Go.ChangeShapes Go.WideShapes Go.ChangeAt Go.RowKit
set_option linter.unusedVariables false

set_option maxRecDepth 100000 in
set_option maxHeartbeats 4000000 in
theorem sVJoin_xy (x y m t x2 y2 m2 t2 : Int) (w : World) :
    Calls Tryd.prog 34 #[.agg #[.int .i64 x, .int .i64 y, .int .i64 m, .int .i64 t], .agg #[.int .i64 x2, .int .i64 y2, .int .i64 m2, .int .i64 t2]] w fun e w' => e = .returned (.agg #[.int .i64 (join10 (x, y, m, t) (x2, y2, m2, t2)).1, .int .i64 (join10 (x, y, m, t) (x2, y2, m2, t2)).2.1, .int .i64 (join10 (x, y, m, t) (x2, y2, m2, t2)).2.2.1, .int .i64 (join10 (x, y, m, t) (x2, y2, m2, t2)).2.2.2]) ∧ Below w.heap.size w w' := by
  cases h : ok10 (x, y, m, t)
  · have e : join10 (x, y, m, t) (x2, y2, m2, t2) = none10 := by unfold join10; rw [if_pos (.inl h)]
    rw [e]
    clear e
    obtain ⟨W, hW, H⟩ : ∃ W, W = ((w.alloc (.cells #[.int .i64 x, .int .i64 y, .int .i64 m, .int .i64 t] 30)).alloc (.cells #[.int .i64 x2, .int .i64 y2, .int .i64 m2, .int .i64 t2] 30)).alloc (.cells #[.int .i64 0, .int .i64 0, .int .i64 0, .int .i64 0] 30) ∧ Hd w [(w.heap.size + 2, 0, .int .i64 0), (w.heap.size + 2, 1, .int .i64 0), (w.heap.size + 2, 2, .int .i64 0), (w.heap.size + 2, 3, .int .i64 0), (w.heap.size + 1, 0, .int .i64 x2), (w.heap.size + 1, 1, .int .i64 y2), (w.heap.size + 1, 2, .int .i64 m2), (w.heap.size + 1, 3, .int .i64 t2), (w.heap.size, 0, .int .i64 x), (w.heap.size, 1, .int .i64 y), (w.heap.size, 2, .int .i64 m), (w.heap.size, 3, .int .i64 t)] W := ⟨_, rfl, by
      have h := ((((Hd.start w).box4 (.int .i64 x) (.int .i64 y) (.int .i64 m) (.int .i64 t) 30).box4 (.int .i64 x2) (.int .i64 y2) (.int .i64 m2) (.int .i64 t2) 30).box4 (.int .i64 0) (.int .i64 0) (.int .i64 0) (.int .i64 0) 30)
      simp only [size_alloc1] at h
      exact h⟩
    go_enter Tryd.func34, Tryd.ntmps34
    go_wp2_with fail
    rw [← hW]
    clear hW
    have c0 := H.get (b := w.heap.size) (o := 0) (v := .int .i64 x) (by simp)
    have c1 := H.get (b := w.heap.size) (o := 1) (v := .int .i64 y) (by simp)
    have c2 := H.get (b := w.heap.size) (o := 2) (v := .int .i64 m) (by simp)
    have c3 := H.get (b := w.heap.size) (o := 3) (v := .int .i64 t) (by simp)
    have c4 := H.get (b := w.heap.size + 1) (o := 0) (v := .int .i64 x2) (by simp)
    have c5 := H.get (b := w.heap.size + 1) (o := 1) (v := .int .i64 y2) (by simp)
    have c6 := H.get (b := w.heap.size + 1) (o := 2) (v := .int .i64 m2) (by simp)
    have c7 := H.get (b := w.heap.size + 1) (o := 3) (v := .int .i64 t2) (by simp)
    have c8 := H.get (b := w.heap.size + 2) (o := 0) (v := .int .i64 0) (by simp)
    have c9 := H.get (b := w.heap.size + 2) (o := 1) (v := .int .i64 0) (by simp)
    have c10 := H.get (b := w.heap.size + 2) (o := 2) (v := .int .i64 0) (by simp)
    have c11 := H.get (b := w.heap.size + 2) (o := 3) (v := .int .i64 0) (by simp)
    go_wp2_with (first | (go_at_call 37; refine (sVOk_xy _ _ _ _ _).mono ?_; rintro e w' ⟨rfl, hb⟩; (first | rw [h]); replace H := H.call hb; clear hb; have c0 := H.get (b := w.heap.size) (o := 0) (v := .int .i64 x) (by simp); have c1 := H.get (b := w.heap.size) (o := 1) (v := .int .i64 y) (by simp); have c2 := H.get (b := w.heap.size) (o := 2) (v := .int .i64 m) (by simp); have c3 := H.get (b := w.heap.size) (o := 3) (v := .int .i64 t) (by simp); have c4 := H.get (b := w.heap.size + 1) (o := 0) (v := .int .i64 x2) (by simp); have c5 := H.get (b := w.heap.size + 1) (o := 1) (v := .int .i64 y2) (by simp); have c6 := H.get (b := w.heap.size + 1) (o := 2) (v := .int .i64 m2) (by simp); have c7 := H.get (b := w.heap.size + 1) (o := 3) (v := .int .i64 t2) (by simp); have c8 := H.get (b := w.heap.size + 2) (o := 0) (v := .int .i64 0) (by simp); have c9 := H.get (b := w.heap.size + 2) (o := 1) (v := .int .i64 0) (by simp); have c10 := H.get (b := w.heap.size + 2) (o := 2) (v := .int .i64 0) (by simp); have c11 := H.get (b := w.heap.size + 2) (o := 3) (v := .int .i64 0) (by simp)) | (go_at_call 90; refine (l10None_any _).mono ?_; rintro e w' ⟨rfl, hb⟩; replace H := H.call hb; clear hb; have rc0 := H.get (b := w.heap.size + 2) (o := 0) (v := .int .i64 0) (by simp); have rc1 := H.get (b := w.heap.size + 2) (o := 1) (v := .int .i64 0) (by simp); have rc2 := H.get (b := w.heap.size + 2) (o := 2) (v := .int .i64 0) (by simp); have rc3 := H.get (b := w.heap.size + 2) (o := 3) (v := .int .i64 0) (by simp); have rz0 := H.fz (b := w.heap.size + 2) (o := 0) (v := .int .i64 0) (by simp); have rz1 := H.fz (b := w.heap.size + 2) (o := 1) (v := .int .i64 0) (by simp); have rz2 := H.fz (b := w.heap.size + 2) (o := 2) (v := .int .i64 0) (by simp); have rz3 := H.fz (b := w.heap.size + 2) (o := 3) (v := .int .i64 0) (by simp)))
    obtain ⟨f0, f1, f2, f3, fb⟩ := H.fill4 (b := w.heap.size + 2) (x := .int .i64 0) (y := .int .i64 0) (z := .int .i64 0) (u := .int .i64 0) (by simp) (by simp) (by simp) (by simp) (by omega) (.int .i64 1) (.int .i64 0) (.int .i64 0) (.int .i64 0)
    refine bodyPost_ret (results_four rfl _ _ (w.heap.size + 2) (.int .i64 1) (.int .i64 0) (.int .i64 0) (.int .i64 0) _ rfl f0 f1 f2 f3 Tryd.underlying30 rfl (by kernel_rfl)) rfl ?_
    exact ⟨rfl, fb⟩
  cases h2 : ok10 (x2, y2, m2, t2)
  · have e : join10 (x, y, m, t) (x2, y2, m2, t2) = none10 := by unfold join10; rw [if_pos (.inr h2)]
    rw [e]
    clear e
    obtain ⟨W, hW, H⟩ : ∃ W, W = ((w.alloc (.cells #[.int .i64 x, .int .i64 y, .int .i64 m, .int .i64 t] 30)).alloc (.cells #[.int .i64 x2, .int .i64 y2, .int .i64 m2, .int .i64 t2] 30)).alloc (.cells #[.int .i64 0, .int .i64 0, .int .i64 0, .int .i64 0] 30) ∧ Hd w [(w.heap.size + 2, 0, .int .i64 0), (w.heap.size + 2, 1, .int .i64 0), (w.heap.size + 2, 2, .int .i64 0), (w.heap.size + 2, 3, .int .i64 0), (w.heap.size + 1, 0, .int .i64 x2), (w.heap.size + 1, 1, .int .i64 y2), (w.heap.size + 1, 2, .int .i64 m2), (w.heap.size + 1, 3, .int .i64 t2), (w.heap.size, 0, .int .i64 x), (w.heap.size, 1, .int .i64 y), (w.heap.size, 2, .int .i64 m), (w.heap.size, 3, .int .i64 t)] W := ⟨_, rfl, by
      have h := ((((Hd.start w).box4 (.int .i64 x) (.int .i64 y) (.int .i64 m) (.int .i64 t) 30).box4 (.int .i64 x2) (.int .i64 y2) (.int .i64 m2) (.int .i64 t2) 30).box4 (.int .i64 0) (.int .i64 0) (.int .i64 0) (.int .i64 0) 30)
      simp only [size_alloc1] at h
      exact h⟩
    go_enter Tryd.func34, Tryd.ntmps34
    go_wp2_with fail
    rw [← hW]
    clear hW
    have c0 := H.get (b := w.heap.size) (o := 0) (v := .int .i64 x) (by simp)
    have c1 := H.get (b := w.heap.size) (o := 1) (v := .int .i64 y) (by simp)
    have c2 := H.get (b := w.heap.size) (o := 2) (v := .int .i64 m) (by simp)
    have c3 := H.get (b := w.heap.size) (o := 3) (v := .int .i64 t) (by simp)
    have c4 := H.get (b := w.heap.size + 1) (o := 0) (v := .int .i64 x2) (by simp)
    have c5 := H.get (b := w.heap.size + 1) (o := 1) (v := .int .i64 y2) (by simp)
    have c6 := H.get (b := w.heap.size + 1) (o := 2) (v := .int .i64 m2) (by simp)
    have c7 := H.get (b := w.heap.size + 1) (o := 3) (v := .int .i64 t2) (by simp)
    have c8 := H.get (b := w.heap.size + 2) (o := 0) (v := .int .i64 0) (by simp)
    have c9 := H.get (b := w.heap.size + 2) (o := 1) (v := .int .i64 0) (by simp)
    have c10 := H.get (b := w.heap.size + 2) (o := 2) (v := .int .i64 0) (by simp)
    have c11 := H.get (b := w.heap.size + 2) (o := 3) (v := .int .i64 0) (by simp)
    go_wp2_with (first | (go_at_call 37; refine (sVOk_xy _ _ _ _ _).mono ?_; rintro e w' ⟨rfl, hb⟩; (first | rw [h] | rw [h2]); replace H := H.call hb; clear hb; have c0 := H.get (b := w.heap.size) (o := 0) (v := .int .i64 x) (by simp); have c1 := H.get (b := w.heap.size) (o := 1) (v := .int .i64 y) (by simp); have c2 := H.get (b := w.heap.size) (o := 2) (v := .int .i64 m) (by simp); have c3 := H.get (b := w.heap.size) (o := 3) (v := .int .i64 t) (by simp); have c4 := H.get (b := w.heap.size + 1) (o := 0) (v := .int .i64 x2) (by simp); have c5 := H.get (b := w.heap.size + 1) (o := 1) (v := .int .i64 y2) (by simp); have c6 := H.get (b := w.heap.size + 1) (o := 2) (v := .int .i64 m2) (by simp); have c7 := H.get (b := w.heap.size + 1) (o := 3) (v := .int .i64 t2) (by simp); have c8 := H.get (b := w.heap.size + 2) (o := 0) (v := .int .i64 0) (by simp); have c9 := H.get (b := w.heap.size + 2) (o := 1) (v := .int .i64 0) (by simp); have c10 := H.get (b := w.heap.size + 2) (o := 2) (v := .int .i64 0) (by simp); have c11 := H.get (b := w.heap.size + 2) (o := 3) (v := .int .i64 0) (by simp)) | (go_at_call 90; refine (l10None_any _).mono ?_; rintro e w' ⟨rfl, hb⟩; replace H := H.call hb; clear hb; have rc0 := H.get (b := w.heap.size + 2) (o := 0) (v := .int .i64 0) (by simp); have rc1 := H.get (b := w.heap.size + 2) (o := 1) (v := .int .i64 0) (by simp); have rc2 := H.get (b := w.heap.size + 2) (o := 2) (v := .int .i64 0) (by simp); have rc3 := H.get (b := w.heap.size + 2) (o := 3) (v := .int .i64 0) (by simp); have rz0 := H.fz (b := w.heap.size + 2) (o := 0) (v := .int .i64 0) (by simp); have rz1 := H.fz (b := w.heap.size + 2) (o := 1) (v := .int .i64 0) (by simp); have rz2 := H.fz (b := w.heap.size + 2) (o := 2) (v := .int .i64 0) (by simp); have rz3 := H.fz (b := w.heap.size + 2) (o := 3) (v := .int .i64 0) (by simp)))
    obtain ⟨f0, f1, f2, f3, fb⟩ := H.fill4 (b := w.heap.size + 2) (x := .int .i64 0) (y := .int .i64 0) (z := .int .i64 0) (u := .int .i64 0) (by simp) (by simp) (by simp) (by simp) (by omega) (.int .i64 1) (.int .i64 0) (.int .i64 0) (.int .i64 0)
    refine bodyPost_ret (results_four rfl _ _ (w.heap.size + 2) (.int .i64 1) (.int .i64 0) (.int .i64 0) (.int .i64 0) _ rfl f0 f1 f2 f3 Tryd.underlying30 rfl (by kernel_rfl)) rfl ?_
    exact ⟨rfl, fb⟩
  rcases isN10 x y m t with e1 | e1
  · have e : join10 (x, y, m, t) (x2, y2, m2, t2) = (x2, y2, m2, t2) := by unfold join10; rw [if_neg (by simp [h, h2]), if_pos e1]
    rw [e]
    clear e
    simp only [none10, Prod.mk.injEq] at e1
    obtain ⟨rfl, rfl, rfl, rfl⟩ := e1
    obtain ⟨W, hW, H⟩ : ∃ W, W = ((w.alloc (.cells #[.int .i64 1, .int .i64 0, .int .i64 0, .int .i64 0] 30)).alloc (.cells #[.int .i64 x2, .int .i64 y2, .int .i64 m2, .int .i64 t2] 30)).alloc (.cells #[.int .i64 0, .int .i64 0, .int .i64 0, .int .i64 0] 30) ∧ Hd w [(w.heap.size + 2, 0, .int .i64 0), (w.heap.size + 2, 1, .int .i64 0), (w.heap.size + 2, 2, .int .i64 0), (w.heap.size + 2, 3, .int .i64 0), (w.heap.size + 1, 0, .int .i64 x2), (w.heap.size + 1, 1, .int .i64 y2), (w.heap.size + 1, 2, .int .i64 m2), (w.heap.size + 1, 3, .int .i64 t2), (w.heap.size, 0, .int .i64 1), (w.heap.size, 1, .int .i64 0), (w.heap.size, 2, .int .i64 0), (w.heap.size, 3, .int .i64 0)] W := ⟨_, rfl, by
      have h := ((((Hd.start w).box4 (.int .i64 1) (.int .i64 0) (.int .i64 0) (.int .i64 0) 30).box4 (.int .i64 x2) (.int .i64 y2) (.int .i64 m2) (.int .i64 t2) 30).box4 (.int .i64 0) (.int .i64 0) (.int .i64 0) (.int .i64 0) 30)
      simp only [size_alloc1] at h
      exact h⟩
    go_enter Tryd.func34, Tryd.ntmps34
    go_wp2_with fail
    rw [← hW]
    clear hW
    have c0 := H.get (b := w.heap.size) (o := 0) (v := .int .i64 1) (by simp)
    have c1 := H.get (b := w.heap.size) (o := 1) (v := .int .i64 0) (by simp)
    have c2 := H.get (b := w.heap.size) (o := 2) (v := .int .i64 0) (by simp)
    have c3 := H.get (b := w.heap.size) (o := 3) (v := .int .i64 0) (by simp)
    have c4 := H.get (b := w.heap.size + 1) (o := 0) (v := .int .i64 x2) (by simp)
    have c5 := H.get (b := w.heap.size + 1) (o := 1) (v := .int .i64 y2) (by simp)
    have c6 := H.get (b := w.heap.size + 1) (o := 2) (v := .int .i64 m2) (by simp)
    have c7 := H.get (b := w.heap.size + 1) (o := 3) (v := .int .i64 t2) (by simp)
    have c8 := H.get (b := w.heap.size + 2) (o := 0) (v := .int .i64 0) (by simp)
    have c9 := H.get (b := w.heap.size + 2) (o := 1) (v := .int .i64 0) (by simp)
    have c10 := H.get (b := w.heap.size + 2) (o := 2) (v := .int .i64 0) (by simp)
    have c11 := H.get (b := w.heap.size + 2) (o := 3) (v := .int .i64 0) (by simp)
    go_wp2_with (first | (go_at_call 37; refine (sVOk_xy _ _ _ _ _).mono ?_; rintro e w' ⟨rfl, hb⟩; (first | rw [h] | rw [h2]); replace H := H.call hb; clear hb; have c0 := H.get (b := w.heap.size) (o := 0) (v := .int .i64 1) (by simp); have c1 := H.get (b := w.heap.size) (o := 1) (v := .int .i64 0) (by simp); have c2 := H.get (b := w.heap.size) (o := 2) (v := .int .i64 0) (by simp); have c3 := H.get (b := w.heap.size) (o := 3) (v := .int .i64 0) (by simp); have c4 := H.get (b := w.heap.size + 1) (o := 0) (v := .int .i64 x2) (by simp); have c5 := H.get (b := w.heap.size + 1) (o := 1) (v := .int .i64 y2) (by simp); have c6 := H.get (b := w.heap.size + 1) (o := 2) (v := .int .i64 m2) (by simp); have c7 := H.get (b := w.heap.size + 1) (o := 3) (v := .int .i64 t2) (by simp); have c8 := H.get (b := w.heap.size + 2) (o := 0) (v := .int .i64 0) (by simp); have c9 := H.get (b := w.heap.size + 2) (o := 1) (v := .int .i64 0) (by simp); have c10 := H.get (b := w.heap.size + 2) (o := 2) (v := .int .i64 0) (by simp); have c11 := H.get (b := w.heap.size + 2) (o := 3) (v := .int .i64 0) (by simp)))
    have k0 := fun p : Over _ => H.over (b := w.heap.size) (o := 0) (v := .int .i64 1) (by simp) p
    have k1 := fun p : Over _ => H.over (b := w.heap.size) (o := 1) (v := .int .i64 0) (by simp) p
    have k2 := fun p : Over _ => H.over (b := w.heap.size) (o := 2) (v := .int .i64 0) (by simp) p
    have k3 := fun p : Over _ => H.over (b := w.heap.size) (o := 3) (v := .int .i64 0) (by simp) p
    have k4 := fun p : Over _ => H.over (b := w.heap.size + 1) (o := 0) (v := .int .i64 x2) (by simp) p
    have k5 := fun p : Over _ => H.over (b := w.heap.size + 1) (o := 1) (v := .int .i64 y2) (by simp) p
    have k6 := fun p : Over _ => H.over (b := w.heap.size + 1) (o := 2) (v := .int .i64 m2) (by simp) p
    have k7 := fun p : Over _ => H.over (b := w.heap.size + 1) (o := 3) (v := .int .i64 t2) (by simp) p
    have k8 := fun p : Over _ => H.over (b := w.heap.size + 2) (o := 0) (v := .int .i64 0) (by simp) p
    have k9 := fun p : Over _ => H.over (b := w.heap.size + 2) (o := 1) (v := .int .i64 0) (by simp) p
    have k10 := fun p : Over _ => H.over (b := w.heap.size + 2) (o := 2) (v := .int .i64 0) (by simp) p
    have k11 := fun p : Over _ => H.over (b := w.heap.size + 2) (o := 3) (v := .int .i64 0) (by simp) p
    refine wp_region_over (by kernel_rfl) (by kernel_rfl) ?_
    repeat (go_big_quiet_step (first | (go_at_call 90; rename_i p; refine (l10None_any _).mono ?_; rintro e' w' ⟨rfl, hb1⟩; exact ⟨rfl, p.next hb1⟩)))
    refine wpQuiet_nil ?_
    rintro _ ⟨p, rfl⟩
    replace H := H.call p.below
    clear k0 k1 k2 k3 k4 k5 k6 k7 k8 k9 k10 k11
    generalize p.w = w3 at *
    clear p
    have e0 := H.get (b := w.heap.size) (o := 0) (v := .int .i64 1) (by simp)
    have e1 := H.get (b := w.heap.size) (o := 1) (v := .int .i64 0) (by simp)
    have e2 := H.get (b := w.heap.size) (o := 2) (v := .int .i64 0) (by simp)
    have e3 := H.get (b := w.heap.size) (o := 3) (v := .int .i64 0) (by simp)
    have e4 := H.get (b := w.heap.size + 1) (o := 0) (v := .int .i64 x2) (by simp)
    have e5 := H.get (b := w.heap.size + 1) (o := 1) (v := .int .i64 y2) (by simp)
    have e6 := H.get (b := w.heap.size + 1) (o := 2) (v := .int .i64 m2) (by simp)
    have e7 := H.get (b := w.heap.size + 1) (o := 3) (v := .int .i64 t2) (by simp)
    have e8 := H.get (b := w.heap.size + 2) (o := 0) (v := .int .i64 0) (by simp)
    have e9 := H.get (b := w.heap.size + 2) (o := 1) (v := .int .i64 0) (by simp)
    have e10 := H.get (b := w.heap.size + 2) (o := 2) (v := .int .i64 0) (by simp)
    have e11 := H.get (b := w.heap.size + 2) (o := 3) (v := .int .i64 0) (by simp)
    have rz0 := H.fz (b := w.heap.size + 2) (o := 0) (v := .int .i64 0) (by simp)
    have rz1 := H.fz (b := w.heap.size + 2) (o := 1) (v := .int .i64 0) (by simp)
    have rz2 := H.fz (b := w.heap.size + 2) (o := 2) (v := .int .i64 0) (by simp)
    have rz3 := H.fz (b := w.heap.size + 2) (o := 3) (v := .int .i64 0) (by simp)
    go_wp2
    obtain ⟨f0, f1, f2, f3, fb⟩ := H.fill4 (b := w.heap.size + 2) (x := .int .i64 0) (y := .int .i64 0) (z := .int .i64 0) (u := .int .i64 0) (by simp) (by simp) (by simp) (by simp) (by omega) (.int .i64 x2) (.int .i64 y2) (.int .i64 m2) (.int .i64 t2)
    refine bodyPost_ret (results_four rfl _ _ (w.heap.size + 2) (.int .i64 x2) (.int .i64 y2) (.int .i64 m2) (.int .i64 t2) _ rfl f0 f1 f2 f3 Tryd.underlying30 rfl (by kernel_rfl)) rfl ?_
    exact ⟨rfl, fb⟩
  have hq1 := @ne4_if x y m t 1 0 0 0 e1
  rcases isN10 x2 y2 m2 t2 with e2 | e2
  · have e : join10 (x, y, m, t) (x2, y2, m2, t2) = (x, y, m, t) := by unfold join10; rw [if_neg (by simp [h, h2]), if_neg (show ¬ ((x, y, m, t) : V10) = none10 from e1), if_pos e2]
    rw [e]
    clear e e1
    simp only [none10, Prod.mk.injEq] at e2
    obtain ⟨rfl, rfl, rfl, rfl⟩ := e2
    obtain ⟨W, hW, H⟩ : ∃ W, W = ((w.alloc (.cells #[.int .i64 x, .int .i64 y, .int .i64 m, .int .i64 t] 30)).alloc (.cells #[.int .i64 1, .int .i64 0, .int .i64 0, .int .i64 0] 30)).alloc (.cells #[.int .i64 0, .int .i64 0, .int .i64 0, .int .i64 0] 30) ∧ Hd w [(w.heap.size + 2, 0, .int .i64 0), (w.heap.size + 2, 1, .int .i64 0), (w.heap.size + 2, 2, .int .i64 0), (w.heap.size + 2, 3, .int .i64 0), (w.heap.size + 1, 0, .int .i64 1), (w.heap.size + 1, 1, .int .i64 0), (w.heap.size + 1, 2, .int .i64 0), (w.heap.size + 1, 3, .int .i64 0), (w.heap.size, 0, .int .i64 x), (w.heap.size, 1, .int .i64 y), (w.heap.size, 2, .int .i64 m), (w.heap.size, 3, .int .i64 t)] W := ⟨_, rfl, by
      have h := ((((Hd.start w).box4 (.int .i64 x) (.int .i64 y) (.int .i64 m) (.int .i64 t) 30).box4 (.int .i64 1) (.int .i64 0) (.int .i64 0) (.int .i64 0) 30).box4 (.int .i64 0) (.int .i64 0) (.int .i64 0) (.int .i64 0) 30)
      simp only [size_alloc1] at h
      exact h⟩
    go_enter Tryd.func34, Tryd.ntmps34
    go_wp2_with fail
    rw [← hW]
    clear hW
    have c0 := H.get (b := w.heap.size) (o := 0) (v := .int .i64 x) (by simp)
    have c1 := H.get (b := w.heap.size) (o := 1) (v := .int .i64 y) (by simp)
    have c2 := H.get (b := w.heap.size) (o := 2) (v := .int .i64 m) (by simp)
    have c3 := H.get (b := w.heap.size) (o := 3) (v := .int .i64 t) (by simp)
    have c4 := H.get (b := w.heap.size + 1) (o := 0) (v := .int .i64 1) (by simp)
    have c5 := H.get (b := w.heap.size + 1) (o := 1) (v := .int .i64 0) (by simp)
    have c6 := H.get (b := w.heap.size + 1) (o := 2) (v := .int .i64 0) (by simp)
    have c7 := H.get (b := w.heap.size + 1) (o := 3) (v := .int .i64 0) (by simp)
    have c8 := H.get (b := w.heap.size + 2) (o := 0) (v := .int .i64 0) (by simp)
    have c9 := H.get (b := w.heap.size + 2) (o := 1) (v := .int .i64 0) (by simp)
    have c10 := H.get (b := w.heap.size + 2) (o := 2) (v := .int .i64 0) (by simp)
    have c11 := H.get (b := w.heap.size + 2) (o := 3) (v := .int .i64 0) (by simp)
    go_wp2_with (first | (go_at_call 37; refine (sVOk_xy _ _ _ _ _).mono ?_; rintro e w' ⟨rfl, hb⟩; (first | rw [h] | rw [h2]); replace H := H.call hb; clear hb; have c0 := H.get (b := w.heap.size) (o := 0) (v := .int .i64 x) (by simp); have c1 := H.get (b := w.heap.size) (o := 1) (v := .int .i64 y) (by simp); have c2 := H.get (b := w.heap.size) (o := 2) (v := .int .i64 m) (by simp); have c3 := H.get (b := w.heap.size) (o := 3) (v := .int .i64 t) (by simp); have c4 := H.get (b := w.heap.size + 1) (o := 0) (v := .int .i64 1) (by simp); have c5 := H.get (b := w.heap.size + 1) (o := 1) (v := .int .i64 0) (by simp); have c6 := H.get (b := w.heap.size + 1) (o := 2) (v := .int .i64 0) (by simp); have c7 := H.get (b := w.heap.size + 1) (o := 3) (v := .int .i64 0) (by simp); have c8 := H.get (b := w.heap.size + 2) (o := 0) (v := .int .i64 0) (by simp); have c9 := H.get (b := w.heap.size + 2) (o := 1) (v := .int .i64 0) (by simp); have c10 := H.get (b := w.heap.size + 2) (o := 2) (v := .int .i64 0) (by simp); have c11 := H.get (b := w.heap.size + 2) (o := 3) (v := .int .i64 0) (by simp)))
    have k0 := fun p : Over _ => H.over (b := w.heap.size) (o := 0) (v := .int .i64 x) (by simp) p
    have k1 := fun p : Over _ => H.over (b := w.heap.size) (o := 1) (v := .int .i64 y) (by simp) p
    have k2 := fun p : Over _ => H.over (b := w.heap.size) (o := 2) (v := .int .i64 m) (by simp) p
    have k3 := fun p : Over _ => H.over (b := w.heap.size) (o := 3) (v := .int .i64 t) (by simp) p
    have k4 := fun p : Over _ => H.over (b := w.heap.size + 1) (o := 0) (v := .int .i64 1) (by simp) p
    have k5 := fun p : Over _ => H.over (b := w.heap.size + 1) (o := 1) (v := .int .i64 0) (by simp) p
    have k6 := fun p : Over _ => H.over (b := w.heap.size + 1) (o := 2) (v := .int .i64 0) (by simp) p
    have k7 := fun p : Over _ => H.over (b := w.heap.size + 1) (o := 3) (v := .int .i64 0) (by simp) p
    have k8 := fun p : Over _ => H.over (b := w.heap.size + 2) (o := 0) (v := .int .i64 0) (by simp) p
    have k9 := fun p : Over _ => H.over (b := w.heap.size + 2) (o := 1) (v := .int .i64 0) (by simp) p
    have k10 := fun p : Over _ => H.over (b := w.heap.size + 2) (o := 2) (v := .int .i64 0) (by simp) p
    have k11 := fun p : Over _ => H.over (b := w.heap.size + 2) (o := 3) (v := .int .i64 0) (by simp) p
    refine wp_region_over (by kernel_rfl) (by kernel_rfl) ?_
    repeat (go_big_quiet_step (first | (go_at_call 90; rename_i p; refine (l10None_any _).mono ?_; rintro e' w' ⟨rfl, hb1⟩; exact ⟨rfl, p.next hb1⟩)))
    refine wpQuiet_nil ?_
    rintro _ ⟨p, rfl⟩
    replace H := H.call p.below
    clear k0 k1 k2 k3 k4 k5 k6 k7 k8 k9 k10 k11
    generalize p.w = w3 at *
    clear p
    go_wp2_with fail
    have k0 := fun p : Over _ => H.over (b := w.heap.size) (o := 0) (v := .int .i64 x) (by simp) p
    have k1 := fun p : Over _ => H.over (b := w.heap.size) (o := 1) (v := .int .i64 y) (by simp) p
    have k2 := fun p : Over _ => H.over (b := w.heap.size) (o := 2) (v := .int .i64 m) (by simp) p
    have k3 := fun p : Over _ => H.over (b := w.heap.size) (o := 3) (v := .int .i64 t) (by simp) p
    have k4 := fun p : Over _ => H.over (b := w.heap.size + 1) (o := 0) (v := .int .i64 1) (by simp) p
    have k5 := fun p : Over _ => H.over (b := w.heap.size + 1) (o := 1) (v := .int .i64 0) (by simp) p
    have k6 := fun p : Over _ => H.over (b := w.heap.size + 1) (o := 2) (v := .int .i64 0) (by simp) p
    have k7 := fun p : Over _ => H.over (b := w.heap.size + 1) (o := 3) (v := .int .i64 0) (by simp) p
    have k8 := fun p : Over _ => H.over (b := w.heap.size + 2) (o := 0) (v := .int .i64 0) (by simp) p
    have k9 := fun p : Over _ => H.over (b := w.heap.size + 2) (o := 1) (v := .int .i64 0) (by simp) p
    have k10 := fun p : Over _ => H.over (b := w.heap.size + 2) (o := 2) (v := .int .i64 0) (by simp) p
    have k11 := fun p : Over _ => H.over (b := w.heap.size + 2) (o := 3) (v := .int .i64 0) (by simp) p
    refine wp_region_over (by kernel_rfl) (by kernel_rfl) ?_
    repeat (go_big_quiet_step (first | (go_at_call 90; rename_i p; refine (l10None_any _).mono ?_; rintro e' w' ⟨rfl, hb1⟩; exact ⟨rfl, p.next hb1⟩)))
    refine wpQuiet_nil ?_
    rintro _ ⟨p, rfl⟩
    replace H := H.call p.below
    clear k0 k1 k2 k3 k4 k5 k6 k7 k8 k9 k10 k11
    generalize p.w = w4 at *
    clear p
    have e0 := H.get (b := w.heap.size) (o := 0) (v := .int .i64 x) (by simp)
    have e1 := H.get (b := w.heap.size) (o := 1) (v := .int .i64 y) (by simp)
    have e2 := H.get (b := w.heap.size) (o := 2) (v := .int .i64 m) (by simp)
    have e3 := H.get (b := w.heap.size) (o := 3) (v := .int .i64 t) (by simp)
    have e4 := H.get (b := w.heap.size + 1) (o := 0) (v := .int .i64 1) (by simp)
    have e5 := H.get (b := w.heap.size + 1) (o := 1) (v := .int .i64 0) (by simp)
    have e6 := H.get (b := w.heap.size + 1) (o := 2) (v := .int .i64 0) (by simp)
    have e7 := H.get (b := w.heap.size + 1) (o := 3) (v := .int .i64 0) (by simp)
    have e8 := H.get (b := w.heap.size + 2) (o := 0) (v := .int .i64 0) (by simp)
    have e9 := H.get (b := w.heap.size + 2) (o := 1) (v := .int .i64 0) (by simp)
    have e10 := H.get (b := w.heap.size + 2) (o := 2) (v := .int .i64 0) (by simp)
    have e11 := H.get (b := w.heap.size + 2) (o := 3) (v := .int .i64 0) (by simp)
    have rz0 := H.fz (b := w.heap.size + 2) (o := 0) (v := .int .i64 0) (by simp)
    have rz1 := H.fz (b := w.heap.size + 2) (o := 1) (v := .int .i64 0) (by simp)
    have rz2 := H.fz (b := w.heap.size + 2) (o := 2) (v := .int .i64 0) (by simp)
    have rz3 := H.fz (b := w.heap.size + 2) (o := 3) (v := .int .i64 0) (by simp)
    go_wp2
    obtain ⟨f0, f1, f2, f3, fb⟩ := H.fill4 (b := w.heap.size + 2) (x := .int .i64 0) (y := .int .i64 0) (z := .int .i64 0) (u := .int .i64 0) (by simp) (by simp) (by simp) (by simp) (by omega) (.int .i64 x) (.int .i64 y) (.int .i64 m) (.int .i64 t)
    refine bodyPost_ret (results_four rfl _ _ (w.heap.size + 2) (.int .i64 x) (.int .i64 y) (.int .i64 m) (.int .i64 t) _ rfl f0 f1 f2 f3 Tryd.underlying30 rfl (by kernel_rfl)) rfl ?_
    exact ⟨rfl, fb⟩
  · have e : join10 (x, y, m, t) (x2, y2, m2, t2) = make10 (join8 (x, y) (x2, y2)) (join9 (m, t) (m2, t2)) := join10_some ((some10_iff _).2 ⟨h, e1⟩) ((some10_iff _).2 ⟨h2, e2⟩)
    have hq2 := @ne4_if x2 y2 m2 t2 1 0 0 0 e2
    rw [e]
    clear e e1 e2
    have hJ := fun w => RangeJoin_xy x y x2 y2 w
    have hK := fun w => sRestJoin_xy m t m2 t2 w
    generalize join8 (x, y) (x2, y2) = j at *
    generalize join9 (m, t) (m2, t2) = k at *
    obtain ⟨j1, j2⟩ := j
    obtain ⟨r1, r2⟩ := k
    have hM := fun w => sMake_xy j1 j2 r1 r2 w
    generalize make10 (j1, j2) (r1, r2) = q at *
    obtain ⟨W, hW, H⟩ : ∃ W, W = ((w.alloc (.cells #[.int .i64 x, .int .i64 y, .int .i64 m, .int .i64 t] 30)).alloc (.cells #[.int .i64 x2, .int .i64 y2, .int .i64 m2, .int .i64 t2] 30)).alloc (.cells #[.int .i64 0, .int .i64 0, .int .i64 0, .int .i64 0] 30) ∧ Hd w [(w.heap.size + 2, 0, .int .i64 0), (w.heap.size + 2, 1, .int .i64 0), (w.heap.size + 2, 2, .int .i64 0), (w.heap.size + 2, 3, .int .i64 0), (w.heap.size + 1, 0, .int .i64 x2), (w.heap.size + 1, 1, .int .i64 y2), (w.heap.size + 1, 2, .int .i64 m2), (w.heap.size + 1, 3, .int .i64 t2), (w.heap.size, 0, .int .i64 x), (w.heap.size, 1, .int .i64 y), (w.heap.size, 2, .int .i64 m), (w.heap.size, 3, .int .i64 t)] W := ⟨_, rfl, by
      have h := ((((Hd.start w).box4 (.int .i64 x) (.int .i64 y) (.int .i64 m) (.int .i64 t) 30).box4 (.int .i64 x2) (.int .i64 y2) (.int .i64 m2) (.int .i64 t2) 30).box4 (.int .i64 0) (.int .i64 0) (.int .i64 0) (.int .i64 0) 30)
      simp only [size_alloc1] at h
      exact h⟩
    go_enter Tryd.func34, Tryd.ntmps34
    go_wp2_with fail
    rw [← hW]
    clear hW
    have c0 := H.get (b := w.heap.size) (o := 0) (v := .int .i64 x) (by simp)
    have c1 := H.get (b := w.heap.size) (o := 1) (v := .int .i64 y) (by simp)
    have c2 := H.get (b := w.heap.size) (o := 2) (v := .int .i64 m) (by simp)
    have c3 := H.get (b := w.heap.size) (o := 3) (v := .int .i64 t) (by simp)
    have c4 := H.get (b := w.heap.size + 1) (o := 0) (v := .int .i64 x2) (by simp)
    have c5 := H.get (b := w.heap.size + 1) (o := 1) (v := .int .i64 y2) (by simp)
    have c6 := H.get (b := w.heap.size + 1) (o := 2) (v := .int .i64 m2) (by simp)
    have c7 := H.get (b := w.heap.size + 1) (o := 3) (v := .int .i64 t2) (by simp)
    have c8 := H.get (b := w.heap.size + 2) (o := 0) (v := .int .i64 0) (by simp)
    have c9 := H.get (b := w.heap.size + 2) (o := 1) (v := .int .i64 0) (by simp)
    have c10 := H.get (b := w.heap.size + 2) (o := 2) (v := .int .i64 0) (by simp)
    have c11 := H.get (b := w.heap.size + 2) (o := 3) (v := .int .i64 0) (by simp)
    go_wp2_with (first | (go_at_call 37; refine (sVOk_xy _ _ _ _ _).mono ?_; rintro e w' ⟨rfl, hb⟩; (first | rw [h] | rw [h2]); replace H := H.call hb; clear hb; have c0 := H.get (b := w.heap.size) (o := 0) (v := .int .i64 x) (by simp); have c1 := H.get (b := w.heap.size) (o := 1) (v := .int .i64 y) (by simp); have c2 := H.get (b := w.heap.size) (o := 2) (v := .int .i64 m) (by simp); have c3 := H.get (b := w.heap.size) (o := 3) (v := .int .i64 t) (by simp); have c4 := H.get (b := w.heap.size + 1) (o := 0) (v := .int .i64 x2) (by simp); have c5 := H.get (b := w.heap.size + 1) (o := 1) (v := .int .i64 y2) (by simp); have c6 := H.get (b := w.heap.size + 1) (o := 2) (v := .int .i64 m2) (by simp); have c7 := H.get (b := w.heap.size + 1) (o := 3) (v := .int .i64 t2) (by simp); have c8 := H.get (b := w.heap.size + 2) (o := 0) (v := .int .i64 0) (by simp); have c9 := H.get (b := w.heap.size + 2) (o := 1) (v := .int .i64 0) (by simp); have c10 := H.get (b := w.heap.size + 2) (o := 2) (v := .int .i64 0) (by simp); have c11 := H.get (b := w.heap.size + 2) (o := 3) (v := .int .i64 0) (by simp)))
    have k0 := fun p : Over _ => H.over (b := w.heap.size) (o := 0) (v := .int .i64 x) (by simp) p
    have k1 := fun p : Over _ => H.over (b := w.heap.size) (o := 1) (v := .int .i64 y) (by simp) p
    have k2 := fun p : Over _ => H.over (b := w.heap.size) (o := 2) (v := .int .i64 m) (by simp) p
    have k3 := fun p : Over _ => H.over (b := w.heap.size) (o := 3) (v := .int .i64 t) (by simp) p
    have k4 := fun p : Over _ => H.over (b := w.heap.size + 1) (o := 0) (v := .int .i64 x2) (by simp) p
    have k5 := fun p : Over _ => H.over (b := w.heap.size + 1) (o := 1) (v := .int .i64 y2) (by simp) p
    have k6 := fun p : Over _ => H.over (b := w.heap.size + 1) (o := 2) (v := .int .i64 m2) (by simp) p
    have k7 := fun p : Over _ => H.over (b := w.heap.size + 1) (o := 3) (v := .int .i64 t2) (by simp) p
    have k8 := fun p : Over _ => H.over (b := w.heap.size + 2) (o := 0) (v := .int .i64 0) (by simp) p
    have k9 := fun p : Over _ => H.over (b := w.heap.size + 2) (o := 1) (v := .int .i64 0) (by simp) p
    have k10 := fun p : Over _ => H.over (b := w.heap.size + 2) (o := 2) (v := .int .i64 0) (by simp) p
    have k11 := fun p : Over _ => H.over (b := w.heap.size + 2) (o := 3) (v := .int .i64 0) (by simp) p
    refine wp_region_over (by kernel_rfl) (by kernel_rfl) ?_
    repeat (go_big_quiet_step (first | (go_at_call 90; rename_i p; refine (l10None_any _).mono ?_; rintro e' w' ⟨rfl, hb1⟩; exact ⟨rfl, p.next hb1⟩)))
    refine wpQuiet_nil ?_
    rintro _ ⟨p, rfl⟩
    replace H := H.call p.below
    clear k0 k1 k2 k3 k4 k5 k6 k7 k8 k9 k10 k11
    generalize p.w = w3 at *
    clear p
    go_wp2_with fail
    have k0 := fun p : Over _ => H.over (b := w.heap.size) (o := 0) (v := .int .i64 x) (by simp) p
    have k1 := fun p : Over _ => H.over (b := w.heap.size) (o := 1) (v := .int .i64 y) (by simp) p
    have k2 := fun p : Over _ => H.over (b := w.heap.size) (o := 2) (v := .int .i64 m) (by simp) p
    have k3 := fun p : Over _ => H.over (b := w.heap.size) (o := 3) (v := .int .i64 t) (by simp) p
    have k4 := fun p : Over _ => H.over (b := w.heap.size + 1) (o := 0) (v := .int .i64 x2) (by simp) p
    have k5 := fun p : Over _ => H.over (b := w.heap.size + 1) (o := 1) (v := .int .i64 y2) (by simp) p
    have k6 := fun p : Over _ => H.over (b := w.heap.size + 1) (o := 2) (v := .int .i64 m2) (by simp) p
    have k7 := fun p : Over _ => H.over (b := w.heap.size + 1) (o := 3) (v := .int .i64 t2) (by simp) p
    have k8 := fun p : Over _ => H.over (b := w.heap.size + 2) (o := 0) (v := .int .i64 0) (by simp) p
    have k9 := fun p : Over _ => H.over (b := w.heap.size + 2) (o := 1) (v := .int .i64 0) (by simp) p
    have k10 := fun p : Over _ => H.over (b := w.heap.size + 2) (o := 2) (v := .int .i64 0) (by simp) p
    have k11 := fun p : Over _ => H.over (b := w.heap.size + 2) (o := 3) (v := .int .i64 0) (by simp) p
    refine wp_region_over (by kernel_rfl) (by kernel_rfl) ?_
    repeat (go_big_quiet_step (first | (go_at_call 90; rename_i p; refine (l10None_any _).mono ?_; rintro e' w' ⟨rfl, hb1⟩; exact ⟨rfl, p.next hb1⟩)))
    refine wpQuiet_nil ?_
    rintro _ ⟨p, rfl⟩
    replace H := H.call p.below
    clear k0 k1 k2 k3 k4 k5 k6 k7 k8 k9 k10 k11
    generalize p.w = w4 at *
    clear p
    go_wp2_with fail
    have k0 := fun p : Over _ => H.over (b := w.heap.size) (o := 0) (v := .int .i64 x) (by simp) p
    have k1 := fun p : Over _ => H.over (b := w.heap.size) (o := 1) (v := .int .i64 y) (by simp) p
    have k2 := fun p : Over _ => H.over (b := w.heap.size) (o := 2) (v := .int .i64 m) (by simp) p
    have k3 := fun p : Over _ => H.over (b := w.heap.size) (o := 3) (v := .int .i64 t) (by simp) p
    have k4 := fun p : Over _ => H.over (b := w.heap.size + 1) (o := 0) (v := .int .i64 x2) (by simp) p
    have k5 := fun p : Over _ => H.over (b := w.heap.size + 1) (o := 1) (v := .int .i64 y2) (by simp) p
    have k6 := fun p : Over _ => H.over (b := w.heap.size + 1) (o := 2) (v := .int .i64 m2) (by simp) p
    have k7 := fun p : Over _ => H.over (b := w.heap.size + 1) (o := 3) (v := .int .i64 t2) (by simp) p
    refine wp_region_tail_over rfl rfl rfl rfl (by kernel_rfl) (by kernel_rfl) (by kernel_rfl) ?_
    simp only [List.dropLast, tv, List.cons_append, List.nil_append]
    repeat (go_big_quiet_step (first | (go_at_call 104; rename_i p; refine (l10Range_xy _ _ _ _ _).mono ?_; rintro e' w' ⟨rfl, hb1⟩; exact ⟨rfl, p.next hb1⟩) | (go_at_call 105; rename_i p; refine (l10Rest_xy _ _ _ _ _).mono ?_; rintro e' w' ⟨rfl, hb1⟩; exact ⟨rfl, p.next hb1⟩) | (go_at_call 68; rename_i p; refine (hJ _).mono ?_; rintro e' w' ⟨rfl, hb1⟩; exact ⟨rfl, p.next hb1⟩) | (go_at_call 74; rename_i p; refine (hK _).mono ?_; rintro e' w' ⟨rfl, hb1⟩; exact ⟨rfl, p.next hb1⟩) | (go_at_call 23; rename_i p; refine (hM _).mono ?_; rintro e' w' ⟨rfl, hb1⟩; exact ⟨rfl, p.next hb1⟩)))
    refine wpQuiet_nil ?_
    rintro _ ⟨p, rfl⟩
    replace H := H.call p.below
    clear k0 k1 k2 k3 k4 k5 k6 k7
    generalize p.w = w6 at *
    clear p
    have rc0 := H.get (b := w.heap.size + 2) (o := 0) (v := .int .i64 0) (by simp)
    have rc1 := H.get (b := w.heap.size + 2) (o := 1) (v := .int .i64 0) (by simp)
    have rc2 := H.get (b := w.heap.size + 2) (o := 2) (v := .int .i64 0) (by simp)
    have rc3 := H.get (b := w.heap.size + 2) (o := 3) (v := .int .i64 0) (by simp)
    have rz0 := H.fz (b := w.heap.size + 2) (o := 0) (v := .int .i64 0) (by simp)
    have rz1 := H.fz (b := w.heap.size + 2) (o := 1) (v := .int .i64 0) (by simp)
    have rz2 := H.fz (b := w.heap.size + 2) (o := 2) (v := .int .i64 0) (by simp)
    have rz3 := H.fz (b := w.heap.size + 2) (o := 3) (v := .int .i64 0) (by simp)
    go_simp
    go_wp2
    obtain ⟨f0, f1, f2, f3, fb⟩ := H.fill4 (b := w.heap.size + 2) (x := .int .i64 0) (y := .int .i64 0) (z := .int .i64 0) (u := .int .i64 0) (by simp) (by simp) (by simp) (by simp) (by omega) (.int .i64 q.1) (.int .i64 q.2.1) (.int .i64 q.2.2.1) (.int .i64 q.2.2.2)
    refine bodyPost_ret (results_four rfl _ _ (w.heap.size + 2) (.int .i64 q.1) (.int .i64 q.2.1) (.int .i64 q.2.2.1) (.int .i64 q.2.2.2) _ rfl f0 f1 f2 f3 Tryd.underlying30 rfl (by kernel_rfl)) rfl ?_
    exact ⟨rfl, fb⟩
end Go.Proofs.YthbbgkpkijlclaaDoor.num
