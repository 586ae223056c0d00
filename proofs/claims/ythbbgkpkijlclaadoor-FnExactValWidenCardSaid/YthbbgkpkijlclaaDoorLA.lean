/-
  The model's ValMake.
-/
import Derived.Test.YthbbgkpkijlclaaDoorLa
import Derived.Test.YthbbgkpkijlclaaDoorSc
import Derived.Test.YthbbgkpkijlclaaDoorVa
namespace Go.Proofs.YthbbgkpkijlclaaDoor.num
open Go.ChangeShapes Go.WideShapes Go.ChangeAt Go.RowKit
set_option linter.unusedVariables false

theorem l10None_any (w : World) :
    Calls Tryd.prog 90 #[] w fun e w' => e = .returned (.agg #[.int .i64 1, .int .i64 0, .int .i64 0, .int .i64 0]) ∧ Below w.heap.size w w' := by
  go_enter Tryd.func90, Tryd.ntmps90
  go_wp2
  refine bodyPost_ret (results_four rfl _ _ w.heap.size (.int .i64 1) (.int .i64 0) (.int .i64 0) (.int .i64 0) _ rfl (by simp [go_sem]) (by simp [go_sem]) (by simp [go_sem]) (by simp [go_sem]) Tryd.underlying30 rfl (by kernel_rfl)) rfl ?_
  exact ⟨rfl, (Below.refl _ _).alloc (Nat.le_refl _) _⟩
theorem l10One_any (v : Int) (w : World) :
    Calls Tryd.prog 91 #[.int .i64 v] w fun e w' => e = .returned (.agg #[.int .i64 v, .int .i64 v, .int .i64 0, .int .i64 v]) ∧ Below w.heap.size w w' := by
  go_enter Tryd.func91, Tryd.ntmps91
  go_wp2
  refine bodyPost_ret (results_four rfl _ _ w.heap.size (.int .i64 v) (.int .i64 v) (.int .i64 0) (.int .i64 v) _ rfl (by simp [go_sem]) (by simp [go_sem]) (by simp [go_sem]) (by simp [go_sem]) Tryd.underlying30 rfl (by kernel_rfl)) rfl ?_
  exact ⟨rfl, (Below.refl _ _).alloc (Nat.le_refl _) _⟩
theorem l10Range_xy (x y m t : Int) (w : World) :
    Calls Tryd.prog 104 #[.agg #[.int .i64 x, .int .i64 y, .int .i64 m, .int .i64 t]] w fun e w' => e = .returned (.agg #[.int .i64 x, .int .i64 y]) ∧ Below w.heap.size w w' := by
  go_enter Tryd.func104, Tryd.ntmps104
  go_wp2
  refine bodyPost_ret (results_two rfl _ _ (w.heap.size + 1) (.int .i64 x) (.int .i64 y) _ rfl (by simp [go_sem]) (by simp [go_sem]) Tryd.underlying24 rfl (by kernel_rfl)) rfl ?_
  exact ⟨rfl, ((Below.refl _ _).alloc (Nat.le_refl _) _).alloc (by simp) _⟩
theorem l10Rest_xy (x y m t : Int) (w : World) :
    Calls Tryd.prog 105 #[.agg #[.int .i64 x, .int .i64 y, .int .i64 m, .int .i64 t]] w fun e w' => e = .returned (.agg #[.int .i64 m, .int .i64 t]) ∧ Below w.heap.size w w' := by
  go_enter Tryd.func105, Tryd.ntmps105
  go_wp2
  refine bodyPost_ret (results_two rfl _ _ (w.heap.size + 1) (.int .i64 m) (.int .i64 t) _ rfl (by simp [go_sem]) (by simp [go_sem]) Tryd.underlying26 rfl (by kernel_rfl)) rfl ?_
  exact ⟨rfl, ((Below.refl _ _).alloc (Nat.le_refl _) _).alloc (by simp) _⟩
end Go.Proofs.YthbbgkpkijlclaaDoor.num
namespace Go.Proofs.YthbbgkpkijlclaaDoor.num
open Go.ChangeShapes Go.WideShapes Go.ChangeAt Go.RowKit
set_option linter.unusedVariables false

set_option maxRecDepth 100000 in
set_option maxHeartbeats 4000000 in
theorem sMake_bad (x y m t : Int) (hb : rOk (x, y) = false ∨ qOk (m, t) = false ∨ isN (x, y) = true) (w : World) :
    Calls Tryd.prog 23 #[.agg #[.int .i64 x, .int .i64 y], .agg #[.int .i64 m, .int .i64 t]] w fun e w' => e = .returned (.agg #[.int .i64 (make10 (x, y) (m, t)).1, .int .i64 (make10 (x, y) (m, t)).2.1, .int .i64 (make10 (x, y) (m, t)).2.2.1, .int .i64 (make10 (x, y) (m, t)).2.2.2]) ∧ Below w.heap.size w w' := by
  have e : make10 (x, y) (m, t) = none10 := by unfold make10; rw [if_pos hb]
  rw [e]
  clear e
  cases h : rOk (x, y)
  · clear hb
    obtain ⟨W, hW, H⟩ : ∃ W, W = ((w.alloc (.cells #[.int .i64 x, .int .i64 y] 24)).alloc (.cells #[.int .i64 m, .int .i64 t] 26)).alloc (.cells #[.int .i64 0, .int .i64 0, .int .i64 0, .int .i64 0] 30) ∧ Hd w [(w.heap.size + 2, 0, .int .i64 0), (w.heap.size + 2, 1, .int .i64 0), (w.heap.size + 2, 2, .int .i64 0), (w.heap.size + 2, 3, .int .i64 0), (w.heap.size + 1, 0, .int .i64 m), (w.heap.size + 1, 1, .int .i64 t), (w.heap.size, 0, .int .i64 x), (w.heap.size, 1, .int .i64 y)] W := ⟨_, rfl, by
      have h := ((((Hd.start w).box (.int .i64 x) (.int .i64 y) 24).box (.int .i64 m) (.int .i64 t) 26).box4 (.int .i64 0) (.int .i64 0) (.int .i64 0) (.int .i64 0) 30)
      simp only [size_alloc1] at h
      exact h⟩
    go_enter Tryd.func23, Tryd.ntmps23
    go_wp2_with fail
    rw [← hW]
    clear hW
    have c0 := H.get (b := w.heap.size) (o := 0) (v := .int .i64 x) (by simp)
    have c1 := H.get (b := w.heap.size) (o := 1) (v := .int .i64 y) (by simp)
    have c2 := H.get (b := w.heap.size + 1) (o := 0) (v := .int .i64 m) (by simp)
    have c3 := H.get (b := w.heap.size + 1) (o := 1) (v := .int .i64 t) (by simp)
    have c4 := H.get (b := w.heap.size + 2) (o := 0) (v := .int .i64 0) (by simp)
    have c5 := H.get (b := w.heap.size + 2) (o := 1) (v := .int .i64 0) (by simp)
    have c6 := H.get (b := w.heap.size + 2) (o := 2) (v := .int .i64 0) (by simp)
    have c7 := H.get (b := w.heap.size + 2) (o := 3) (v := .int .i64 0) (by simp)
    clear c0 c1 c2 c3 c4 c5 c6 c7
    have k0 := fun p : Over _ => H.over (b := w.heap.size) (o := 0) (v := .int .i64 x) (by simp) p
    have k1 := fun p : Over _ => H.over (b := w.heap.size) (o := 1) (v := .int .i64 y) (by simp) p
    have k2 := fun p : Over _ => H.over (b := w.heap.size + 1) (o := 0) (v := .int .i64 m) (by simp) p
    have k3 := fun p : Over _ => H.over (b := w.heap.size + 1) (o := 1) (v := .int .i64 t) (by simp) p
    have k4 := fun p : Over _ => H.over (b := w.heap.size + 2) (o := 0) (v := .int .i64 0) (by simp) p
    have k5 := fun p : Over _ => H.over (b := w.heap.size + 2) (o := 1) (v := .int .i64 0) (by simp) p
    have k6 := fun p : Over _ => H.over (b := w.heap.size + 2) (o := 2) (v := .int .i64 0) (by simp) p
    have k7 := fun p : Over _ => H.over (b := w.heap.size + 2) (o := 3) (v := .int .i64 0) (by simp) p
    refine wp_region_over (by kernel_rfl) (by kernel_rfl) ?_
    repeat (go_big_quiet_step (first | (go_at_call 59; rename_i p; refine (RangeOk_xy _ _ _).mono ?_; rintro e' w' ⟨rfl, hb1⟩; exact ⟨by (first | rw [h] | rfl), p.next hb1⟩) | (go_at_call 75; rename_i p; refine (sRestOk_xy _ _ _).mono ?_; rintro e' w' ⟨rfl, hb1⟩; exact ⟨by (first | rw [h] | rfl), p.next hb1⟩) | (go_at_call 89; rename_i p; refine (l8None_any _).mono ?_; rintro e' w' ⟨rfl, hb1⟩; exact ⟨rfl, p.next hb1⟩)))
    refine wpQuiet_nil ?_
    rintro _ ⟨p, rfl⟩
    replace H := H.call p.below
    clear k0 k1 k2 k3 k4 k5 k6 k7
    generalize p.w = w3 at *
    clear p
    have c0 := H.get (b := w.heap.size) (o := 0) (v := .int .i64 x) (by simp)
    have c1 := H.get (b := w.heap.size) (o := 1) (v := .int .i64 y) (by simp)
    have c2 := H.get (b := w.heap.size + 1) (o := 0) (v := .int .i64 m) (by simp)
    have c3 := H.get (b := w.heap.size + 1) (o := 1) (v := .int .i64 t) (by simp)
    have c4 := H.get (b := w.heap.size + 2) (o := 0) (v := .int .i64 0) (by simp)
    have c5 := H.get (b := w.heap.size + 2) (o := 1) (v := .int .i64 0) (by simp)
    have c6 := H.get (b := w.heap.size + 2) (o := 2) (v := .int .i64 0) (by simp)
    have c7 := H.get (b := w.heap.size + 2) (o := 3) (v := .int .i64 0) (by simp)
    go_wp2_with (first | (go_at_call 90; refine (l10None_any _).mono ?_; rintro e w' ⟨rfl, hb⟩; replace H := H.call hb; clear hb; have c0 := H.get (b := w.heap.size + 2) (o := 0) (v := .int .i64 0) (by simp); have c1 := H.get (b := w.heap.size + 2) (o := 1) (v := .int .i64 0) (by simp); have c2 := H.get (b := w.heap.size + 2) (o := 2) (v := .int .i64 0) (by simp); have c3 := H.get (b := w.heap.size + 2) (o := 3) (v := .int .i64 0) (by simp); have z0 := H.fz (b := w.heap.size + 2) (o := 0) (v := .int .i64 0) (by simp); have z1 := H.fz (b := w.heap.size + 2) (o := 1) (v := .int .i64 0) (by simp); have z2 := H.fz (b := w.heap.size + 2) (o := 2) (v := .int .i64 0) (by simp); have z3 := H.fz (b := w.heap.size + 2) (o := 3) (v := .int .i64 0) (by simp)))
    obtain ⟨f0, f1, f2, f3, fb⟩ := H.fill4 (b := w.heap.size + 2) (x := .int .i64 0) (y := .int .i64 0) (z := .int .i64 0) (u := .int .i64 0) (by simp) (by simp) (by simp) (by simp) (by omega) (.int .i64 1) (.int .i64 0) (.int .i64 0) (.int .i64 0)
    refine bodyPost_ret (results_four rfl _ _ (w.heap.size + 2) (.int .i64 1) (.int .i64 0) (.int .i64 0) (.int .i64 0) _ rfl f0 f1 f2 f3 Tryd.underlying30 rfl (by kernel_rfl)) rfl ?_
    exact ⟨rfl, fb⟩
  cases h2 : qOk (m, t)
  · clear hb
    obtain ⟨W, hW, H⟩ : ∃ W, W = ((w.alloc (.cells #[.int .i64 x, .int .i64 y] 24)).alloc (.cells #[.int .i64 m, .int .i64 t] 26)).alloc (.cells #[.int .i64 0, .int .i64 0, .int .i64 0, .int .i64 0] 30) ∧ Hd w [(w.heap.size + 2, 0, .int .i64 0), (w.heap.size + 2, 1, .int .i64 0), (w.heap.size + 2, 2, .int .i64 0), (w.heap.size + 2, 3, .int .i64 0), (w.heap.size + 1, 0, .int .i64 m), (w.heap.size + 1, 1, .int .i64 t), (w.heap.size, 0, .int .i64 x), (w.heap.size, 1, .int .i64 y)] W := ⟨_, rfl, by
      have h := ((((Hd.start w).box (.int .i64 x) (.int .i64 y) 24).box (.int .i64 m) (.int .i64 t) 26).box4 (.int .i64 0) (.int .i64 0) (.int .i64 0) (.int .i64 0) 30)
      simp only [size_alloc1] at h
      exact h⟩
    go_enter Tryd.func23, Tryd.ntmps23
    go_wp2_with fail
    rw [← hW]
    clear hW
    have c0 := H.get (b := w.heap.size) (o := 0) (v := .int .i64 x) (by simp)
    have c1 := H.get (b := w.heap.size) (o := 1) (v := .int .i64 y) (by simp)
    have c2 := H.get (b := w.heap.size + 1) (o := 0) (v := .int .i64 m) (by simp)
    have c3 := H.get (b := w.heap.size + 1) (o := 1) (v := .int .i64 t) (by simp)
    have c4 := H.get (b := w.heap.size + 2) (o := 0) (v := .int .i64 0) (by simp)
    have c5 := H.get (b := w.heap.size + 2) (o := 1) (v := .int .i64 0) (by simp)
    have c6 := H.get (b := w.heap.size + 2) (o := 2) (v := .int .i64 0) (by simp)
    have c7 := H.get (b := w.heap.size + 2) (o := 3) (v := .int .i64 0) (by simp)
    clear c0 c1 c2 c3 c4 c5 c6 c7
    have k0 := fun p : Over _ => H.over (b := w.heap.size) (o := 0) (v := .int .i64 x) (by simp) p
    have k1 := fun p : Over _ => H.over (b := w.heap.size) (o := 1) (v := .int .i64 y) (by simp) p
    have k2 := fun p : Over _ => H.over (b := w.heap.size + 1) (o := 0) (v := .int .i64 m) (by simp) p
    have k3 := fun p : Over _ => H.over (b := w.heap.size + 1) (o := 1) (v := .int .i64 t) (by simp) p
    have k4 := fun p : Over _ => H.over (b := w.heap.size + 2) (o := 0) (v := .int .i64 0) (by simp) p
    have k5 := fun p : Over _ => H.over (b := w.heap.size + 2) (o := 1) (v := .int .i64 0) (by simp) p
    have k6 := fun p : Over _ => H.over (b := w.heap.size + 2) (o := 2) (v := .int .i64 0) (by simp) p
    have k7 := fun p : Over _ => H.over (b := w.heap.size + 2) (o := 3) (v := .int .i64 0) (by simp) p
    refine wp_region_over (by kernel_rfl) (by kernel_rfl) ?_
    repeat (go_big_quiet_step (first | (go_at_call 59; rename_i p; refine (RangeOk_xy _ _ _).mono ?_; rintro e' w' ⟨rfl, hb1⟩; exact ⟨by (first | rw [h] | rw [h2] | rfl), p.next hb1⟩) | (go_at_call 75; rename_i p; refine (sRestOk_xy _ _ _).mono ?_; rintro e' w' ⟨rfl, hb1⟩; exact ⟨by (first | rw [h] | rw [h2] | rfl), p.next hb1⟩) | (go_at_call 89; rename_i p; refine (l8None_any _).mono ?_; rintro e' w' ⟨rfl, hb1⟩; exact ⟨rfl, p.next hb1⟩)))
    refine wpQuiet_nil ?_
    rintro _ ⟨p, rfl⟩
    replace H := H.call p.below
    clear k0 k1 k2 k3 k4 k5 k6 k7
    generalize p.w = w3 at *
    clear p
    have c0 := H.get (b := w.heap.size) (o := 0) (v := .int .i64 x) (by simp)
    have c1 := H.get (b := w.heap.size) (o := 1) (v := .int .i64 y) (by simp)
    have c2 := H.get (b := w.heap.size + 1) (o := 0) (v := .int .i64 m) (by simp)
    have c3 := H.get (b := w.heap.size + 1) (o := 1) (v := .int .i64 t) (by simp)
    have c4 := H.get (b := w.heap.size + 2) (o := 0) (v := .int .i64 0) (by simp)
    have c5 := H.get (b := w.heap.size + 2) (o := 1) (v := .int .i64 0) (by simp)
    have c6 := H.get (b := w.heap.size + 2) (o := 2) (v := .int .i64 0) (by simp)
    have c7 := H.get (b := w.heap.size + 2) (o := 3) (v := .int .i64 0) (by simp)
    go_wp2_with (first | (go_at_call 90; refine (l10None_any _).mono ?_; rintro e w' ⟨rfl, hb⟩; replace H := H.call hb; clear hb; have c0 := H.get (b := w.heap.size + 2) (o := 0) (v := .int .i64 0) (by simp); have c1 := H.get (b := w.heap.size + 2) (o := 1) (v := .int .i64 0) (by simp); have c2 := H.get (b := w.heap.size + 2) (o := 2) (v := .int .i64 0) (by simp); have c3 := H.get (b := w.heap.size + 2) (o := 3) (v := .int .i64 0) (by simp); have z0 := H.fz (b := w.heap.size + 2) (o := 0) (v := .int .i64 0) (by simp); have z1 := H.fz (b := w.heap.size + 2) (o := 1) (v := .int .i64 0) (by simp); have z2 := H.fz (b := w.heap.size + 2) (o := 2) (v := .int .i64 0) (by simp); have z3 := H.fz (b := w.heap.size + 2) (o := 3) (v := .int .i64 0) (by simp)))
    obtain ⟨f0, f1, f2, f3, fb⟩ := H.fill4 (b := w.heap.size + 2) (x := .int .i64 0) (y := .int .i64 0) (z := .int .i64 0) (u := .int .i64 0) (by simp) (by simp) (by simp) (by simp) (by omega) (.int .i64 1) (.int .i64 0) (.int .i64 0) (.int .i64 0)
    refine bodyPost_ret (results_four rfl _ _ (w.heap.size + 2) (.int .i64 1) (.int .i64 0) (.int .i64 0) (.int .i64 0) _ rfl f0 f1 f2 f3 Tryd.underlying30 rfl (by kernel_rfl)) rfl ?_
    exact ⟨rfl, fb⟩
  have n : isN (x, y) = true := by rw [h, h2] at hb; simpa using hb
  obtain ⟨rfl, rfl⟩ := none_xy n
  clear hb
  obtain ⟨W, hW, H⟩ : ∃ W, W = ((w.alloc (.cells #[.int .i64 1, .int .i64 0] 24)).alloc (.cells #[.int .i64 m, .int .i64 t] 26)).alloc (.cells #[.int .i64 0, .int .i64 0, .int .i64 0, .int .i64 0] 30) ∧ Hd w [(w.heap.size + 2, 0, .int .i64 0), (w.heap.size + 2, 1, .int .i64 0), (w.heap.size + 2, 2, .int .i64 0), (w.heap.size + 2, 3, .int .i64 0), (w.heap.size + 1, 0, .int .i64 m), (w.heap.size + 1, 1, .int .i64 t), (w.heap.size, 0, .int .i64 1), (w.heap.size, 1, .int .i64 0)] W := ⟨_, rfl, by
    have h := ((((Hd.start w).box (.int .i64 1) (.int .i64 0) 24).box (.int .i64 m) (.int .i64 t) 26).box4 (.int .i64 0) (.int .i64 0) (.int .i64 0) (.int .i64 0) 30)
    simp only [size_alloc1] at h
    exact h⟩
  go_enter Tryd.func23, Tryd.ntmps23
  go_wp2_with fail
  rw [← hW]
  clear hW
  have c0 := H.get (b := w.heap.size) (o := 0) (v := .int .i64 1) (by simp)
  have c1 := H.get (b := w.heap.size) (o := 1) (v := .int .i64 0) (by simp)
  have c2 := H.get (b := w.heap.size + 1) (o := 0) (v := .int .i64 m) (by simp)
  have c3 := H.get (b := w.heap.size + 1) (o := 1) (v := .int .i64 t) (by simp)
  have c4 := H.get (b := w.heap.size + 2) (o := 0) (v := .int .i64 0) (by simp)
  have c5 := H.get (b := w.heap.size + 2) (o := 1) (v := .int .i64 0) (by simp)
  have c6 := H.get (b := w.heap.size + 2) (o := 2) (v := .int .i64 0) (by simp)
  have c7 := H.get (b := w.heap.size + 2) (o := 3) (v := .int .i64 0) (by simp)
  clear c0 c1 c2 c3 c4 c5 c6 c7
  have k0 := fun p : Over _ => H.over (b := w.heap.size) (o := 0) (v := .int .i64 1) (by simp) p
  have k1 := fun p : Over _ => H.over (b := w.heap.size) (o := 1) (v := .int .i64 0) (by simp) p
  have k2 := fun p : Over _ => H.over (b := w.heap.size + 1) (o := 0) (v := .int .i64 m) (by simp) p
  have k3 := fun p : Over _ => H.over (b := w.heap.size + 1) (o := 1) (v := .int .i64 t) (by simp) p
  have k4 := fun p : Over _ => H.over (b := w.heap.size + 2) (o := 0) (v := .int .i64 0) (by simp) p
  have k5 := fun p : Over _ => H.over (b := w.heap.size + 2) (o := 1) (v := .int .i64 0) (by simp) p
  have k6 := fun p : Over _ => H.over (b := w.heap.size + 2) (o := 2) (v := .int .i64 0) (by simp) p
  have k7 := fun p : Over _ => H.over (b := w.heap.size + 2) (o := 3) (v := .int .i64 0) (by simp) p
  refine wp_region_over (by kernel_rfl) (by kernel_rfl) ?_
  repeat (go_big_quiet_step (first | (go_at_call 59; rename_i p; refine (RangeOk_xy _ _ _).mono ?_; rintro e' w' ⟨rfl, hb1⟩; exact ⟨by (first | rw [h] | rw [h2] | rfl), p.next hb1⟩) | (go_at_call 75; rename_i p; refine (sRestOk_xy _ _ _).mono ?_; rintro e' w' ⟨rfl, hb1⟩; exact ⟨by (first | rw [h] | rw [h2] | rfl), p.next hb1⟩) | (go_at_call 89; rename_i p; refine (l8None_any _).mono ?_; rintro e' w' ⟨rfl, hb1⟩; exact ⟨rfl, p.next hb1⟩)))
  refine wpQuiet_nil ?_
  rintro _ ⟨p, rfl⟩
  replace H := H.call p.below
  clear k0 k1 k2 k3 k4 k5 k6 k7
  generalize p.w = w3 at *
  clear p
  have c0 := H.get (b := w.heap.size) (o := 0) (v := .int .i64 1) (by simp)
  have c1 := H.get (b := w.heap.size) (o := 1) (v := .int .i64 0) (by simp)
  have c2 := H.get (b := w.heap.size + 1) (o := 0) (v := .int .i64 m) (by simp)
  have c3 := H.get (b := w.heap.size + 1) (o := 1) (v := .int .i64 t) (by simp)
  have c4 := H.get (b := w.heap.size + 2) (o := 0) (v := .int .i64 0) (by simp)
  have c5 := H.get (b := w.heap.size + 2) (o := 1) (v := .int .i64 0) (by simp)
  have c6 := H.get (b := w.heap.size + 2) (o := 2) (v := .int .i64 0) (by simp)
  have c7 := H.get (b := w.heap.size + 2) (o := 3) (v := .int .i64 0) (by simp)
  go_wp2_with (first | (go_at_call 90; refine (l10None_any _).mono ?_; rintro e w' ⟨rfl, hb⟩; replace H := H.call hb; clear hb; have c0 := H.get (b := w.heap.size + 2) (o := 0) (v := .int .i64 0) (by simp); have c1 := H.get (b := w.heap.size + 2) (o := 1) (v := .int .i64 0) (by simp); have c2 := H.get (b := w.heap.size + 2) (o := 2) (v := .int .i64 0) (by simp); have c3 := H.get (b := w.heap.size + 2) (o := 3) (v := .int .i64 0) (by simp); have z0 := H.fz (b := w.heap.size + 2) (o := 0) (v := .int .i64 0) (by simp); have z1 := H.fz (b := w.heap.size + 2) (o := 1) (v := .int .i64 0) (by simp); have z2 := H.fz (b := w.heap.size + 2) (o := 2) (v := .int .i64 0) (by simp); have z3 := H.fz (b := w.heap.size + 2) (o := 3) (v := .int .i64 0) (by simp)))
  obtain ⟨f0, f1, f2, f3, fb⟩ := H.fill4 (b := w.heap.size + 2) (x := .int .i64 0) (y := .int .i64 0) (z := .int .i64 0) (u := .int .i64 0) (by simp) (by simp) (by simp) (by simp) (by omega) (.int .i64 1) (.int .i64 0) (.int .i64 0) (.int .i64 0)
  refine bodyPost_ret (results_four rfl _ _ (w.heap.size + 2) (.int .i64 1) (.int .i64 0) (.int .i64 0) (.int .i64 0) _ rfl f0 f1 f2 f3 Tryd.underlying30 rfl (by kernel_rfl)) rfl ?_
  exact ⟨rfl, fb⟩
set_option maxRecDepth 100000 in
set_option maxHeartbeats 4000000 in
theorem sMake_zero (x y t : Int) (h : rOk (x, y) = true) (h2 : qOk (0, t) = true) (n : isN (x, y) = false) (w : World) :
    Calls Tryd.prog 23 #[.agg #[.int .i64 x, .int .i64 y], .agg #[.int .i64 0, .int .i64 t]] w fun e w' => e = .returned (.agg #[.int .i64 (make10 (x, y) (0, t)).1, .int .i64 (make10 (x, y) (0, t)).2.1, .int .i64 (make10 (x, y) (0, t)).2.2.1, .int .i64 (make10 (x, y) (0, t)).2.2.2]) ∧ Below w.heap.size w w' := by
  have hq := @some_if x y n
  cases hh : rHas (x, y) t
  · have e : make10 (x, y) (0, t) = none10 := by unfold make10; rw [if_neg (by simp [h, h2, n]), if_pos rfl, if_neg (by simp [hh])]
    rw [e]
    clear e
    obtain ⟨W, hW, H⟩ : ∃ W, W = ((w.alloc (.cells #[.int .i64 x, .int .i64 y] 24)).alloc (.cells #[.int .i64 0, .int .i64 t] 26)).alloc (.cells #[.int .i64 0, .int .i64 0, .int .i64 0, .int .i64 0] 30) ∧ Hd w [(w.heap.size + 2, 0, .int .i64 0), (w.heap.size + 2, 1, .int .i64 0), (w.heap.size + 2, 2, .int .i64 0), (w.heap.size + 2, 3, .int .i64 0), (w.heap.size + 1, 0, .int .i64 0), (w.heap.size + 1, 1, .int .i64 t), (w.heap.size, 0, .int .i64 x), (w.heap.size, 1, .int .i64 y)] W := ⟨_, rfl, by
      have h := ((((Hd.start w).box (.int .i64 x) (.int .i64 y) 24).box (.int .i64 0) (.int .i64 t) 26).box4 (.int .i64 0) (.int .i64 0) (.int .i64 0) (.int .i64 0) 30)
      simp only [size_alloc1] at h
      exact h⟩
    go_enter Tryd.func23, Tryd.ntmps23
    go_wp2_with fail
    rw [← hW]
    clear hW
    have c0 := H.get (b := w.heap.size) (o := 0) (v := .int .i64 x) (by simp)
    have c1 := H.get (b := w.heap.size) (o := 1) (v := .int .i64 y) (by simp)
    have c2 := H.get (b := w.heap.size + 1) (o := 0) (v := .int .i64 0) (by simp)
    have c3 := H.get (b := w.heap.size + 1) (o := 1) (v := .int .i64 t) (by simp)
    have c4 := H.get (b := w.heap.size + 2) (o := 0) (v := .int .i64 0) (by simp)
    have c5 := H.get (b := w.heap.size + 2) (o := 1) (v := .int .i64 0) (by simp)
    have c6 := H.get (b := w.heap.size + 2) (o := 2) (v := .int .i64 0) (by simp)
    have c7 := H.get (b := w.heap.size + 2) (o := 3) (v := .int .i64 0) (by simp)
    clear c0 c1 c2 c3 c4 c5 c6 c7
    have k0 := fun p : Over _ => H.over (b := w.heap.size) (o := 0) (v := .int .i64 x) (by simp) p
    have k1 := fun p : Over _ => H.over (b := w.heap.size) (o := 1) (v := .int .i64 y) (by simp) p
    have k2 := fun p : Over _ => H.over (b := w.heap.size + 1) (o := 0) (v := .int .i64 0) (by simp) p
    have k3 := fun p : Over _ => H.over (b := w.heap.size + 1) (o := 1) (v := .int .i64 t) (by simp) p
    have k4 := fun p : Over _ => H.over (b := w.heap.size + 2) (o := 0) (v := .int .i64 0) (by simp) p
    have k5 := fun p : Over _ => H.over (b := w.heap.size + 2) (o := 1) (v := .int .i64 0) (by simp) p
    have k6 := fun p : Over _ => H.over (b := w.heap.size + 2) (o := 2) (v := .int .i64 0) (by simp) p
    have k7 := fun p : Over _ => H.over (b := w.heap.size + 2) (o := 3) (v := .int .i64 0) (by simp) p
    refine wp_region_over (by kernel_rfl) (by kernel_rfl) ?_
    repeat (go_big_quiet_step (first | (go_at_call 59; rename_i p; refine (RangeOk_xy _ _ _).mono ?_; rintro e' w' ⟨rfl, hb1⟩; exact ⟨by (first | rw [h] | rw [h2] | rfl), p.next hb1⟩) | (go_at_call 75; rename_i p; refine (sRestOk_xy _ _ _).mono ?_; rintro e' w' ⟨rfl, hb1⟩; exact ⟨by (first | rw [h] | rw [h2] | rfl), p.next hb1⟩) | (go_at_call 89; rename_i p; refine (l8None_any _).mono ?_; rintro e' w' ⟨rfl, hb1⟩; exact ⟨rfl, p.next hb1⟩)))
    refine wpQuiet_nil ?_
    rintro _ ⟨p, rfl⟩
    replace H := H.call p.below
    clear k0 k1 k2 k3 k4 k5 k6 k7
    generalize p.w = w3 at *
    clear p
    have c0 := H.get (b := w.heap.size) (o := 0) (v := .int .i64 x) (by simp)
    have c1 := H.get (b := w.heap.size) (o := 1) (v := .int .i64 y) (by simp)
    have c2 := H.get (b := w.heap.size + 1) (o := 0) (v := .int .i64 0) (by simp)
    have c3 := H.get (b := w.heap.size + 1) (o := 1) (v := .int .i64 t) (by simp)
    have c4 := H.get (b := w.heap.size + 2) (o := 0) (v := .int .i64 0) (by simp)
    have c5 := H.get (b := w.heap.size + 2) (o := 1) (v := .int .i64 0) (by simp)
    have c6 := H.get (b := w.heap.size + 2) (o := 2) (v := .int .i64 0) (by simp)
    have c7 := H.get (b := w.heap.size + 2) (o := 3) (v := .int .i64 0) (by simp)
    go_wp2_with (first | (go_at_call 28; refine (RangeHas_xy _ _ _ _).mono ?_; rintro e w' ⟨rfl, hb⟩; (first | rw [hh] | skip); replace H := H.call hb; clear hb; have c0 := H.get (b := w.heap.size) (o := 0) (v := .int .i64 x) (by simp); have c1 := H.get (b := w.heap.size) (o := 1) (v := .int .i64 y) (by simp); have c2 := H.get (b := w.heap.size + 1) (o := 0) (v := .int .i64 0) (by simp); have c3 := H.get (b := w.heap.size + 1) (o := 1) (v := .int .i64 t) (by simp); have c4 := H.get (b := w.heap.size + 2) (o := 0) (v := .int .i64 0) (by simp); have c5 := H.get (b := w.heap.size + 2) (o := 1) (v := .int .i64 0) (by simp); have c6 := H.get (b := w.heap.size + 2) (o := 2) (v := .int .i64 0) (by simp); have c7 := H.get (b := w.heap.size + 2) (o := 3) (v := .int .i64 0) (by simp); have z0 := H.fz (b := w.heap.size + 2) (o := 0) (v := .int .i64 0) (by simp); have z1 := H.fz (b := w.heap.size + 2) (o := 1) (v := .int .i64 0) (by simp); have z2 := H.fz (b := w.heap.size + 2) (o := 2) (v := .int .i64 0) (by simp); have z3 := H.fz (b := w.heap.size + 2) (o := 3) (v := .int .i64 0) (by simp)) | (go_at_call 91; refine (l10One_any _ _).mono ?_; rintro e w' ⟨rfl, hb⟩; replace H := H.call hb; clear hb; have c0 := H.get (b := w.heap.size) (o := 0) (v := .int .i64 x) (by simp); have c1 := H.get (b := w.heap.size) (o := 1) (v := .int .i64 y) (by simp); have c2 := H.get (b := w.heap.size + 1) (o := 0) (v := .int .i64 0) (by simp); have c3 := H.get (b := w.heap.size + 1) (o := 1) (v := .int .i64 t) (by simp); have c4 := H.get (b := w.heap.size + 2) (o := 0) (v := .int .i64 0) (by simp); have c5 := H.get (b := w.heap.size + 2) (o := 1) (v := .int .i64 0) (by simp); have c6 := H.get (b := w.heap.size + 2) (o := 2) (v := .int .i64 0) (by simp); have c7 := H.get (b := w.heap.size + 2) (o := 3) (v := .int .i64 0) (by simp); have z0 := H.fz (b := w.heap.size + 2) (o := 0) (v := .int .i64 0) (by simp); have z1 := H.fz (b := w.heap.size + 2) (o := 1) (v := .int .i64 0) (by simp); have z2 := H.fz (b := w.heap.size + 2) (o := 2) (v := .int .i64 0) (by simp); have z3 := H.fz (b := w.heap.size + 2) (o := 3) (v := .int .i64 0) (by simp)) | (go_at_call 90; refine (l10None_any _).mono ?_; rintro e w' ⟨rfl, hb⟩; replace H := H.call hb; clear hb; have c0 := H.get (b := w.heap.size) (o := 0) (v := .int .i64 x) (by simp); have c1 := H.get (b := w.heap.size) (o := 1) (v := .int .i64 y) (by simp); have c2 := H.get (b := w.heap.size + 1) (o := 0) (v := .int .i64 0) (by simp); have c3 := H.get (b := w.heap.size + 1) (o := 1) (v := .int .i64 t) (by simp); have c4 := H.get (b := w.heap.size + 2) (o := 0) (v := .int .i64 0) (by simp); have c5 := H.get (b := w.heap.size + 2) (o := 1) (v := .int .i64 0) (by simp); have c6 := H.get (b := w.heap.size + 2) (o := 2) (v := .int .i64 0) (by simp); have c7 := H.get (b := w.heap.size + 2) (o := 3) (v := .int .i64 0) (by simp); have z0 := H.fz (b := w.heap.size + 2) (o := 0) (v := .int .i64 0) (by simp); have z1 := H.fz (b := w.heap.size + 2) (o := 1) (v := .int .i64 0) (by simp); have z2 := H.fz (b := w.heap.size + 2) (o := 2) (v := .int .i64 0) (by simp); have z3 := H.fz (b := w.heap.size + 2) (o := 3) (v := .int .i64 0) (by simp)))
    obtain ⟨f0, f1, f2, f3, fb⟩ := H.fill4 (b := w.heap.size + 2) (x := .int .i64 0) (y := .int .i64 0) (z := .int .i64 0) (u := .int .i64 0) (by simp) (by simp) (by simp) (by simp) (by omega) (.int .i64 1) (.int .i64 0) (.int .i64 0) (.int .i64 0)
    refine bodyPost_ret (results_four rfl _ _ (w.heap.size + 2) (.int .i64 1) (.int .i64 0) (.int .i64 0) (.int .i64 0) _ rfl f0 f1 f2 f3 Tryd.underlying30 rfl (by kernel_rfl)) rfl ?_
    exact ⟨rfl, fb⟩
  · have e : make10 (x, y) (0, t) = (t, t, 0, t) := by unfold make10; rw [if_neg (by simp [h, h2, n]), if_pos rfl, if_pos hh]
    rw [e]
    clear e
    obtain ⟨W, hW, H⟩ : ∃ W, W = ((w.alloc (.cells #[.int .i64 x, .int .i64 y] 24)).alloc (.cells #[.int .i64 0, .int .i64 t] 26)).alloc (.cells #[.int .i64 0, .int .i64 0, .int .i64 0, .int .i64 0] 30) ∧ Hd w [(w.heap.size + 2, 0, .int .i64 0), (w.heap.size + 2, 1, .int .i64 0), (w.heap.size + 2, 2, .int .i64 0), (w.heap.size + 2, 3, .int .i64 0), (w.heap.size + 1, 0, .int .i64 0), (w.heap.size + 1, 1, .int .i64 t), (w.heap.size, 0, .int .i64 x), (w.heap.size, 1, .int .i64 y)] W := ⟨_, rfl, by
      have h := ((((Hd.start w).box (.int .i64 x) (.int .i64 y) 24).box (.int .i64 0) (.int .i64 t) 26).box4 (.int .i64 0) (.int .i64 0) (.int .i64 0) (.int .i64 0) 30)
      simp only [size_alloc1] at h
      exact h⟩
    go_enter Tryd.func23, Tryd.ntmps23
    go_wp2_with fail
    rw [← hW]
    clear hW
    have c0 := H.get (b := w.heap.size) (o := 0) (v := .int .i64 x) (by simp)
    have c1 := H.get (b := w.heap.size) (o := 1) (v := .int .i64 y) (by simp)
    have c2 := H.get (b := w.heap.size + 1) (o := 0) (v := .int .i64 0) (by simp)
    have c3 := H.get (b := w.heap.size + 1) (o := 1) (v := .int .i64 t) (by simp)
    have c4 := H.get (b := w.heap.size + 2) (o := 0) (v := .int .i64 0) (by simp)
    have c5 := H.get (b := w.heap.size + 2) (o := 1) (v := .int .i64 0) (by simp)
    have c6 := H.get (b := w.heap.size + 2) (o := 2) (v := .int .i64 0) (by simp)
    have c7 := H.get (b := w.heap.size + 2) (o := 3) (v := .int .i64 0) (by simp)
    clear c0 c1 c2 c3 c4 c5 c6 c7
    have k0 := fun p : Over _ => H.over (b := w.heap.size) (o := 0) (v := .int .i64 x) (by simp) p
    have k1 := fun p : Over _ => H.over (b := w.heap.size) (o := 1) (v := .int .i64 y) (by simp) p
    have k2 := fun p : Over _ => H.over (b := w.heap.size + 1) (o := 0) (v := .int .i64 0) (by simp) p
    have k3 := fun p : Over _ => H.over (b := w.heap.size + 1) (o := 1) (v := .int .i64 t) (by simp) p
    have k4 := fun p : Over _ => H.over (b := w.heap.size + 2) (o := 0) (v := .int .i64 0) (by simp) p
    have k5 := fun p : Over _ => H.over (b := w.heap.size + 2) (o := 1) (v := .int .i64 0) (by simp) p
    have k6 := fun p : Over _ => H.over (b := w.heap.size + 2) (o := 2) (v := .int .i64 0) (by simp) p
    have k7 := fun p : Over _ => H.over (b := w.heap.size + 2) (o := 3) (v := .int .i64 0) (by simp) p
    refine wp_region_over (by kernel_rfl) (by kernel_rfl) ?_
    repeat (go_big_quiet_step (first | (go_at_call 59; rename_i p; refine (RangeOk_xy _ _ _).mono ?_; rintro e' w' ⟨rfl, hb1⟩; exact ⟨by (first | rw [h] | rw [h2] | rfl), p.next hb1⟩) | (go_at_call 75; rename_i p; refine (sRestOk_xy _ _ _).mono ?_; rintro e' w' ⟨rfl, hb1⟩; exact ⟨by (first | rw [h] | rw [h2] | rfl), p.next hb1⟩) | (go_at_call 89; rename_i p; refine (l8None_any _).mono ?_; rintro e' w' ⟨rfl, hb1⟩; exact ⟨rfl, p.next hb1⟩)))
    refine wpQuiet_nil ?_
    rintro _ ⟨p, rfl⟩
    replace H := H.call p.below
    clear k0 k1 k2 k3 k4 k5 k6 k7
    generalize p.w = w3 at *
    clear p
    have c0 := H.get (b := w.heap.size) (o := 0) (v := .int .i64 x) (by simp)
    have c1 := H.get (b := w.heap.size) (o := 1) (v := .int .i64 y) (by simp)
    have c2 := H.get (b := w.heap.size + 1) (o := 0) (v := .int .i64 0) (by simp)
    have c3 := H.get (b := w.heap.size + 1) (o := 1) (v := .int .i64 t) (by simp)
    have c4 := H.get (b := w.heap.size + 2) (o := 0) (v := .int .i64 0) (by simp)
    have c5 := H.get (b := w.heap.size + 2) (o := 1) (v := .int .i64 0) (by simp)
    have c6 := H.get (b := w.heap.size + 2) (o := 2) (v := .int .i64 0) (by simp)
    have c7 := H.get (b := w.heap.size + 2) (o := 3) (v := .int .i64 0) (by simp)
    go_wp2_with (first | (go_at_call 28; refine (RangeHas_xy _ _ _ _).mono ?_; rintro e w' ⟨rfl, hb⟩; (first | rw [hh] | skip); replace H := H.call hb; clear hb; have c0 := H.get (b := w.heap.size) (o := 0) (v := .int .i64 x) (by simp); have c1 := H.get (b := w.heap.size) (o := 1) (v := .int .i64 y) (by simp); have c2 := H.get (b := w.heap.size + 1) (o := 0) (v := .int .i64 0) (by simp); have c3 := H.get (b := w.heap.size + 1) (o := 1) (v := .int .i64 t) (by simp); have c4 := H.get (b := w.heap.size + 2) (o := 0) (v := .int .i64 0) (by simp); have c5 := H.get (b := w.heap.size + 2) (o := 1) (v := .int .i64 0) (by simp); have c6 := H.get (b := w.heap.size + 2) (o := 2) (v := .int .i64 0) (by simp); have c7 := H.get (b := w.heap.size + 2) (o := 3) (v := .int .i64 0) (by simp); have z0 := H.fz (b := w.heap.size + 2) (o := 0) (v := .int .i64 0) (by simp); have z1 := H.fz (b := w.heap.size + 2) (o := 1) (v := .int .i64 0) (by simp); have z2 := H.fz (b := w.heap.size + 2) (o := 2) (v := .int .i64 0) (by simp); have z3 := H.fz (b := w.heap.size + 2) (o := 3) (v := .int .i64 0) (by simp)) | (go_at_call 91; refine (l10One_any _ _).mono ?_; rintro e w' ⟨rfl, hb⟩; replace H := H.call hb; clear hb; have c0 := H.get (b := w.heap.size) (o := 0) (v := .int .i64 x) (by simp); have c1 := H.get (b := w.heap.size) (o := 1) (v := .int .i64 y) (by simp); have c2 := H.get (b := w.heap.size + 1) (o := 0) (v := .int .i64 0) (by simp); have c3 := H.get (b := w.heap.size + 1) (o := 1) (v := .int .i64 t) (by simp); have c4 := H.get (b := w.heap.size + 2) (o := 0) (v := .int .i64 0) (by simp); have c5 := H.get (b := w.heap.size + 2) (o := 1) (v := .int .i64 0) (by simp); have c6 := H.get (b := w.heap.size + 2) (o := 2) (v := .int .i64 0) (by simp); have c7 := H.get (b := w.heap.size + 2) (o := 3) (v := .int .i64 0) (by simp); have z0 := H.fz (b := w.heap.size + 2) (o := 0) (v := .int .i64 0) (by simp); have z1 := H.fz (b := w.heap.size + 2) (o := 1) (v := .int .i64 0) (by simp); have z2 := H.fz (b := w.heap.size + 2) (o := 2) (v := .int .i64 0) (by simp); have z3 := H.fz (b := w.heap.size + 2) (o := 3) (v := .int .i64 0) (by simp)) | (go_at_call 90; refine (l10None_any _).mono ?_; rintro e w' ⟨rfl, hb⟩; replace H := H.call hb; clear hb; have c0 := H.get (b := w.heap.size) (o := 0) (v := .int .i64 x) (by simp); have c1 := H.get (b := w.heap.size) (o := 1) (v := .int .i64 y) (by simp); have c2 := H.get (b := w.heap.size + 1) (o := 0) (v := .int .i64 0) (by simp); have c3 := H.get (b := w.heap.size + 1) (o := 1) (v := .int .i64 t) (by simp); have c4 := H.get (b := w.heap.size + 2) (o := 0) (v := .int .i64 0) (by simp); have c5 := H.get (b := w.heap.size + 2) (o := 1) (v := .int .i64 0) (by simp); have c6 := H.get (b := w.heap.size + 2) (o := 2) (v := .int .i64 0) (by simp); have c7 := H.get (b := w.heap.size + 2) (o := 3) (v := .int .i64 0) (by simp); have z0 := H.fz (b := w.heap.size + 2) (o := 0) (v := .int .i64 0) (by simp); have z1 := H.fz (b := w.heap.size + 2) (o := 1) (v := .int .i64 0) (by simp); have z2 := H.fz (b := w.heap.size + 2) (o := 2) (v := .int .i64 0) (by simp); have z3 := H.fz (b := w.heap.size + 2) (o := 3) (v := .int .i64 0) (by simp)))
    obtain ⟨f0, f1, f2, f3, fb⟩ := H.fill4 (b := w.heap.size + 2) (x := .int .i64 0) (y := .int .i64 0) (z := .int .i64 0) (u := .int .i64 0) (by simp) (by simp) (by simp) (by simp) (by omega) (.int .i64 t) (.int .i64 t) (.int .i64 0) (.int .i64 t)
    refine bodyPost_ret (results_four rfl _ _ (w.heap.size + 2) (.int .i64 t) (.int .i64 t) (.int .i64 0) (.int .i64 t) _ rfl f0 f1 f2 f3 Tryd.underlying30 rfl (by kernel_rfl)) rfl ?_
    exact ⟨rfl, fb⟩
end Go.Proofs.YthbbgkpkijlclaaDoor.num
namespace Go.Proofs.YthbbgkpkijlclaaDoor.num
open Go.ChangeShapes Go.WideShapes Go.ChangeAt Go.RowKit
set_option linter.unusedVariables false

set_option maxRecDepth 100000 in
set_option maxHeartbeats 4000000 in
theorem sMake_no (x y m t : Int) (h : rOk (x, y) = true) (h2 : qOk (m, t) = true) (n : isN (x, y) = false) (z : ¬ m = 0) (lo hi : Int) (hlo : x + (t - x) % m = lo) (hhi : y - (y - t) % m = hi) (q : hi < lo) (w : World) :
    Calls Tryd.prog 23 #[.agg #[.int .i64 x, .int .i64 y], .agg #[.int .i64 m, .int .i64 t]] w fun e w' => e = .returned (.agg #[.int .i64 (make10 (x, y) (m, t)).1, .int .i64 (make10 (x, y) (m, t)).2.1, .int .i64 (make10 (x, y) (m, t)).2.2.1, .int .i64 (make10 (x, y) (m, t)).2.2.2]) ∧ Below w.heap.size w w' := by
  have hq := @some_if x y n
  have hx := ok_some h (by simp [n])
  have hm := (qOk_iff _).1 h2
  simp only at hx hm
  have m0 : 0 < m := by omega
  have m1 : m ≤ 9223372036854775807 := by omega
  have r1 := Int.emod_nonneg (t - x) z
  have r2 := Int.emod_lt_of_pos (t - x) m0
  have r3 := Int.emod_nonneg (y - t) z
  have r4 := Int.emod_lt_of_pos (y - t) m0
  have v1 : IntKind.i64.wrap (t - x) = t - x := IntWalk.i64_in _ ⟨by omega, by omega⟩
  have v2 : IntKind.i64.wrap (y - t) = y - t := IntWalk.i64_in _ ⟨by omega, by omega⟩
  have v3 : IntKind.i64.wrap (x + (t - x) % m) = lo := by rw [IntWalk.i64_in _ ⟨by omega, by omega⟩, hlo]
  have v4 : IntKind.i64.wrap (y - (y - t) % m) = hi := by rw [IntWalk.i64_in _ ⟨by omega, by omega⟩, hhi]
  have e : make10 (x, y) (m, t) = none10 := by
    unfold make10 lo10 hi10
    simp only
    rw [if_neg (by simp [h, h2, n]), if_neg z, hlo, hhi]
    rw [if_pos q]
  rw [e]
  clear e hlo hhi r1 r2 r3 r4 hx hm
  
  obtain ⟨W, hW, H⟩ : ∃ W, W = ((w.alloc (.cells #[.int .i64 x, .int .i64 y] 24)).alloc (.cells #[.int .i64 m, .int .i64 t] 26)).alloc (.cells #[.int .i64 0, .int .i64 0, .int .i64 0, .int .i64 0] 30) ∧ Hd w [(w.heap.size + 2, 0, .int .i64 0), (w.heap.size + 2, 1, .int .i64 0), (w.heap.size + 2, 2, .int .i64 0), (w.heap.size + 2, 3, .int .i64 0), (w.heap.size + 1, 0, .int .i64 m), (w.heap.size + 1, 1, .int .i64 t), (w.heap.size, 0, .int .i64 x), (w.heap.size, 1, .int .i64 y)] W := ⟨_, rfl, by
    have h := ((((Hd.start w).box (.int .i64 x) (.int .i64 y) 24).box (.int .i64 m) (.int .i64 t) 26).box4 (.int .i64 0) (.int .i64 0) (.int .i64 0) (.int .i64 0) 30)
    simp only [size_alloc1] at h
    exact h⟩
  go_enter Tryd.func23, Tryd.ntmps23
  go_wp2_with fail
  rw [← hW]
  clear hW
  have c0 := H.get (b := w.heap.size) (o := 0) (v := .int .i64 x) (by simp)
  have c1 := H.get (b := w.heap.size) (o := 1) (v := .int .i64 y) (by simp)
  have c2 := H.get (b := w.heap.size + 1) (o := 0) (v := .int .i64 m) (by simp)
  have c3 := H.get (b := w.heap.size + 1) (o := 1) (v := .int .i64 t) (by simp)
  have c4 := H.get (b := w.heap.size + 2) (o := 0) (v := .int .i64 0) (by simp)
  have c5 := H.get (b := w.heap.size + 2) (o := 1) (v := .int .i64 0) (by simp)
  have c6 := H.get (b := w.heap.size + 2) (o := 2) (v := .int .i64 0) (by simp)
  have c7 := H.get (b := w.heap.size + 2) (o := 3) (v := .int .i64 0) (by simp)
  clear c0 c1 c2 c3 c4 c5 c6 c7
  have k0 := fun p : Over _ => H.over (b := w.heap.size) (o := 0) (v := .int .i64 x) (by simp) p
  have k1 := fun p : Over _ => H.over (b := w.heap.size) (o := 1) (v := .int .i64 y) (by simp) p
  have k2 := fun p : Over _ => H.over (b := w.heap.size + 1) (o := 0) (v := .int .i64 m) (by simp) p
  have k3 := fun p : Over _ => H.over (b := w.heap.size + 1) (o := 1) (v := .int .i64 t) (by simp) p
  have k4 := fun p : Over _ => H.over (b := w.heap.size + 2) (o := 0) (v := .int .i64 0) (by simp) p
  have k5 := fun p : Over _ => H.over (b := w.heap.size + 2) (o := 1) (v := .int .i64 0) (by simp) p
  have k6 := fun p : Over _ => H.over (b := w.heap.size + 2) (o := 2) (v := .int .i64 0) (by simp) p
  have k7 := fun p : Over _ => H.over (b := w.heap.size + 2) (o := 3) (v := .int .i64 0) (by simp) p
  refine wp_region_over (by kernel_rfl) (by kernel_rfl) ?_
  repeat (go_big_quiet_step (first | (go_at_call 59; rename_i p; refine (RangeOk_xy _ _ _).mono ?_; rintro e' w' ⟨rfl, hb1⟩; exact ⟨by (first | rw [h] | rw [h2] | rfl), p.next hb1⟩) | (go_at_call 75; rename_i p; refine (sRestOk_xy _ _ _).mono ?_; rintro e' w' ⟨rfl, hb1⟩; exact ⟨by (first | rw [h] | rw [h2] | rfl), p.next hb1⟩) | (go_at_call 89; rename_i p; refine (l8None_any _).mono ?_; rintro e' w' ⟨rfl, hb1⟩; exact ⟨rfl, p.next hb1⟩)))
  refine wpQuiet_nil ?_
  rintro _ ⟨p, rfl⟩
  replace H := H.call p.below
  clear k0 k1 k2 k3 k4 k5 k6 k7
  generalize p.w = w3 at *
  clear p
  have c0 := H.get (b := w.heap.size) (o := 0) (v := .int .i64 x) (by simp)
  have c1 := H.get (b := w.heap.size) (o := 1) (v := .int .i64 y) (by simp)
  have c2 := H.get (b := w.heap.size + 1) (o := 0) (v := .int .i64 m) (by simp)
  have c3 := H.get (b := w.heap.size + 1) (o := 1) (v := .int .i64 t) (by simp)
  have c4 := H.get (b := w.heap.size + 2) (o := 0) (v := .int .i64 0) (by simp)
  have c5 := H.get (b := w.heap.size + 2) (o := 1) (v := .int .i64 0) (by simp)
  have c6 := H.get (b := w.heap.size + 2) (o := 2) (v := .int .i64 0) (by simp)
  have c7 := H.get (b := w.heap.size + 2) (o := 3) (v := .int .i64 0) (by simp)
  go_wp2_with fail
  clear c0 c1 c2 c3 c4 c5 c6 c7
  have k0 := fun p : Over _ => H.over (b := w.heap.size) (o := 0) (v := .int .i64 x) (by simp) p
  have k1 := fun p : Over _ => H.over (b := w.heap.size) (o := 1) (v := .int .i64 y) (by simp) p
  have k2 := fun p : Over _ => H.over (b := w.heap.size + 1) (o := 0) (v := .int .i64 m) (by simp) p
  have k3 := fun p : Over _ => H.over (b := w.heap.size + 1) (o := 1) (v := .int .i64 t) (by simp) p
  have k4 := fun p : Over _ => H.over (b := w.heap.size + 2) (o := 0) (v := .int .i64 0) (by simp) p
  have k5 := fun p : Over _ => H.over (b := w.heap.size + 2) (o := 1) (v := .int .i64 0) (by simp) p
  have k6 := fun p : Over _ => H.over (b := w.heap.size + 2) (o := 2) (v := .int .i64 0) (by simp) p
  have k7 := fun p : Over _ => H.over (b := w.heap.size + 2) (o := 3) (v := .int .i64 0) (by simp) p
  refine wp_region_over (by kernel_rfl) (by kernel_rfl) ?_
  repeat (go_big_quiet_step (first | (go_at_call 92; rename_i p; refine (l1Mod_any _ m m0 m1 _).mono ?_; rintro e' w' ⟨rfl, rfl⟩; exact ⟨rfl, p, rfl⟩)))
  refine wpQuiet_nil ?_
  rintro _ ⟨p, rfl⟩
  replace H := H.call p.below
  clear k0 k1 k2 k3 k4 k5 k6 k7
  generalize p.w = w4 at *
  clear p
  have c0 := H.get (b := w.heap.size) (o := 0) (v := .int .i64 x) (by simp)
  have c1 := H.get (b := w.heap.size) (o := 1) (v := .int .i64 y) (by simp)
  have c2 := H.get (b := w.heap.size + 1) (o := 0) (v := .int .i64 m) (by simp)
  have c3 := H.get (b := w.heap.size + 1) (o := 1) (v := .int .i64 t) (by simp)
  have c4 := H.get (b := w.heap.size + 2) (o := 0) (v := .int .i64 0) (by simp)
  have c5 := H.get (b := w.heap.size + 2) (o := 1) (v := .int .i64 0) (by simp)
  have c6 := H.get (b := w.heap.size + 2) (o := 2) (v := .int .i64 0) (by simp)
  have c7 := H.get (b := w.heap.size + 2) (o := 3) (v := .int .i64 0) (by simp)
  go_wp2_with fail
  clear c0 c1 c2 c3 c4 c5 c6 c7
  have k0 := fun p : Over _ => H.over (b := w.heap.size) (o := 0) (v := .int .i64 x) (by simp) p
  have k1 := fun p : Over _ => H.over (b := w.heap.size) (o := 1) (v := .int .i64 y) (by simp) p
  have k2 := fun p : Over _ => H.over (b := w.heap.size + 1) (o := 0) (v := .int .i64 m) (by simp) p
  have k3 := fun p : Over _ => H.over (b := w.heap.size + 1) (o := 1) (v := .int .i64 t) (by simp) p
  have k4 := fun p : Over _ => H.over (b := w.heap.size + 2) (o := 0) (v := .int .i64 0) (by simp) p
  have k5 := fun p : Over _ => H.over (b := w.heap.size + 2) (o := 1) (v := .int .i64 0) (by simp) p
  have k6 := fun p : Over _ => H.over (b := w.heap.size + 2) (o := 2) (v := .int .i64 0) (by simp) p
  have k7 := fun p : Over _ => H.over (b := w.heap.size + 2) (o := 3) (v := .int .i64 0) (by simp) p
  refine wp_region_over (by kernel_rfl) (by kernel_rfl) ?_
  repeat (go_big_quiet_step (first | (go_at_call 92; rename_i p; refine (l1Mod_any _ m m0 m1 _).mono ?_; rintro e' w' ⟨rfl, rfl⟩; exact ⟨rfl, p, rfl⟩)))
  refine wpQuiet_nil ?_
  rintro _ ⟨p, rfl⟩
  replace H := H.call p.below
  clear k0 k1 k2 k3 k4 k5 k6 k7
  generalize p.w = w5 at *
  clear p
  have c0 := H.get (b := w.heap.size) (o := 0) (v := .int .i64 x) (by simp)
  have c1 := H.get (b := w.heap.size) (o := 1) (v := .int .i64 y) (by simp)
  have c2 := H.get (b := w.heap.size + 1) (o := 0) (v := .int .i64 m) (by simp)
  have c3 := H.get (b := w.heap.size + 1) (o := 1) (v := .int .i64 t) (by simp)
  have c4 := H.get (b := w.heap.size + 2) (o := 0) (v := .int .i64 0) (by simp)
  have c5 := H.get (b := w.heap.size + 2) (o := 1) (v := .int .i64 0) (by simp)
  have c6 := H.get (b := w.heap.size + 2) (o := 2) (v := .int .i64 0) (by simp)
  have c7 := H.get (b := w.heap.size + 2) (o := 3) (v := .int .i64 0) (by simp)
  have z0 := H.fz (b := w.heap.size + 2) (o := 0) (v := .int .i64 0) (by simp)
  have z1 := H.fz (b := w.heap.size + 2) (o := 1) (v := .int .i64 0) (by simp)
  have z2 := H.fz (b := w.heap.size + 2) (o := 2) (v := .int .i64 0) (by simp)
  have z3 := H.fz (b := w.heap.size + 2) (o := 3) (v := .int .i64 0) (by simp)
  go_wp2_with (first | (go_at_call 90; refine (l10None_any _).mono ?_; rintro e w' ⟨rfl, hb⟩; replace H := H.call hb; clear hb; have c0 := H.get (b := w.heap.size + 2) (o := 0) (v := .int .i64 0) (by simp); have c1 := H.get (b := w.heap.size + 2) (o := 1) (v := .int .i64 0) (by simp); have c2 := H.get (b := w.heap.size + 2) (o := 2) (v := .int .i64 0) (by simp); have c3 := H.get (b := w.heap.size + 2) (o := 3) (v := .int .i64 0) (by simp); have z0 := H.fz (b := w.heap.size + 2) (o := 0) (v := .int .i64 0) (by simp); have z1 := H.fz (b := w.heap.size + 2) (o := 1) (v := .int .i64 0) (by simp); have z2 := H.fz (b := w.heap.size + 2) (o := 2) (v := .int .i64 0) (by simp); have z3 := H.fz (b := w.heap.size + 2) (o := 3) (v := .int .i64 0) (by simp)))
  obtain ⟨f0, f1, f2, f3, fb⟩ := H.fill4 (b := w.heap.size + 2) (x := .int .i64 0) (y := .int .i64 0) (z := .int .i64 0) (u := .int .i64 0) (by simp) (by simp) (by simp) (by simp) (by omega) (.int .i64 1) (.int .i64 0) (.int .i64 0) (.int .i64 0)
  refine bodyPost_ret (results_four rfl _ _ (w.heap.size + 2) (.int .i64 1) (.int .i64 0) (.int .i64 0) (.int .i64 0) _ rfl f0 f1 f2 f3 Tryd.underlying30 rfl (by kernel_rfl)) rfl ?_
  exact ⟨rfl, fb⟩
end Go.Proofs.YthbbgkpkijlclaaDoor.num
namespace Go.Proofs.YthbbgkpkijlclaaDoor.num
open Go.ChangeShapes Go.WideShapes Go.ChangeAt Go.RowKit
set_option linter.unusedVariables false

set_option maxRecDepth 100000 in
set_option maxHeartbeats 4000000 in
theorem sMake_one (x y m t : Int) (h : rOk (x, y) = true) (h2 : qOk (m, t) = true) (n : isN (x, y) = false) (z : ¬ m = 0) (lo hi : Int) (hlo : x + (t - x) % m = lo) (hhi : y - (y - t) % m = hi) (q : lo = hi) (w : World) :
    Calls Tryd.prog 23 #[.agg #[.int .i64 x, .int .i64 y], .agg #[.int .i64 m, .int .i64 t]] w fun e w' => e = .returned (.agg #[.int .i64 (make10 (x, y) (m, t)).1, .int .i64 (make10 (x, y) (m, t)).2.1, .int .i64 (make10 (x, y) (m, t)).2.2.1, .int .i64 (make10 (x, y) (m, t)).2.2.2]) ∧ Below w.heap.size w w' := by
  have hq := @some_if x y n
  have hx := ok_some h (by simp [n])
  have hm := (qOk_iff _).1 h2
  simp only at hx hm
  have m0 : 0 < m := by omega
  have m1 : m ≤ 9223372036854775807 := by omega
  have r1 := Int.emod_nonneg (t - x) z
  have r2 := Int.emod_lt_of_pos (t - x) m0
  have r3 := Int.emod_nonneg (y - t) z
  have r4 := Int.emod_lt_of_pos (y - t) m0
  have v1 : IntKind.i64.wrap (t - x) = t - x := IntWalk.i64_in _ ⟨by omega, by omega⟩
  have v2 : IntKind.i64.wrap (y - t) = y - t := IntWalk.i64_in _ ⟨by omega, by omega⟩
  have v3 : IntKind.i64.wrap (x + (t - x) % m) = lo := by rw [IntWalk.i64_in _ ⟨by omega, by omega⟩, hlo]
  have v4 : IntKind.i64.wrap (y - (y - t) % m) = hi := by rw [IntWalk.i64_in _ ⟨by omega, by omega⟩, hhi]
  have e : make10 (x, y) (m, t) = (lo, lo, 0, lo) := by
    unfold make10 lo10 hi10
    simp only
    rw [if_neg (by simp [h, h2, n]), if_neg z, hlo, hhi]
    rw [if_neg (by omega), if_pos q]
  rw [e]
  clear e hlo hhi r1 r2 r3 r4 hx hm
  subst q
  obtain ⟨W, hW, H⟩ : ∃ W, W = ((w.alloc (.cells #[.int .i64 x, .int .i64 y] 24)).alloc (.cells #[.int .i64 m, .int .i64 t] 26)).alloc (.cells #[.int .i64 0, .int .i64 0, .int .i64 0, .int .i64 0] 30) ∧ Hd w [(w.heap.size + 2, 0, .int .i64 0), (w.heap.size + 2, 1, .int .i64 0), (w.heap.size + 2, 2, .int .i64 0), (w.heap.size + 2, 3, .int .i64 0), (w.heap.size + 1, 0, .int .i64 m), (w.heap.size + 1, 1, .int .i64 t), (w.heap.size, 0, .int .i64 x), (w.heap.size, 1, .int .i64 y)] W := ⟨_, rfl, by
    have h := ((((Hd.start w).box (.int .i64 x) (.int .i64 y) 24).box (.int .i64 m) (.int .i64 t) 26).box4 (.int .i64 0) (.int .i64 0) (.int .i64 0) (.int .i64 0) 30)
    simp only [size_alloc1] at h
    exact h⟩
  go_enter Tryd.func23, Tryd.ntmps23
  go_wp2_with fail
  rw [← hW]
  clear hW
  have c0 := H.get (b := w.heap.size) (o := 0) (v := .int .i64 x) (by simp)
  have c1 := H.get (b := w.heap.size) (o := 1) (v := .int .i64 y) (by simp)
  have c2 := H.get (b := w.heap.size + 1) (o := 0) (v := .int .i64 m) (by simp)
  have c3 := H.get (b := w.heap.size + 1) (o := 1) (v := .int .i64 t) (by simp)
  have c4 := H.get (b := w.heap.size + 2) (o := 0) (v := .int .i64 0) (by simp)
  have c5 := H.get (b := w.heap.size + 2) (o := 1) (v := .int .i64 0) (by simp)
  have c6 := H.get (b := w.heap.size + 2) (o := 2) (v := .int .i64 0) (by simp)
  have c7 := H.get (b := w.heap.size + 2) (o := 3) (v := .int .i64 0) (by simp)
  clear c0 c1 c2 c3 c4 c5 c6 c7
  have k0 := fun p : Over _ => H.over (b := w.heap.size) (o := 0) (v := .int .i64 x) (by simp) p
  have k1 := fun p : Over _ => H.over (b := w.heap.size) (o := 1) (v := .int .i64 y) (by simp) p
  have k2 := fun p : Over _ => H.over (b := w.heap.size + 1) (o := 0) (v := .int .i64 m) (by simp) p
  have k3 := fun p : Over _ => H.over (b := w.heap.size + 1) (o := 1) (v := .int .i64 t) (by simp) p
  have k4 := fun p : Over _ => H.over (b := w.heap.size + 2) (o := 0) (v := .int .i64 0) (by simp) p
  have k5 := fun p : Over _ => H.over (b := w.heap.size + 2) (o := 1) (v := .int .i64 0) (by simp) p
  have k6 := fun p : Over _ => H.over (b := w.heap.size + 2) (o := 2) (v := .int .i64 0) (by simp) p
  have k7 := fun p : Over _ => H.over (b := w.heap.size + 2) (o := 3) (v := .int .i64 0) (by simp) p
  refine wp_region_over (by kernel_rfl) (by kernel_rfl) ?_
  repeat (go_big_quiet_step (first | (go_at_call 59; rename_i p; refine (RangeOk_xy _ _ _).mono ?_; rintro e' w' ⟨rfl, hb1⟩; exact ⟨by (first | rw [h] | rw [h2] | rfl), p.next hb1⟩) | (go_at_call 75; rename_i p; refine (sRestOk_xy _ _ _).mono ?_; rintro e' w' ⟨rfl, hb1⟩; exact ⟨by (first | rw [h] | rw [h2] | rfl), p.next hb1⟩) | (go_at_call 89; rename_i p; refine (l8None_any _).mono ?_; rintro e' w' ⟨rfl, hb1⟩; exact ⟨rfl, p.next hb1⟩)))
  refine wpQuiet_nil ?_
  rintro _ ⟨p, rfl⟩
  replace H := H.call p.below
  clear k0 k1 k2 k3 k4 k5 k6 k7
  generalize p.w = w3 at *
  clear p
  have c0 := H.get (b := w.heap.size) (o := 0) (v := .int .i64 x) (by simp)
  have c1 := H.get (b := w.heap.size) (o := 1) (v := .int .i64 y) (by simp)
  have c2 := H.get (b := w.heap.size + 1) (o := 0) (v := .int .i64 m) (by simp)
  have c3 := H.get (b := w.heap.size + 1) (o := 1) (v := .int .i64 t) (by simp)
  have c4 := H.get (b := w.heap.size + 2) (o := 0) (v := .int .i64 0) (by simp)
  have c5 := H.get (b := w.heap.size + 2) (o := 1) (v := .int .i64 0) (by simp)
  have c6 := H.get (b := w.heap.size + 2) (o := 2) (v := .int .i64 0) (by simp)
  have c7 := H.get (b := w.heap.size + 2) (o := 3) (v := .int .i64 0) (by simp)
  go_wp2_with fail
  clear c0 c1 c2 c3 c4 c5 c6 c7
  have k0 := fun p : Over _ => H.over (b := w.heap.size) (o := 0) (v := .int .i64 x) (by simp) p
  have k1 := fun p : Over _ => H.over (b := w.heap.size) (o := 1) (v := .int .i64 y) (by simp) p
  have k2 := fun p : Over _ => H.over (b := w.heap.size + 1) (o := 0) (v := .int .i64 m) (by simp) p
  have k3 := fun p : Over _ => H.over (b := w.heap.size + 1) (o := 1) (v := .int .i64 t) (by simp) p
  have k4 := fun p : Over _ => H.over (b := w.heap.size + 2) (o := 0) (v := .int .i64 0) (by simp) p
  have k5 := fun p : Over _ => H.over (b := w.heap.size + 2) (o := 1) (v := .int .i64 0) (by simp) p
  have k6 := fun p : Over _ => H.over (b := w.heap.size + 2) (o := 2) (v := .int .i64 0) (by simp) p
  have k7 := fun p : Over _ => H.over (b := w.heap.size + 2) (o := 3) (v := .int .i64 0) (by simp) p
  refine wp_region_over (by kernel_rfl) (by kernel_rfl) ?_
  repeat (go_big_quiet_step (first | (go_at_call 92; rename_i p; refine (l1Mod_any _ m m0 m1 _).mono ?_; rintro e' w' ⟨rfl, rfl⟩; exact ⟨rfl, p, rfl⟩)))
  refine wpQuiet_nil ?_
  rintro _ ⟨p, rfl⟩
  replace H := H.call p.below
  clear k0 k1 k2 k3 k4 k5 k6 k7
  generalize p.w = w4 at *
  clear p
  have c0 := H.get (b := w.heap.size) (o := 0) (v := .int .i64 x) (by simp)
  have c1 := H.get (b := w.heap.size) (o := 1) (v := .int .i64 y) (by simp)
  have c2 := H.get (b := w.heap.size + 1) (o := 0) (v := .int .i64 m) (by simp)
  have c3 := H.get (b := w.heap.size + 1) (o := 1) (v := .int .i64 t) (by simp)
  have c4 := H.get (b := w.heap.size + 2) (o := 0) (v := .int .i64 0) (by simp)
  have c5 := H.get (b := w.heap.size + 2) (o := 1) (v := .int .i64 0) (by simp)
  have c6 := H.get (b := w.heap.size + 2) (o := 2) (v := .int .i64 0) (by simp)
  have c7 := H.get (b := w.heap.size + 2) (o := 3) (v := .int .i64 0) (by simp)
  go_wp2_with fail
  clear c0 c1 c2 c3 c4 c5 c6 c7
  have k0 := fun p : Over _ => H.over (b := w.heap.size) (o := 0) (v := .int .i64 x) (by simp) p
  have k1 := fun p : Over _ => H.over (b := w.heap.size) (o := 1) (v := .int .i64 y) (by simp) p
  have k2 := fun p : Over _ => H.over (b := w.heap.size + 1) (o := 0) (v := .int .i64 m) (by simp) p
  have k3 := fun p : Over _ => H.over (b := w.heap.size + 1) (o := 1) (v := .int .i64 t) (by simp) p
  have k4 := fun p : Over _ => H.over (b := w.heap.size + 2) (o := 0) (v := .int .i64 0) (by simp) p
  have k5 := fun p : Over _ => H.over (b := w.heap.size + 2) (o := 1) (v := .int .i64 0) (by simp) p
  have k6 := fun p : Over _ => H.over (b := w.heap.size + 2) (o := 2) (v := .int .i64 0) (by simp) p
  have k7 := fun p : Over _ => H.over (b := w.heap.size + 2) (o := 3) (v := .int .i64 0) (by simp) p
  refine wp_region_over (by kernel_rfl) (by kernel_rfl) ?_
  repeat (go_big_quiet_step (first | (go_at_call 92; rename_i p; refine (l1Mod_any _ m m0 m1 _).mono ?_; rintro e' w' ⟨rfl, rfl⟩; exact ⟨rfl, p, rfl⟩)))
  refine wpQuiet_nil ?_
  rintro _ ⟨p, rfl⟩
  replace H := H.call p.below
  clear k0 k1 k2 k3 k4 k5 k6 k7
  generalize p.w = w5 at *
  clear p
  have c0 := H.get (b := w.heap.size) (o := 0) (v := .int .i64 x) (by simp)
  have c1 := H.get (b := w.heap.size) (o := 1) (v := .int .i64 y) (by simp)
  have c2 := H.get (b := w.heap.size + 1) (o := 0) (v := .int .i64 m) (by simp)
  have c3 := H.get (b := w.heap.size + 1) (o := 1) (v := .int .i64 t) (by simp)
  have c4 := H.get (b := w.heap.size + 2) (o := 0) (v := .int .i64 0) (by simp)
  have c5 := H.get (b := w.heap.size + 2) (o := 1) (v := .int .i64 0) (by simp)
  have c6 := H.get (b := w.heap.size + 2) (o := 2) (v := .int .i64 0) (by simp)
  have c7 := H.get (b := w.heap.size + 2) (o := 3) (v := .int .i64 0) (by simp)
  have z0 := H.fz (b := w.heap.size + 2) (o := 0) (v := .int .i64 0) (by simp)
  have z1 := H.fz (b := w.heap.size + 2) (o := 1) (v := .int .i64 0) (by simp)
  have z2 := H.fz (b := w.heap.size + 2) (o := 2) (v := .int .i64 0) (by simp)
  have z3 := H.fz (b := w.heap.size + 2) (o := 3) (v := .int .i64 0) (by simp)
  go_wp2_with (first | (go_at_call 91; refine (l10One_any _ _).mono ?_; rintro e w' ⟨rfl, hb⟩; replace H := H.call hb; clear hb; have c0 := H.get (b := w.heap.size + 2) (o := 0) (v := .int .i64 0) (by simp); have c1 := H.get (b := w.heap.size + 2) (o := 1) (v := .int .i64 0) (by simp); have c2 := H.get (b := w.heap.size + 2) (o := 2) (v := .int .i64 0) (by simp); have c3 := H.get (b := w.heap.size + 2) (o := 3) (v := .int .i64 0) (by simp); have z0 := H.fz (b := w.heap.size + 2) (o := 0) (v := .int .i64 0) (by simp); have z1 := H.fz (b := w.heap.size + 2) (o := 1) (v := .int .i64 0) (by simp); have z2 := H.fz (b := w.heap.size + 2) (o := 2) (v := .int .i64 0) (by simp); have z3 := H.fz (b := w.heap.size + 2) (o := 3) (v := .int .i64 0) (by simp)))
  obtain ⟨f0, f1, f2, f3, fb⟩ := H.fill4 (b := w.heap.size + 2) (x := .int .i64 0) (y := .int .i64 0) (z := .int .i64 0) (u := .int .i64 0) (by simp) (by simp) (by simp) (by simp) (by omega) (.int .i64 lo) (.int .i64 lo) (.int .i64 0) (.int .i64 lo)
  refine bodyPost_ret (results_four rfl _ _ (w.heap.size + 2) (.int .i64 lo) (.int .i64 lo) (.int .i64 0) (.int .i64 lo) _ rfl f0 f1 f2 f3 Tryd.underlying30 rfl (by kernel_rfl)) rfl ?_
  exact ⟨rfl, fb⟩
end Go.Proofs.YthbbgkpkijlclaaDoor.num
namespace Go.Proofs.YthbbgkpkijlclaaDoor.num
open Go.ChangeShapes Go.WideShapes Go.ChangeAt Go.RowKit
set_option linter.unusedVariables false

set_option maxRecDepth 100000 in
set_option maxHeartbeats 4000000 in
theorem sMake_two (x y m t : Int) (h : rOk (x, y) = true) (h2 : qOk (m, t) = true) (n : isN (x, y) = false) (z : ¬ m = 0) (lo hi : Int) (hlo : x + (t - x) % m = lo) (hhi : y - (y - t) % m = hi) (q : lo < hi) (w : World) :
    Calls Tryd.prog 23 #[.agg #[.int .i64 x, .int .i64 y], .agg #[.int .i64 m, .int .i64 t]] w fun e w' => e = .returned (.agg #[.int .i64 (make10 (x, y) (m, t)).1, .int .i64 (make10 (x, y) (m, t)).2.1, .int .i64 (make10 (x, y) (m, t)).2.2.1, .int .i64 (make10 (x, y) (m, t)).2.2.2]) ∧ Below w.heap.size w w' := by
  have hq := @some_if x y n
  have hx := ok_some h (by simp [n])
  have hm := (qOk_iff _).1 h2
  simp only at hx hm
  have m0 : 0 < m := by omega
  have m1 : m ≤ 9223372036854775807 := by omega
  have r1 := Int.emod_nonneg (t - x) z
  have r2 := Int.emod_lt_of_pos (t - x) m0
  have r3 := Int.emod_nonneg (y - t) z
  have r4 := Int.emod_lt_of_pos (y - t) m0
  have v1 : IntKind.i64.wrap (t - x) = t - x := IntWalk.i64_in _ ⟨by omega, by omega⟩
  have v2 : IntKind.i64.wrap (y - t) = y - t := IntWalk.i64_in _ ⟨by omega, by omega⟩
  have v3 : IntKind.i64.wrap (x + (t - x) % m) = lo := by rw [IntWalk.i64_in _ ⟨by omega, by omega⟩, hlo]
  have v4 : IntKind.i64.wrap (y - (y - t) % m) = hi := by rw [IntWalk.i64_in _ ⟨by omega, by omega⟩, hhi]
  have e : make10 (x, y) (m, t) = (lo, hi, m, t) := by
    unfold make10 lo10 hi10
    simp only
    rw [if_neg (by simp [h, h2, n]), if_neg z, hlo, hhi]
    rw [if_neg (by omega), if_neg (by omega)]
  rw [e]
  clear e hlo hhi r1 r2 r3 r4 hx hm
  have q1 : ¬ hi < lo := by omega
  have q2 : (lo == hi) = false := by simp; omega
  have q3 : ¬ lo = hi := by omega
  obtain ⟨W, hW, H⟩ : ∃ W, W = ((w.alloc (.cells #[.int .i64 x, .int .i64 y] 24)).alloc (.cells #[.int .i64 m, .int .i64 t] 26)).alloc (.cells #[.int .i64 0, .int .i64 0, .int .i64 0, .int .i64 0] 30) ∧ Hd w [(w.heap.size + 2, 0, .int .i64 0), (w.heap.size + 2, 1, .int .i64 0), (w.heap.size + 2, 2, .int .i64 0), (w.heap.size + 2, 3, .int .i64 0), (w.heap.size + 1, 0, .int .i64 m), (w.heap.size + 1, 1, .int .i64 t), (w.heap.size, 0, .int .i64 x), (w.heap.size, 1, .int .i64 y)] W := ⟨_, rfl, by
    have h := ((((Hd.start w).box (.int .i64 x) (.int .i64 y) 24).box (.int .i64 m) (.int .i64 t) 26).box4 (.int .i64 0) (.int .i64 0) (.int .i64 0) (.int .i64 0) 30)
    simp only [size_alloc1] at h
    exact h⟩
  go_enter Tryd.func23, Tryd.ntmps23
  go_wp2_with fail
  rw [← hW]
  clear hW
  have c0 := H.get (b := w.heap.size) (o := 0) (v := .int .i64 x) (by simp)
  have c1 := H.get (b := w.heap.size) (o := 1) (v := .int .i64 y) (by simp)
  have c2 := H.get (b := w.heap.size + 1) (o := 0) (v := .int .i64 m) (by simp)
  have c3 := H.get (b := w.heap.size + 1) (o := 1) (v := .int .i64 t) (by simp)
  have c4 := H.get (b := w.heap.size + 2) (o := 0) (v := .int .i64 0) (by simp)
  have c5 := H.get (b := w.heap.size + 2) (o := 1) (v := .int .i64 0) (by simp)
  have c6 := H.get (b := w.heap.size + 2) (o := 2) (v := .int .i64 0) (by simp)
  have c7 := H.get (b := w.heap.size + 2) (o := 3) (v := .int .i64 0) (by simp)
  clear c0 c1 c2 c3 c4 c5 c6 c7
  have k0 := fun p : Over _ => H.over (b := w.heap.size) (o := 0) (v := .int .i64 x) (by simp) p
  have k1 := fun p : Over _ => H.over (b := w.heap.size) (o := 1) (v := .int .i64 y) (by simp) p
  have k2 := fun p : Over _ => H.over (b := w.heap.size + 1) (o := 0) (v := .int .i64 m) (by simp) p
  have k3 := fun p : Over _ => H.over (b := w.heap.size + 1) (o := 1) (v := .int .i64 t) (by simp) p
  have k4 := fun p : Over _ => H.over (b := w.heap.size + 2) (o := 0) (v := .int .i64 0) (by simp) p
  have k5 := fun p : Over _ => H.over (b := w.heap.size + 2) (o := 1) (v := .int .i64 0) (by simp) p
  have k6 := fun p : Over _ => H.over (b := w.heap.size + 2) (o := 2) (v := .int .i64 0) (by simp) p
  have k7 := fun p : Over _ => H.over (b := w.heap.size + 2) (o := 3) (v := .int .i64 0) (by simp) p
  refine wp_region_over (by kernel_rfl) (by kernel_rfl) ?_
  repeat (go_big_quiet_step (first | (go_at_call 59; rename_i p; refine (RangeOk_xy _ _ _).mono ?_; rintro e' w' ⟨rfl, hb1⟩; exact ⟨by (first | rw [h] | rw [h2] | rfl), p.next hb1⟩) | (go_at_call 75; rename_i p; refine (sRestOk_xy _ _ _).mono ?_; rintro e' w' ⟨rfl, hb1⟩; exact ⟨by (first | rw [h] | rw [h2] | rfl), p.next hb1⟩) | (go_at_call 89; rename_i p; refine (l8None_any _).mono ?_; rintro e' w' ⟨rfl, hb1⟩; exact ⟨rfl, p.next hb1⟩)))
  refine wpQuiet_nil ?_
  rintro _ ⟨p, rfl⟩
  replace H := H.call p.below
  clear k0 k1 k2 k3 k4 k5 k6 k7
  generalize p.w = w3 at *
  clear p
  have c0 := H.get (b := w.heap.size) (o := 0) (v := .int .i64 x) (by simp)
  have c1 := H.get (b := w.heap.size) (o := 1) (v := .int .i64 y) (by simp)
  have c2 := H.get (b := w.heap.size + 1) (o := 0) (v := .int .i64 m) (by simp)
  have c3 := H.get (b := w.heap.size + 1) (o := 1) (v := .int .i64 t) (by simp)
  have c4 := H.get (b := w.heap.size + 2) (o := 0) (v := .int .i64 0) (by simp)
  have c5 := H.get (b := w.heap.size + 2) (o := 1) (v := .int .i64 0) (by simp)
  have c6 := H.get (b := w.heap.size + 2) (o := 2) (v := .int .i64 0) (by simp)
  have c7 := H.get (b := w.heap.size + 2) (o := 3) (v := .int .i64 0) (by simp)
  go_wp2_with fail
  clear c0 c1 c2 c3 c4 c5 c6 c7
  have k0 := fun p : Over _ => H.over (b := w.heap.size) (o := 0) (v := .int .i64 x) (by simp) p
  have k1 := fun p : Over _ => H.over (b := w.heap.size) (o := 1) (v := .int .i64 y) (by simp) p
  have k2 := fun p : Over _ => H.over (b := w.heap.size + 1) (o := 0) (v := .int .i64 m) (by simp) p
  have k3 := fun p : Over _ => H.over (b := w.heap.size + 1) (o := 1) (v := .int .i64 t) (by simp) p
  have k4 := fun p : Over _ => H.over (b := w.heap.size + 2) (o := 0) (v := .int .i64 0) (by simp) p
  have k5 := fun p : Over _ => H.over (b := w.heap.size + 2) (o := 1) (v := .int .i64 0) (by simp) p
  have k6 := fun p : Over _ => H.over (b := w.heap.size + 2) (o := 2) (v := .int .i64 0) (by simp) p
  have k7 := fun p : Over _ => H.over (b := w.heap.size + 2) (o := 3) (v := .int .i64 0) (by simp) p
  refine wp_region_over (by kernel_rfl) (by kernel_rfl) ?_
  repeat (go_big_quiet_step (first | (go_at_call 92; rename_i p; refine (l1Mod_any _ m m0 m1 _).mono ?_; rintro e' w' ⟨rfl, rfl⟩; exact ⟨rfl, p, rfl⟩)))
  refine wpQuiet_nil ?_
  rintro _ ⟨p, rfl⟩
  replace H := H.call p.below
  clear k0 k1 k2 k3 k4 k5 k6 k7
  generalize p.w = w4 at *
  clear p
  have c0 := H.get (b := w.heap.size) (o := 0) (v := .int .i64 x) (by simp)
  have c1 := H.get (b := w.heap.size) (o := 1) (v := .int .i64 y) (by simp)
  have c2 := H.get (b := w.heap.size + 1) (o := 0) (v := .int .i64 m) (by simp)
  have c3 := H.get (b := w.heap.size + 1) (o := 1) (v := .int .i64 t) (by simp)
  have c4 := H.get (b := w.heap.size + 2) (o := 0) (v := .int .i64 0) (by simp)
  have c5 := H.get (b := w.heap.size + 2) (o := 1) (v := .int .i64 0) (by simp)
  have c6 := H.get (b := w.heap.size + 2) (o := 2) (v := .int .i64 0) (by simp)
  have c7 := H.get (b := w.heap.size + 2) (o := 3) (v := .int .i64 0) (by simp)
  go_wp2_with fail
  clear c0 c1 c2 c3 c4 c5 c6 c7
  have k0 := fun p : Over _ => H.over (b := w.heap.size) (o := 0) (v := .int .i64 x) (by simp) p
  have k1 := fun p : Over _ => H.over (b := w.heap.size) (o := 1) (v := .int .i64 y) (by simp) p
  have k2 := fun p : Over _ => H.over (b := w.heap.size + 1) (o := 0) (v := .int .i64 m) (by simp) p
  have k3 := fun p : Over _ => H.over (b := w.heap.size + 1) (o := 1) (v := .int .i64 t) (by simp) p
  have k4 := fun p : Over _ => H.over (b := w.heap.size + 2) (o := 0) (v := .int .i64 0) (by simp) p
  have k5 := fun p : Over _ => H.over (b := w.heap.size + 2) (o := 1) (v := .int .i64 0) (by simp) p
  have k6 := fun p : Over _ => H.over (b := w.heap.size + 2) (o := 2) (v := .int .i64 0) (by simp) p
  have k7 := fun p : Over _ => H.over (b := w.heap.size + 2) (o := 3) (v := .int .i64 0) (by simp) p
  refine wp_region_over (by kernel_rfl) (by kernel_rfl) ?_
  repeat (go_big_quiet_step (first | (go_at_call 92; rename_i p; refine (l1Mod_any _ m m0 m1 _).mono ?_; rintro e' w' ⟨rfl, rfl⟩; exact ⟨rfl, p, rfl⟩)))
  refine wpQuiet_nil ?_
  rintro _ ⟨p, rfl⟩
  replace H := H.call p.below
  clear k0 k1 k2 k3 k4 k5 k6 k7
  generalize p.w = w5 at *
  clear p
  have c0 := H.get (b := w.heap.size) (o := 0) (v := .int .i64 x) (by simp)
  have c1 := H.get (b := w.heap.size) (o := 1) (v := .int .i64 y) (by simp)
  have c2 := H.get (b := w.heap.size + 1) (o := 0) (v := .int .i64 m) (by simp)
  have c3 := H.get (b := w.heap.size + 1) (o := 1) (v := .int .i64 t) (by simp)
  have c4 := H.get (b := w.heap.size + 2) (o := 0) (v := .int .i64 0) (by simp)
  have c5 := H.get (b := w.heap.size + 2) (o := 1) (v := .int .i64 0) (by simp)
  have c6 := H.get (b := w.heap.size + 2) (o := 2) (v := .int .i64 0) (by simp)
  have c7 := H.get (b := w.heap.size + 2) (o := 3) (v := .int .i64 0) (by simp)
  have z0 := H.fz (b := w.heap.size + 2) (o := 0) (v := .int .i64 0) (by simp)
  have z1 := H.fz (b := w.heap.size + 2) (o := 1) (v := .int .i64 0) (by simp)
  have z2 := H.fz (b := w.heap.size + 2) (o := 2) (v := .int .i64 0) (by simp)
  have z3 := H.fz (b := w.heap.size + 2) (o := 3) (v := .int .i64 0) (by simp)
  go_wp2_with fail
  obtain ⟨f0, f1, f2, f3, fb⟩ := H.fill4 (b := w.heap.size + 2) (x := .int .i64 0) (y := .int .i64 0) (z := .int .i64 0) (u := .int .i64 0) (by simp) (by simp) (by simp) (by simp) (by omega) (.int .i64 lo) (.int .i64 hi) (.int .i64 m) (.int .i64 t)
  refine bodyPost_ret (results_four rfl _ _ (w.heap.size + 2) (.int .i64 lo) (.int .i64 hi) (.int .i64 m) (.int .i64 t) _ rfl f0 f1 f2 f3 Tryd.underlying30 rfl (by kernel_rfl)) rfl ?_
  exact ⟨rfl, fb⟩
end Go.Proofs.YthbbgkpkijlclaaDoor.num
namespace Go.Proofs.YthbbgkpkijlclaaDoor.num
open Go.ChangeShapes Go.WideShapes Go.ChangeAt Go.RowKit
set_option linter.unusedVariables false

theorem sMake_xy (x y m t : Int) (w : World) :
    Calls Tryd.prog 23 #[.agg #[.int .i64 x, .int .i64 y], .agg #[.int .i64 m, .int .i64 t]] w fun e w' => e = .returned (.agg #[.int .i64 (make10 (x, y) (m, t)).1, .int .i64 (make10 (x, y) (m, t)).2.1, .int .i64 (make10 (x, y) (m, t)).2.2.1, .int .i64 (make10 (x, y) (m, t)).2.2.2]) ∧ Below w.heap.size w w' := by
  by_cases hb : rOk (x, y) = false ∨ qOk (m, t) = false ∨ isN (x, y) = true
  · exact sMake_bad x y m t hb w
  · simp only [not_or, Bool.not_eq_false, Bool.not_eq_true] at hb
    obtain ⟨h, h2, n⟩ := hb
    by_cases z : m = 0
    · subst z; exact sMake_zero x y t h h2 n w
    · by_cases q : y - (y - t) % m < x + (t - x) % m
      · exact sMake_no x y m t h h2 n z _ _ rfl rfl q w
      · by_cases q2 : x + (t - x) % m = y - (y - t) % m
        · exact sMake_one x y m t h h2 n z _ _ rfl rfl q2 w
        · exact sMake_two x y m t h h2 n z _ _ rfl rfl (by omega) w
end Go.Proofs.YthbbgkpkijlclaaDoor.num
