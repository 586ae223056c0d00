/-
  The model's ranges: RangeOk and small functions.
-/
import Derived.Test.YthbbgkpkijlclaaDoorSa
namespace Go.Proofs.YthbbgkpkijlclaaDoor.num
open Go.ChangeShapes Go.WideShapes Go.ChangeAt Go.RowKit
set_option linter.unusedVariables false

theorem l8None_any (w : World) :
    Calls Tryd.prog 89 #[] w fun e w' => e = .returned (.agg #[.int .i64 1, .int .i64 0]) ∧ Below w.heap.size w w' := by
  go_enter Tryd.func89, Tryd.ntmps89
  go_wp2
  refine bodyPost_ret (results_two rfl _ _ w.heap.size (.int .i64 1) (.int .i64 0) _ rfl (by simp [go_sem]) (by simp [go_sem]) Tryd.underlying24 rfl (by kernel_rfl)) rfl ?_
  exact ⟨rfl, (Below.refl _ _).alloc (Nat.le_refl _) _⟩
theorem l8Min_any (a b : Int) (w : World) :
    Calls Tryd.prog 144 #[.int .i64 a, .int .i64 b] w fun e w' => e = .returned (.int .i64 (min a b)) ∧ w' = w := by
  go_enter Tryd.func144, Tryd.ntmps144
  go_wp2
  all_goals go_ret
  · exact ⟨ret_int (by omega), rfl⟩
  · exact ⟨ret_int (by omega), rfl⟩
theorem l8Max_any (a b : Int) (w : World) :
    Calls Tryd.prog 145 #[.int .i64 a, .int .i64 b] w fun e w' => e = .returned (.int .i64 (max a b)) ∧ w' = w := by
  go_enter Tryd.func145, Tryd.ntmps145
  go_wp2
  all_goals go_ret
  · exact ⟨ret_int (by omega), rfl⟩
  · exact ⟨ret_int (by omega), rfl⟩
theorem l8Cut_any (a b : Int) (w : World) :
    Calls Tryd.prog 118 #[.int .i64 a, .int .i64 b] w fun e w' => e = .returned (.agg #[.int .i64 (cut8 a b).1, .int .i64 (cut8 a b).2]) ∧ Below w.heap.size w w' := by
  by_cases h : min b 2147483647 < max a (-2147483648)
  · have e : cut8 a b = none8 := by unfold cut8; rw [if_pos h]
    rw [e]
    go_enter Tryd.func118, Tryd.ntmps118
    go_wp2_with (first | (go_at_call 145; refine (l8Max_any _ _ _).mono ?_; rintro e w' ⟨rfl, rfl⟩) | (go_at_call 144; refine (l8Min_any _ _ _).mono ?_; rintro e w' ⟨rfl, rfl⟩) | (go_at_call 89; refine (l8None_any _).mono ?_; rintro e w1 ⟨rfl, hb⟩; have kc := fun p hp => hb.cell (p := p) hp; have kf := fun p hp => hb.frozen (p := p) hp))
    refine bodyPost_ret (results_two rfl _ _ w.heap.size (.int .i64 1) (.int .i64 0) _ rfl (by simp [go_sem, kc]) (by simp [go_sem, kc]) Tryd.underlying24 rfl (by kernel_rfl)) rfl ?_
    exact ⟨rfl, ((below_up ((Below.refl _ _).alloc (Nat.le_refl _) _) (by simp) hb).setCell (Nat.le_refl _) _).setCell (Nat.le_refl _) _⟩
  · have e : cut8 a b = (max a (-2147483648), min b 2147483647) := by unfold cut8; rw [if_neg h]
    rw [e]
    go_enter Tryd.func118, Tryd.ntmps118
    go_wp2_with (first | (go_at_call 145; refine (l8Max_any _ _ _).mono ?_; rintro e w' ⟨rfl, rfl⟩) | (go_at_call 144; refine (l8Min_any _ _ _).mono ?_; rintro e w' ⟨rfl, rfl⟩))
    refine bodyPost_ret (results_two rfl _ _ w.heap.size (.int .i64 (max a (-2147483648))) (.int .i64 (min b 2147483647)) _ rfl (by simp [go_sem]) (by simp [go_sem]) Tryd.underlying24 rfl (by kernel_rfl)) rfl ?_
    exact ⟨rfl, (Below.refl _ _).alloc (Nat.le_refl _) _⟩


theorem RangeOk_none (w : World) :
    Calls Tryd.prog 59 #[.agg #[.int .i64 1, .int .i64 0]] w fun e w' => e = .returned (.bool true) ∧ Below w.heap.size w w' := by
  obtain ⟨W, hW, H⟩ := Hd.one w (.int .i64 1) (.int .i64 0) 24
  have k0 := fun p : Over W => H.over (b := w.heap.size) (o := 0) (v := .int .i64 1) (by simp) p
  have k1 := fun p : Over W => H.over (b := w.heap.size) (o := 1) (v := .int .i64 0) (by simp) p
  go_enter Tryd.func59, Tryd.ntmps59
  go_wp2
  rw [← hW]
  refine wp_region_over (by kernel_rfl) (by kernel_rfl) ?_
  repeat (go_big_quiet_step (first | (go_at_call 89; rename_i p; refine (l8None_any _).mono ?_; rintro e' w' ⟨rfl, hb1⟩; exact ⟨rfl, p.next hb1⟩)))
  refine wpQuiet_nil ?_
  rintro _ ⟨p, rfl⟩
  go_wp2
  go_ret
  exact ⟨rfl, (H.call p.below).below⟩
theorem RangeOk_some (x y : Int) (h : ¬ (x = 1 ∧ y = 0)) (w : World) :
    Calls Tryd.prog 59 #[.agg #[.int .i64 x, .int .i64 y]] w fun e w' => e = .returned (.bool (okB x && okB y && decide (x ≤ y))) ∧ Below w.heap.size w w' := by
  obtain ⟨W, hW, H⟩ := Hd.one w (.int .i64 x) (.int .i64 y) 24
  have k0 := fun p : Over W => H.over (b := w.heap.size) (o := 0) (v := .int .i64 x) (by simp) p
  have k1 := fun p : Over W => H.over (b := w.heap.size) (o := 1) (v := .int .i64 y) (by simp) p
  have hxy : (x == 1) = false ∨ (x = 1 ∧ (y == 0) = false) := by
    by_cases e : x = 1
    · exact .inr ⟨e, by simp; omega⟩
    · exact .inl (by simp [e])
  rcases hxy with hx | ⟨rfl, hy⟩
  all_goals
    cases h1 : okB _
    · go_enter Tryd.func59, Tryd.ntmps59
      go_wp2
      rw [← hW]
      refine wp_region_over (by kernel_rfl) (by kernel_rfl) ?_
      repeat (go_big_quiet_step (first | (go_at_call 89; rename_i p; refine (l8None_any _).mono ?_; rintro e' w' ⟨rfl, hb1⟩; exact ⟨rfl, p.next hb1⟩) | (go_at_call 66; rename_i p; refine (specOk_any _ _).mono ?_; rintro e' w' ⟨rfl, rfl⟩; exact ⟨by rw [h1], p, rfl⟩)))
      refine wpQuiet_nil ?_
      rintro _ ⟨p, rfl⟩
      go_wp2
      go_ret
      exact ⟨rfl, (H.call p.below).below⟩
    · cases h2 : okB y
      all_goals
        go_enter Tryd.func59, Tryd.ntmps59
        go_wp2
        rw [← hW]
        refine wp_region_over (by kernel_rfl) (by kernel_rfl) ?_
        repeat (go_big_quiet_step (first | (go_at_call 89; rename_i p; refine (l8None_any _).mono ?_; rintro e' w' ⟨rfl, hb1⟩; exact ⟨rfl, p.next hb1⟩) | (go_at_call 66; rename_i p; refine (specOk_any _ _).mono ?_; rintro e' w' ⟨rfl, rfl⟩; exact ⟨by first | rw [h1] | rw [h2], p, rfl⟩)))
        refine wpQuiet_nil ?_
        rintro _ ⟨p, rfl⟩
        go_wp2
        go_ret
        exact ⟨rfl, (H.call p.below).below⟩
theorem RangeOk_any (a : R8) (w : World) :
    Calls Tryd.prog 59 #[(.agg #[.int .i64 a.1, .int .i64 a.2])] w fun e w' => e = .returned (.bool (rOk a)) ∧ Below w.heap.size w w' := by
  by_cases h : a.1 = 1 ∧ a.2 = 0
  · obtain ⟨x, y⟩ := a
    simp only at h
    obtain ⟨rfl, rfl⟩ := h
    exact RangeOk_none w
  · have e : rOk a = (okB a.1 && okB a.2 && decide (a.1 ≤ a.2)) := by rw [rOk_eq, (isN_not _).2 h, Bool.false_or]
    rw [e]
    exact RangeOk_some a.1 a.2 h w
end Go.Proofs.YthbbgkpkijlclaaDoor.num
