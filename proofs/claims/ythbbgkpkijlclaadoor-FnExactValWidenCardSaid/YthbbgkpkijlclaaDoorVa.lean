/-
  The model's rests: l9All, l9Make, RestIn, RestJoin.
-/
import Derived.Test.YthbbgkpkijlclaaDoorUa
namespace Go.Proofs.YthbbgkpkijlclaaDoor.num
open Go.ChangeShapes Go.WideShapes Go.ChangeAt Go.RowKit
set_option linter.unusedVariables false

theorem l9All_any (w : World) :
    Calls Tryd.prog 153 #[] w fun e w' => e = .returned (.agg #[.int .i64 1, .int .i64 0]) ∧ Below w.heap.size w w' := by
  go_enter Tryd.func153, Tryd.ntmps153
  go_wp2
  refine bodyPost_ret (results_two rfl _ _ w.heap.size (.int .i64 1) (.int .i64 0) _ rfl (by simp [go_sem]) (by simp [go_sem]) Tryd.underlying26 rfl (by kernel_rfl)) rfl ?_
  exact ⟨rfl, (Below.refl _ _).alloc (Nat.le_refl _) _⟩
set_option maxHeartbeats 4000000 in
theorem l9Make_any (m v : Int) (h0 : 0 ≤ m) (h1 : m ≤ 4611686018427387904) (w : World) :
    Calls Tryd.prog 154 #[.int .i64 m, .int .i64 v] w fun e w' => e = .returned (.agg #[.int .i64 (make9 m v).1, .int .i64 (make9 m v).2]) ∧ Below w.heap.size w w' := by
  by_cases hm : m ≤ 65536
  · have e : make9 m v = if m = 0 then (0, v) else (m, v % m) := by unfold make9; rw [small9_id hm]
    rw [e]
    by_cases hz : m = 0
    · subst hz
      rw [if_pos rfl]
      go_enter Tryd.func154, Tryd.ntmps154
      go_wp2
      refine bodyPost_ret (results_two rfl _ _ w.heap.size (.int .i64 0) (.int .i64 v) _ rfl (by simp [go_sem]) (by simp [go_sem]) Tryd.underlying26 rfl (by kernel_rfl)) rfl ?_
      exact ⟨rfl, (Below.refl _ _).alloc (Nat.le_refl _) _⟩
    · rw [if_neg hz]
      have hm0 : 0 < m := by omega
      have hm1 : m ≤ 9223372036854775807 := by omega
      go_enter Tryd.func154, Tryd.ntmps154
      go_wp2_with (go_at_call 92; refine (l1Mod_any v m hm0 hm1 _).mono ?_; rintro e w' ⟨rfl, rfl⟩)
      refine bodyPost_ret (results_two rfl _ _ w.heap.size (.int .i64 m) (.int .i64 (v % m)) _ rfl (by simp [go_sem]) (by simp [go_sem]) Tryd.underlying26 rfl (by kernel_rfl)) rfl ?_
      exact ⟨rfl, (Below.refl _ _).alloc (Nat.le_refl _) _⟩
  · have g0 := gcd9_gt (a := m) (b := 65536) (.inr (by omega))
    have g1 := gcd9_le_right m (b := 65536) (by omega)
    have e : make9 m v = (gcd9 m 65536, v % gcd9 m 65536) := by
      have es : small9 m = gcd9 m 65536 := by unfold small9; rw [if_pos (by omega)]
      unfold make9; rw [es, if_neg (by omega)]
    rw [e]
    have hb1 : -9223372036854775807 ≤ m ∧ m ≤ 9223372036854775807 := by omega
    have hb2 : -9223372036854775807 ≤ (65536 : Int) ∧ (65536 : Int) ≤ 9223372036854775807 := by omega
    generalize hg : gcd9 m 65536 = g at *
    have hm1 : g ≤ 9223372036854775807 := by omega
    have gz : ¬ g = 0 := by omega
    go_enter Tryd.func154, Tryd.ntmps154
    go_wp2_with (first | (go_at_call 152; refine (l9Gcd_any m 65536 hb1 hb2 _).mono ?_; rintro e w' ⟨rfl, rfl⟩; rw [hg]) | (go_at_call 92; refine (l1Mod_any v g g0 hm1 _).mono ?_; rintro e w' ⟨rfl, rfl⟩))
    refine bodyPost_ret (results_two rfl _ _ w.heap.size (.int .i64 g) (.int .i64 (v % g)) _ rfl (by simp [go_sem]) (by simp [go_sem]) Tryd.underlying26 rfl (by kernel_rfl)) rfl ?_
    exact ⟨rfl, (Below.refl _ _).alloc (Nat.le_refl _) _⟩
end Go.Proofs.YthbbgkpkijlclaaDoor.num
