/-
  The program's rests: small functions.
-/
import Derived.Test.YthbbgkpkijlclaaDoorUb
namespace Go.Proofs.YthbbgkpkijlclaaDoor.num
open Go.ChangeShapes Go.WideShapes Go.ChangeAt Go.RowKit
set_option linter.unusedVariables false

theorem single_xy (x y : Int) (w : World) :
    Calls Tryd.prog 149 #[.agg #[.int .i64 x, .int .i64 y]] w fun e w' => e = .returned (.bool (decide (x = 0))) ∧ Below w.heap.size w w' := by
  go_enter Tryd.func149, Tryd.ntmps149
  go_wp2
  go_ret
  exact ⟨ret_bool (by rw [Bool.eq_iff_iff]; simp), (Below.refl _ _).alloc (Nat.le_refl _) _⟩
theorem modulo_any (a m : Int) (hm : 0 < m) (hm2 : m ≤ 4611686018427387904) (w : World) :
    Calls Tryd.prog 162 #[.int .i64 a, .int .i64 m] w fun e w' => e = .returned (.int .i64 (a % m)) ∧ w' = w := by
  have hm3 : ¬ m = 0 := by omega
  have h2 := Int.emod_nonneg a (show m ≠ 0 by omega)
  have h3 := Int.emod_lt_of_pos a hm
  have h1 : a.tmod m = a % m - ((if 0 ≤ a ∨ m ∣ a then 0 else m.natAbs : Nat) : Int) := Int.tmod_eq_emod
  have h4 : -m < a.tmod m ∧ a.tmod m < m := by split at h1 <;> omega
  have h5 : wrap64 (a.tmod m + m) = a.tmod m + m := w64_id (by omega) (by omega)
  have h6 : (a.tmod m + m).tmod m = a % m := by
    rw [Int.tmod_eq_emod_of_nonneg (by omega), Int.add_emod_right]
    split at h1
    · rw [h1]; simp [Int.emod_emod_of_dvd]
    · have : a.tmod m = a % m - m := by omega
      rw [this, Int.sub_emod_right, Int.emod_emod_of_dvd _ (Int.dvd_refl _)]
  clear h1
  generalize hr : a.tmod m = r at *
  go_enter Tryd.func162, Tryd.ntmps162
  go_wp2
  go_ret
  first
    | exact ⟨rfl, rfl⟩
    | exact ⟨ret_int h6, rfl⟩
set_option maxRecDepth 100000 in
set_option maxHeartbeats 4000000 in
theorem restOf_any (n m : Int) (h0 : 0 ≤ m) (h1 : m ≤ 4611686018427387904) (w : World) :
    Calls Tryd.prog 147 #[.int .i64 n, .int .i64 m] w fun e w' => e = .returned (.agg #[.int .i64 (make9 m n).1, .int .i64 (make9 m n).2]) ∧ Below w.heap.size w w' := by
  by_cases hm : m ≤ 65536
  · have e : make9 m n = if m = 0 then (0, n) else (m, n % m) := by unfold make9; rw [small9_id hm]
    rw [e]
    by_cases hz : m = 0
    · subst hz
      rw [if_pos rfl]
      go_enter Tryd.func147, Tryd.ntmps147
      go_wp2
      refine bodyPost_ret (results_two rfl _ _ w.heap.size (.int .i64 0) (.int .i64 n) _ rfl (by simp [go_sem]) (by simp [go_sem]) Tryd.underlying26 rfl (by kernel_rfl)) rfl ?_
      exact ⟨rfl, (Below.refl _ _).alloc (Nat.le_refl _) _⟩
    · rw [if_neg hz]
      go_enter Tryd.func147, Tryd.ntmps147
      go_wp2_with (go_at_call 162; refine (modulo_any n m (by omega) (by omega) _).mono ?_; rintro e w' ⟨rfl, rfl⟩)
      refine bodyPost_ret (results_two rfl _ _ w.heap.size (.int .i64 m) (.int .i64 (n % m)) _ rfl (by simp [go_sem]) (by simp [go_sem]) Tryd.underlying26 rfl (by kernel_rfl)) rfl ?_
      exact ⟨rfl, (Below.refl _ _).alloc (Nat.le_refl _) _⟩
  · have g0 := gcd9_gt (a := m) (b := 65536) (.inr (by omega))
    have g1 := gcd9_le_right m (b := 65536) (by omega)
    have e : make9 m n = (gcd9 m 65536, n % gcd9 m 65536) := by
      have es : small9 m = gcd9 m 65536 := by unfold small9; rw [if_pos (by omega)]
      unfold make9; rw [es, if_neg (by omega)]
    rw [e]
    generalize hg : gcd9 m 65536 = g at *
    go_enter Tryd.func147, Tryd.ntmps147
    obtain ⟨W, hW, H⟩ := Hd.two w (.int .i64 0) (.int .i64 0) (.int .i64 m) (.int .i64 65536) 26 3
    have c0 := H.get (b := w.heap.size + 1) (o := 0) (v := .int .i64 m) (by simp)
    have c1 := H.get (b := w.heap.size + 1) (o := 1) (v := .int .i64 65536) (by simp)
    have cl := H.lt (b := w.heap.size + 1) (o := 0) (v := .int .i64 m) (by simp)
    go_wp2_with (first | (go_at_call 148; rw [← hW]; refine (iGcd_two (w.heap.size + 1) m 65536 W cl c0 c1 (by omega) (by omega)).mono ?_; rintro e w' ⟨rfl, hb⟩; rw [hg]; replace H := H.call hb; have r0 := H.get (b := w.heap.size) (o := 0) (v := .int .i64 0) (by simp); have r1 := H.get (b := w.heap.size) (o := 1) (v := .int .i64 0) (by simp); have z0 := H.fz (b := w.heap.size) (o := 0) (v := .int .i64 0) (by simp); have z1 := H.fz (b := w.heap.size) (o := 1) (v := .int .i64 0) (by simp)) | (go_at_call 162; refine (modulo_any n g (by omega) (by omega) _).mono ?_; rintro e w' ⟨rfl, rfl⟩))
    obtain ⟨f0, f1, fb⟩ := H.fill (b := w.heap.size) (x := .int .i64 0) (y := .int .i64 0) (by simp) (by simp) (by omega) (.int .i64 g) (.int .i64 (n % g))
    refine bodyPost_ret (results_two rfl _ _ (w.heap.size) (.int .i64 g) (.int .i64 (n % g)) _ rfl f0 f1 Tryd.underlying26 rfl (by kernel_rfl)) rfl ?_
    exact ⟨rfl, fb⟩
end Go.Proofs.YthbbgkpkijlclaaDoor.num
