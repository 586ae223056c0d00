/-
  The model's l8Wrapped, l8Rem, l8Mask.
-/
import Derived.Test.YtjjglklbfigmiaaDoorSg
namespace Go.Proofs.YtjjglklbfigmiaaDoor.num
open Go.ChangeShapes Go.WideShapes Go.ChangeAt Go.RowKit
set_option linter.unusedVariables false


set_option maxRecDepth 100000 in
set_option maxHeartbeats 4000000 in
theorem l8Wrapped_any (lo hi : Int) (hd : -9223372036854775808 ≤ hi - lo ∧ hi - lo ≤ 9223372036854775807) (w : World) :
    Calls Tryd.prog 75 #[.int .i64 lo, .int .i64 hi] w fun e w' => e = .returned (.agg #[.int .i64 (wrapped8 lo hi).1, .int .i64 (wrapped8 lo hi).2]) ∧ Below w.heap.size w w' := by
  have hw : wrap64 (hi - lo) = hi - lo := w64_id hd.1 hd.2
  by_cases q1 : 4294967295 < hi - lo
  · have e : wrapped8 lo hi = (-2147483648, 2147483647) := by unfold wrapped8; rw [if_pos (.inl q1)]
    rw [e]
    go_enter Tryd.func75, Tryd.ntmps75
    go_wp2_with (go_at_call 52; refine (specWrap_any _ _).mono ?_; rintro e w' ⟨rfl, rfl⟩)
    refine bodyPost_ret (results_two rfl _ _ w.heap.size (.int .i64 (-2147483648)) (.int .i64 2147483647) _ rfl (by simp [go_sem]) (by simp [go_sem]) Tryd.underlying25 rfl (by kernel_rfl)) rfl ?_
    exact ⟨rfl, (Below.refl _ _).alloc (Nat.le_refl _) _⟩
  · by_cases q2 : wrap32 hi < wrap32 lo
    · have e : wrapped8 lo hi = (-2147483648, 2147483647) := by unfold wrapped8; rw [if_pos (.inr q2)]
      rw [e]
      go_enter Tryd.func75, Tryd.ntmps75
      go_wp2_with (go_at_call 52; refine (specWrap_any _ _).mono ?_; rintro e w' ⟨rfl, rfl⟩)
      refine bodyPost_ret (results_two rfl _ _ w.heap.size (.int .i64 (-2147483648)) (.int .i64 2147483647) _ rfl (by simp [go_sem]) (by simp [go_sem]) Tryd.underlying25 rfl (by kernel_rfl)) rfl ?_
      exact ⟨rfl, (Below.refl _ _).alloc (Nat.le_refl _) _⟩
    · have e : wrapped8 lo hi = (wrap32 lo, wrap32 hi) := by unfold wrapped8; rw [if_neg (by omega)]
      rw [e]
      go_enter Tryd.func75, Tryd.ntmps75
      go_wp2_with (go_at_call 52; refine (specWrap_any _ _).mono ?_; rintro e w' ⟨rfl, rfl⟩)
      refine bodyPost_ret (results_two rfl _ _ w.heap.size (.int .i64 (wrap32 lo)) (.int .i64 (wrap32 hi)) _ rfl (by simp [go_sem]) (by simp [go_sem]) Tryd.underlying25 rfl (by kernel_rfl)) rfl ?_
      exact ⟨rfl, (Below.refl _ _).alloc (Nat.le_refl _) _⟩
set_option maxRecDepth 100000 in
set_option maxHeartbeats 4000000 in
theorem l8Mask_any (v : Int) (h : v ≤ 2147483647) (w : World) :
    Calls Tryd.prog 106 #[.int .i64 v] w fun e w' => e = .returned (.int .i64 (mask8 v)) ∧ w' = w := by
  go_enter Tryd.func106, Tryd.ntmps106
  go_wp2
  go_loop [3] (fun m => ∃ k : Nat, k ≤ 32 ∧ m = .int .i64 (2 ^ k - 1) ∧ maskF (32 - k) (2 ^ k - 1) v = mask8 v) (fun m => (v - intOf m).toNat)
  case atStart => exact ⟨0, by omega, rfl, rfl⟩
  case round =>
    obtain ⟨k, hk, rfl, hm⟩ := hrel
    have p0 := two_pow_pos k
    by_cases hlt : (2 : Int) ^ k - 1 < v
    · have hk31 : k < 31 := by
        rcases Nat.lt_or_ge k 31 with h' | h'
        · exact h'
        · have p1 := two_pow_le 31 k h'
          have e : (2 : Int) ^ 31 = 2147483648 := by decide
          omega
      have p2 := two_pow_le k 31 (by omega)
      have e31 : (2 : Int) ^ 31 = 2147483648 := by decide
      have p3 : (2 : Int) ^ k ≤ 2147483648 := by omega
      have e2 : 2 * ((2 : Int) ^ k - 1) + 1 = 2 ^ (k + 1) - 1 := by rw [Int.pow_succ]; omega
      have hm2 : maskF (32 - (k + 1)) (2 ^ (k + 1) - 1) v = mask8 v := by
        rw [← hm]
        obtain ⟨n, hn⟩ : ∃ n, 32 - k = n + 1 := ⟨31 - k, by omega⟩
        rw [hn, show 32 - (k + 1) = n by omega]
        show _ = if (2 : Int) ^ k - 1 < v then maskF n (2 * (2 ^ k - 1) + 1) v else 2 ^ k - 1
        rw [if_pos hlt, e2]
      clear p2 e31 hm h
      go_wp2
      refine ⟨⟨k + 1, by omega, ?_, hm2⟩, by simp [intOf]; omega⟩
      rw [← e2]
    · have hm2 : mask8 v = 2 ^ k - 1 := by
        rw [← hm]
        cases h32 : 32 - k with
        | zero => rfl
        | succ n =>
          show (if (2 : Int) ^ k - 1 < v then maskF n (2 * (2 ^ k - 1) + 1) v else 2 ^ k - 1) = _
          rw [if_neg hlt]
      clear hm
      have HM := hide hm2
      clear hm2
      go_wp2
      go_ret
      exact ⟨ret_int (unhide HM).symm, rfl⟩
set_option maxRecDepth 100000 in
set_option maxHeartbeats 4000000 in
theorem l8Rem_any (x y l h : Int) (hl : -4611686018427387904 ≤ l ∧ l ≤ 4611686018427387904) (hh : -4611686018427387904 ≤ h ∧ h ≤ 4611686018427387904) (w : World) :
    Calls Tryd.prog 104 #[.agg #[.int .i64 x, .int .i64 y], .int .i64 l, .int .i64 h] w fun e w' => e = .returned (.agg #[.int .i64 (rem8 (x, y) l h).1, .int .i64 (rem8 (x, y) l h).2]) ∧ Below w.heap.size w w' := by
  by_cases q1 : -l < x
  · by_cases q2 : y < l
    · have e : rem8 (x, y) l h = (x, y) := by unfold rem8; rw [if_pos ⟨q1, q2⟩]
      rw [e]
      go_enter Tryd.func104, Tryd.ntmps104
      go_wp2
      refine bodyPost_ret (results_two rfl _ _ (w.heap.size + 1) (.int .i64 x) (.int .i64 y) _ rfl (by first | rfl | (simp [go_sem]; done)) (by first | rfl | (simp [go_sem]; done)) Tryd.underlying25 rfl (by kernel_rfl)) rfl ?_
      exact ⟨rfl, (((Below.refl _ _).alloc (Nat.le_refl _) _).alloc (by simp; try omega) _)⟩
    · skip
      by_cases a1 : x < 0
      · by_cases a2 : 0 < y
        · have e : rem8 (x, y) l h = ((max x (1 - h)), (min y (h - 1))) := by unfold rem8; rw [if_neg (by simp only; omega)]; simp only; rw [if_pos a1, if_pos a2]
          rw [e]
          go_enter Tryd.func104, Tryd.ntmps104
          go_wp2_with (first | (go_at_call 61; refine (l8Min_any _ _ _).mono ?_; rintro e w' ⟨rfl, rfl⟩) | (go_at_call 62; refine (l8Max_any _ _ _).mono ?_; rintro e w' ⟨rfl, rfl⟩))
          refine bodyPost_ret (results_two rfl _ _ (w.heap.size + 1) (.int .i64 (max x (1 - h))) (.int .i64 (min y (h - 1))) _ rfl (by first | rfl | (simp [go_sem]; done)) (by first | rfl | (simp [go_sem]; done)) Tryd.underlying25 rfl (by kernel_rfl)) rfl ?_
          exact ⟨rfl, ((((Below.refl _ _).alloc (Nat.le_refl _) _).alloc (by simp; try omega) _).alloc (by simp; try omega) _)⟩
        · exfalso; omega
      · by_cases a2 : 0 < y
        · have e : rem8 (x, y) l h = (0, (min y (h - 1))) := by unfold rem8; rw [if_neg (by simp only; omega)]; simp only; rw [if_neg a1, if_pos a2]
          rw [e]
          go_enter Tryd.func104, Tryd.ntmps104
          go_wp2_with (first | (go_at_call 61; refine (l8Min_any _ _ _).mono ?_; rintro e w' ⟨rfl, rfl⟩) | (go_at_call 62; refine (l8Max_any _ _ _).mono ?_; rintro e w' ⟨rfl, rfl⟩))
          refine bodyPost_ret (results_two rfl _ _ (w.heap.size + 1) (.int .i64 0) (.int .i64 (min y (h - 1))) _ rfl (by first | rfl | (simp [go_sem]; done)) (by first | rfl | (simp [go_sem]; done)) Tryd.underlying25 rfl (by kernel_rfl)) rfl ?_
          exact ⟨rfl, ((((Below.refl _ _).alloc (Nat.le_refl _) _).alloc (by simp; try omega) _).alloc (by simp; try omega) _)⟩
        · have e : rem8 (x, y) l h = (0, 0) := by unfold rem8; rw [if_neg (by simp only; omega)]; simp only; rw [if_neg a1, if_neg a2]
          rw [e]
          go_enter Tryd.func104, Tryd.ntmps104
          go_wp2_with (first | (go_at_call 61; refine (l8Min_any _ _ _).mono ?_; rintro e w' ⟨rfl, rfl⟩) | (go_at_call 62; refine (l8Max_any _ _ _).mono ?_; rintro e w' ⟨rfl, rfl⟩))
          refine bodyPost_ret (results_two rfl _ _ (w.heap.size + 1) (.int .i64 0) (.int .i64 0) _ rfl (by first | rfl | (simp [go_sem]; done)) (by first | rfl | (simp [go_sem]; done)) Tryd.underlying25 rfl (by kernel_rfl)) rfl ?_
          exact ⟨rfl, ((((Below.refl _ _).alloc (Nat.le_refl _) _).alloc (by simp; try omega) _).alloc (by simp; try omega) _)⟩
  · skip
    by_cases a1 : x < 0
    · by_cases a2 : 0 < y
      · have e : rem8 (x, y) l h = ((max x (1 - h)), (min y (h - 1))) := by unfold rem8; rw [if_neg (by simp only; omega)]; simp only; rw [if_pos a1, if_pos a2]
        rw [e]
        go_enter Tryd.func104, Tryd.ntmps104
        go_wp2_with (first | (go_at_call 61; refine (l8Min_any _ _ _).mono ?_; rintro e w' ⟨rfl, rfl⟩) | (go_at_call 62; refine (l8Max_any _ _ _).mono ?_; rintro e w' ⟨rfl, rfl⟩))
        refine bodyPost_ret (results_two rfl _ _ (w.heap.size + 1) (.int .i64 (max x (1 - h))) (.int .i64 (min y (h - 1))) _ rfl (by first | rfl | (simp [go_sem]; done)) (by first | rfl | (simp [go_sem]; done)) Tryd.underlying25 rfl (by kernel_rfl)) rfl ?_
        exact ⟨rfl, ((((Below.refl _ _).alloc (Nat.le_refl _) _).alloc (by simp; try omega) _).alloc (by simp; try omega) _)⟩
      · have e : rem8 (x, y) l h = ((max x (1 - h)), 0) := by unfold rem8; rw [if_neg (by simp only; omega)]; simp only; rw [if_pos a1, if_neg a2]
        rw [e]
        go_enter Tryd.func104, Tryd.ntmps104
        go_wp2_with (first | (go_at_call 61; refine (l8Min_any _ _ _).mono ?_; rintro e w' ⟨rfl, rfl⟩) | (go_at_call 62; refine (l8Max_any _ _ _).mono ?_; rintro e w' ⟨rfl, rfl⟩))
        refine bodyPost_ret (results_two rfl _ _ (w.heap.size + 1) (.int .i64 (max x (1 - h))) (.int .i64 0) _ rfl (by first | rfl | (simp [go_sem]; done)) (by first | rfl | (simp [go_sem]; done)) Tryd.underlying25 rfl (by kernel_rfl)) rfl ?_
        exact ⟨rfl, ((((Below.refl _ _).alloc (Nat.le_refl _) _).alloc (by simp; try omega) _).alloc (by simp; try omega) _)⟩
    · by_cases a2 : 0 < y
      · have e : rem8 (x, y) l h = (0, (min y (h - 1))) := by unfold rem8; rw [if_neg (by simp only; omega)]; simp only; rw [if_neg a1, if_pos a2]
        rw [e]
        go_enter Tryd.func104, Tryd.ntmps104
        go_wp2_with (first | (go_at_call 61; refine (l8Min_any _ _ _).mono ?_; rintro e w' ⟨rfl, rfl⟩) | (go_at_call 62; refine (l8Max_any _ _ _).mono ?_; rintro e w' ⟨rfl, rfl⟩))
        refine bodyPost_ret (results_two rfl _ _ (w.heap.size + 1) (.int .i64 0) (.int .i64 (min y (h - 1))) _ rfl (by first | rfl | (simp [go_sem]; done)) (by first | rfl | (simp [go_sem]; done)) Tryd.underlying25 rfl (by kernel_rfl)) rfl ?_
        exact ⟨rfl, ((((Below.refl _ _).alloc (Nat.le_refl _) _).alloc (by simp; try omega) _).alloc (by simp; try omega) _)⟩
      · have e : rem8 (x, y) l h = (0, 0) := by unfold rem8; rw [if_neg (by simp only; omega)]; simp only; rw [if_neg a1, if_neg a2]
        rw [e]
        go_enter Tryd.func104, Tryd.ntmps104
        go_wp2_with (first | (go_at_call 61; refine (l8Min_any _ _ _).mono ?_; rintro e w' ⟨rfl, rfl⟩) | (go_at_call 62; refine (l8Max_any _ _ _).mono ?_; rintro e w' ⟨rfl, rfl⟩))
        refine bodyPost_ret (results_two rfl _ _ (w.heap.size + 1) (.int .i64 0) (.int .i64 0) _ rfl (by first | rfl | (simp [go_sem]; done)) (by first | rfl | (simp [go_sem]; done)) Tryd.underlying25 rfl (by kernel_rfl)) rfl ?_
        exact ⟨rfl, ((((Below.refl _ _).alloc (Nat.le_refl _) _).alloc (by simp; try omega) _).alloc (by simp; try omega) _)⟩
end Go.Proofs.YtjjglklbfigmiaaDoor.num
