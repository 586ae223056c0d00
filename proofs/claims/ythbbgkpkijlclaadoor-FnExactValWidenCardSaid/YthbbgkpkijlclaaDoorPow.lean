/-
  The model's l1Mod, NumWrap and l1Power: each computes and leaves the world as it was.
-/
import Derived.Test.YthbbgkpkijlclaaDoorP0
namespace Go.Proofs.YthbbgkpkijlclaaDoor.num
open Go.ChangeShapes Go.WideShapes Go.ChangeAt Go.RowKit
set_option linter.unusedVariables false
theorem l1Mod_any (a m : Int) (hm : 0 < m) (hm2 : m ≤ 9223372036854775807) (w : World) :
    Calls Tryd.prog 92 #[.int .i64 a, .int .i64 m] w fun e w' => e = .returned (.int .i64 (a % m)) ∧ w' = w := by
  have hm3 : ¬ m = 0 := by omega
  go_enter Tryd.func92, Tryd.ntmps92
  go_wp2
  all_goals go_ret
  · refine ⟨ret_int ?_, rfl⟩
    have h1 : a.tmod m < 0 := by assumption
    have h2 := Int.emod_nonneg a (show m ≠ 0 by omega)
    have h3 := Int.emod_lt_of_pos a hm
    rw [tmod_neg hm h1]
    exact w64_id (by omega) (by omega)
  · exact ⟨ret_int (tmod_pos hm ‹_›), rfl⟩
theorem specWrap_any (v : Int) (w : World) :
    Calls Tryd.prog 96 #[.int .i64 v] w fun e w' => e = .returned (.int .i64 (wrap32 v)) ∧ w' = w := by
  have h2 := Int.emod_nonneg v (show (4294967296 : Int) ≠ 0 by omega)
  have h3 := Int.emod_lt_of_pos v (show (0 : Int) < 4294967296 by omega)
  go_enter Tryd.func96, Tryd.ntmps96
  go_wp2_with (go_at_call 92; refine (l1Mod_any _ _ (by omega) (by omega) _).mono ?_; rintro e w' ⟨rfl, rfl⟩)
  all_goals go_ret
  · exact ⟨ret_int (w32_gt (by omega)), rfl⟩
  · exact ⟨ret_int (w32_le (by omega)), rfl⟩
theorem l1Power_any (n : Int) (h0 : 0 ≤ n) (h1 : n ≤ 31) (w : World) :
    Calls Tryd.prog 159 #[.int .i64 n] w fun e w' => e = .returned (.int .i64 (2 ^ n.toNat)) ∧ w' = w := by
  obtain ⟨m, rfl⟩ := Int.eq_ofNat_of_zero_le h0
  rw [Int.toNat_natCast]
  go_enter Tryd.func159, Tryd.ntmps159
  go_wp2
  go_loop [3, 4] (fun p i => ∃ k : Nat, k ≤ m ∧ i = .int .i64 k ∧ p = .int .i64 (2 ^ k)) (fun _ i => m - (intOf i).toNat)
  case atStart => exact ⟨0, Nat.zero_le _, rfl, rfl⟩
  case round =>
    obtain ⟨k, hk, rfl, rfl⟩ := hrel
    have hp := two_pow_le k 31 (by omega)
    have hp0 := two_pow_pos k
    have e31 : (2 : Int) ^ 31 = 2147483648 := by decide
    have hp1 : (2 : Int) ^ k ≤ 2147483648 := by omega
    clear hp e31
    by_cases hlt : k < m
    · go_wp2
      go_round
      case rel => exact ⟨k + 1, by omega, by go_num, congrArg (Value.int IntKind.i64) (by rw [Int.pow_succ]; omega)⟩
      case measure => simp [intOf]; omega
    · have hkm : k = m := by omega
      subst hkm
      go_wp2
      go_ret
      exact ⟨rfl, rfl⟩
end Go.Proofs.YthbbgkpkijlclaaDoor.num
