/-
  Contracts of the two comparisons: each computes the same Bool and leaves the world as it was.
-/
import Derived.Test.YtfkmnbldadpaaaaDoorP0
namespace Go.Proofs.YtfkmnbldadpaaaaDoor.num
open Go.ChangeShapes Go.WideShapes Go.ChangeAt Go.RowKit
set_option linter.unusedVariables false
/-- Whether a comparison holds of two numbers. -/
def cmpB (c a b : Int) : Bool :=
  if c = 1 then a == b else if c = 2 then a != b else if c = 3 then decide (a < b) else if c = 4 then decide (a ≤ b)
  else if c = 5 then decide (b < a) else if c = 6 then decide (b ≤ a) else false
theorem specCmp_any (c a b : Int) (w : World) :
    Calls Tryd.prog 8 #[.int .i64 c, .int .i64 a, .int .i64 b] w fun e w' => e = .returned (.bool (cmpB c a b)) ∧ w' = w := by
  go_enter Tryd.func8, Tryd.ntmps8
  go_wp2
  all_goals go_ret
  all_goals (refine ⟨ret_bool ?_, rfl⟩; simp_all [cmpB])
theorem implCmp_any (c a b : Int) (w : World) :
    Calls Tryd.prog 7 #[.int .i64 c, .int .i64 a, .int .i64 b] w fun e w' => e = .returned (.bool (cmpB c a b)) ∧ w' = w := by
  go_enter Tryd.func7, Tryd.ntmps7
  go_wp2
  all_goals go_ret
  all_goals (refine ⟨ret_bool ?_, rfl⟩; simp_all [cmpB])
end Go.Proofs.YtfkmnbldadpaaaaDoor.num
