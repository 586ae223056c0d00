/-
  Contracts of the two comparisons: each computes the same Bool and leaves the world as it was.
-/
import Derived.Test.YtfkmnbldadpaaaaBase
namespace Go.Proofs.Ytfkmnbldadpaaaa.num
open Go.ChangeShapes Go.WideShapes Go.ChangeAt Go.RowKit

/-- Whether a comparison holds of two numbers. -/
def cmpB (c a b : Int) : Bool :=
  if c = 1 then a == b else if c = 2 then a != b else if c = 3 then decide (a < b) else if c = 4 then decide (a ≤ b)
  else if c = 5 then decide (b < a) else if c = 6 then decide (b ≤ a) else false

theorem specCmp_any (c a b : Int) (w : World) :
    Calls Try.prog 18 #[.int .i64 c, .int .i64 a, .int .i64 b] w fun e w' => e = .returned (.bool (cmpB c a b)) ∧ w' = w := by
  go_enter Try.func18, Try.ntmps18
  go_wp2
  all_goals go_ret
  all_goals (refine ⟨ret_bool ?_, rfl⟩; simp_all [cmpB])
theorem implCmp_any (c a b : Int) (w : World) :
    Calls Try.prog 19 #[.int .i64 c, .int .i64 a, .int .i64 b] w fun e w' => e = .returned (.bool (cmpB c a b)) ∧ w' = w := by
  go_enter Try.func19, Try.ntmps19
  go_wp2
  all_goals go_ret
  all_goals (refine ⟨ret_bool ?_, rfl⟩; simp_all [cmpB])
end Go.Proofs.Ytfkmnbldadpaaaa.num
