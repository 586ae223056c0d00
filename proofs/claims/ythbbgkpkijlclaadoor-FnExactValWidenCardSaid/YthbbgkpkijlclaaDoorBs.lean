/-
  Small functions of numbers, of both sides: each computes and leaves the world as it was.
-/
import Derived.Test.YthbbgkpkijlclaaDoorPow
namespace Go.Proofs.YthbbgkpkijlclaaDoor.num
open Go.ChangeShapes Go.WideShapes Go.ChangeAt Go.RowKit
set_option linter.unusedVariables false

theorem wrapWidth_any (v : Int) (w : World) :
    Calls Tryd.prog 201 #[.int .i64 v] w fun e w' => e = .returned (.int .i64 (wrap32 v)) ∧ w' = w := by
  go_enter Tryd.func201, Tryd.ntmps201
  go_wp2
  go_ret
  exact ⟨ret_int (w64_w32 v), rfl⟩
theorem fits_any (v : Int) (w : World) :
    Calls Tryd.prog 200 #[.int .i64 v] w fun e w' => e = .returned (.bool (okB v)) ∧ w' = w := by
  go_enter Tryd.func200, Tryd.ntmps200
  go_wp2_with (go_at_call 201; refine (wrapWidth_any _ _).mono ?_; rintro e w' ⟨rfl, rfl⟩)
  go_ret
  exact ⟨ret_bool (w32_eq_iff v), rfl⟩
theorem implOk_any (v : Int) (w : World) :
    Calls Tryd.prog 132 #[.int .i64 v] w fun e w' => e = .returned (.bool (okB v)) ∧ w' = w := by
  go_enter Tryd.func132, Tryd.ntmps132
  go_wp2_with (go_at_call 200; refine (fits_any _ _).mono ?_; rintro e w' ⟨rfl, rfl⟩)
  go_ret
  exact ⟨rfl, rfl⟩
theorem implWrap_any (v : Int) (w : World) :
    Calls Tryd.prog 135 #[.int .i64 v] w fun e w' => e = .returned (.int .i64 (wrap32 v)) ∧ w' = w := by
  go_enter Tryd.func135, Tryd.ntmps135
  go_wp2_with (go_at_call 201; refine (wrapWidth_any _ _).mono ?_; rintro e w' ⟨rfl, rfl⟩)
  go_ret
  exact ⟨rfl, rfl⟩

theorem l1In_any (n lo hi : Int) (w : World) :
    Calls Tryd.prog 97 #[.int .i64 n, .int .i64 lo, .int .i64 hi] w fun e w' => e = .returned (.bool (inB n lo hi)) ∧ w' = w := by
  go_enter Tryd.func97, Tryd.ntmps97
  go_wp2
  all_goals go_ret
  · exact ⟨ret_bool (inB_le ‹_›), rfl⟩
  · exact ⟨ret_bool (inB_lt ‹_›), rfl⟩
theorem specOk_any (v : Int) (w : World) :
    Calls Tryd.prog 66 #[.int .i64 v] w fun e w' => e = .returned (.bool (okB v)) ∧ w' = w := by
  go_enter Tryd.func66, Tryd.ntmps66
  go_wp2_with (go_at_call 97; refine (l1In_any _ _ _ _).mono ?_; rintro e w' ⟨rfl, rfl⟩)
  go_ret
  exact ⟨rfl, rfl⟩

end Go.Proofs.YthbbgkpkijlclaaDoor.num
