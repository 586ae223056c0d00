/-
  Small functions of numbers, of both sides: each computes and leaves the world as it was.
-/
import Derived.Test.YtjjglklbfigmiaaDoorPow
namespace Go.Proofs.YtjjglklbfigmiaaDoor.num
open Go.ChangeShapes Go.WideShapes Go.ChangeAt Go.RowKit
set_option linter.unusedVariables false

theorem wrapWidth_any (v : Int) (w : World) :
    Calls Tryd.prog 136 #[.int .i64 v] w fun e w' => e = .returned (.int .i64 (wrap32 v)) ∧ w' = w := by
  go_enter Tryd.func136, Tryd.ntmps136
  go_wp2
  go_ret
  exact ⟨ret_int (w64_w32 v), rfl⟩
theorem fits_any (v : Int) (w : World) :
    Calls Tryd.prog 103 #[.int .i64 v] w fun e w' => e = .returned (.bool (okB v)) ∧ w' = w := by
  go_enter Tryd.func103, Tryd.ntmps103
  go_wp2_with (go_at_call 136; refine (wrapWidth_any _ _).mono ?_; rintro e w' ⟨rfl, rfl⟩)
  go_ret
  exact ⟨ret_bool (w32_eq_iff v), rfl⟩
theorem implOk_any (v : Int) (w : World) :
    Calls Tryd.prog 58 #[.int .i64 v] w fun e w' => e = .returned (.bool (okB v)) ∧ w' = w := by
  go_enter Tryd.func58, Tryd.ntmps58
  go_wp2_with (go_at_call 103; refine (fits_any _ _).mono ?_; rintro e w' ⟨rfl, rfl⟩)
  go_ret
  exact ⟨rfl, rfl⟩
theorem implWrap_any (v : Int) (w : World) :
    Calls Tryd.prog 95 #[.int .i64 v] w fun e w' => e = .returned (.int .i64 (wrap32 v)) ∧ w' = w := by
  go_enter Tryd.func95, Tryd.ntmps95
  go_wp2_with (go_at_call 136; refine (wrapWidth_any _ _).mono ?_; rintro e w' ⟨rfl, rfl⟩)
  go_ret
  exact ⟨rfl, rfl⟩

theorem l1In_any (n lo hi : Int) (w : World) :
    Calls Tryd.prog 59 #[.int .i64 n, .int .i64 lo, .int .i64 hi] w fun e w' => e = .returned (.bool (inB n lo hi)) ∧ w' = w := by
  go_enter Tryd.func59, Tryd.ntmps59
  go_wp2
  all_goals go_ret
  · exact ⟨ret_bool (inB_le ‹_›), rfl⟩
  · exact ⟨ret_bool (inB_lt ‹_›), rfl⟩
theorem specOk_any (v : Int) (w : World) :
    Calls Tryd.prog 47 #[.int .i64 v] w fun e w' => e = .returned (.bool (okB v)) ∧ w' = w := by
  go_enter Tryd.func47, Tryd.ntmps47
  go_wp2_with (go_at_call 59; refine (l1In_any _ _ _ _).mono ?_; rintro e w' ⟨rfl, rfl⟩)
  go_ret
  exact ⟨rfl, rfl⟩

end Go.Proofs.YtjjglklbfigmiaaDoor.num
