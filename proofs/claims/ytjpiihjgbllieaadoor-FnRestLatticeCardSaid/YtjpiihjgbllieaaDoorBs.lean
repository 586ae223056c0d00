/-
  Small functions of numbers, of both sides: each computes and leaves the world as it was.
-/
import Derived.Test.YtjpiihjgbllieaaDoorPow
namespace Go.Proofs.YtjpiihjgbllieaaDoor.num
open Go.ChangeShapes Go.WideShapes Go.ChangeAt Go.RowKit
set_option linter.unusedVariables false

theorem wrapWidth_any (v : Int) (w : World) :
    Calls Tryd.prog 159 #[.int .i64 v] w fun e w' => e = .returned (.int .i64 (wrap32 v)) ∧ w' = w := by
  go_enter Tryd.func159, Tryd.ntmps159
  go_wp2
  go_ret
  exact ⟨ret_int (w64_w32 v), rfl⟩
theorem fits_any (v : Int) (w : World) :
    Calls Tryd.prog 138 #[.int .i64 v] w fun e w' => e = .returned (.bool (okB v)) ∧ w' = w := by
  go_enter Tryd.func138, Tryd.ntmps138
  go_wp2_with (go_at_call 159; refine (wrapWidth_any _ _).mono ?_; rintro e w' ⟨rfl, rfl⟩)
  go_ret
  exact ⟨ret_bool (w32_eq_iff v), rfl⟩
theorem implOk_any (v : Int) (w : World) :
    Calls Tryd.prog 68 #[.int .i64 v] w fun e w' => e = .returned (.bool (okB v)) ∧ w' = w := by
  go_enter Tryd.func68, Tryd.ntmps68
  go_wp2_with (go_at_call 138; refine (fits_any _ _).mono ?_; rintro e w' ⟨rfl, rfl⟩)
  go_ret
  exact ⟨rfl, rfl⟩
theorem implWrap_any (v : Int) (w : World) :
    Calls Tryd.prog 107 #[.int .i64 v] w fun e w' => e = .returned (.int .i64 (wrap32 v)) ∧ w' = w := by
  go_enter Tryd.func107, Tryd.ntmps107
  go_wp2_with (go_at_call 159; refine (wrapWidth_any _ _).mono ?_; rintro e w' ⟨rfl, rfl⟩)
  go_ret
  exact ⟨rfl, rfl⟩

theorem l1In_any (n lo hi : Int) (w : World) :
    Calls Tryd.prog 62 #[.int .i64 n, .int .i64 lo, .int .i64 hi] w fun e w' => e = .returned (.bool (inB n lo hi)) ∧ w' = w := by
  go_enter Tryd.func62, Tryd.ntmps62
  go_wp2
  all_goals go_ret
  · exact ⟨ret_bool (inB_le ‹_›), rfl⟩
  · exact ⟨ret_bool (inB_lt ‹_›), rfl⟩
theorem specOk_any (v : Int) (w : World) :
    Calls Tryd.prog 50 #[.int .i64 v] w fun e w' => e = .returned (.bool (okB v)) ∧ w' = w := by
  go_enter Tryd.func50, Tryd.ntmps50
  go_wp2_with (go_at_call 62; refine (l1In_any _ _ _ _).mono ?_; rintro e w' ⟨rfl, rfl⟩)
  go_ret
  exact ⟨rfl, rfl⟩

end Go.Proofs.YtjpiihjgbllieaaDoor.num
