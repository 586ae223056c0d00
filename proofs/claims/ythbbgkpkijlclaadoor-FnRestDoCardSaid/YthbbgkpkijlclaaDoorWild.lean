/-
  A number that may be beyond 32 bits (the model's wild).
-/
import Derived.Test.YthbbgkpkijlclaaDoorOp
namespace Go.Proofs.YthbbgkpkijlclaaDoor.num
open Go.ChangeShapes Go.WideShapes Go.ChangeAt Go.RowKit
set_option linter.unusedVariables false
theorem wild_st (w0 w : World) (r B : Nat) (h : St w0 r B w) (hk : B ≤ 900000000000) :
    Calls Tryd.prog 141 #[.pointer (some ⟨r, 0, none⟩)] w fun e w' => ∃ v : Int, e = .returned (.int .i64 v) ∧ St w0 r (B + 7) w' := by
  go_enter Tryd.func141, Tryd.ntmps141
  go_wp2_with (first | (go_at_call 109; refine (pick_st _ _ _ _ _ h (by omega) (by omega) (by omega)).mono ?_; rintro e wx ⟨v, rfl, v0, v1, h⟩) | (go_at_call 140; refine (num_st _ _ _ _ h (by omega)).mono ?_; rintro e wx ⟨v, rfl, v0, v1, h⟩))
  all_goals go_ret
  all_goals exact ⟨_, rfl, h.more (by omega)⟩
end Go.Proofs.YthbbgkpkijlclaaDoor.num
