/-
  DrawNumDo: three numbers, old memory kept.
-/
import Derived.Test.YtjpiihjgbllieaaWild
import Derived.Test.YtjpiihjgbllieaaAt8
namespace Go.Proofs.Ytjpiihjgbllieaa.num
open Go.ChangeShapes Go.WideShapes Go.ChangeAt Go.RowKit
set_option linter.unusedVariables false
theorem drawDo_any (w : World) (a : Option Addr) (len cap : Nat) (h : Code8 w a len) (hl : len ≤ cap) (hm : cap ≤ 9223372036854775807) :
    Calls Try.prog 18 #[.slice a len cap] w fun e w' => ∃ o x y : Int, e = .returned (.tuple #[.int .i64 o, .int .i64 x, .int .i64 y]) ∧ Below w.heap.size w w' := by
  have H := hide h
  clear h
  go_enter Try.func18, Try.ntmps18
  go_wp2_with fail
  refine (open_any _ _ _ _ (unhide H) hl hm).mono ?_
  rintro e wx ⟨rfl, h⟩
  clear H
  go_wp2_with (first | (go_at_call 32; refine (pick_st _ _ _ _ _ h (by omega) (by omega) (by omega)).mono ?_; rintro e wx ⟨v, rfl, v0, v1, h⟩) | (go_at_call 33; refine (num_st _ _ _ _ h (by omega)).mono ?_; rintro e wx ⟨v, rfl, v0, v1, h⟩) | (go_at_call 34; refine (wild_st _ _ _ _ h (by omega)).mono ?_; rintro e wx ⟨v, rfl, h⟩))
  all_goals go_ret3
  all_goals exact ⟨_, _, _, rfl, h.below⟩
end Go.Proofs.Ytjpiihjgbllieaa.num
