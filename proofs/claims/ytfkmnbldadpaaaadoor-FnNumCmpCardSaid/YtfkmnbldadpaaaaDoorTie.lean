/-
  DERIVED. GIVEN WITH THE SEED: THE PROGRAM's TIES (one call each: nine closed facts by the kernel) AND EACH ROW's TIE, after the 31st guide's Derived/Test/Toyas{Tie, Card}.lean. No idea stands in it: it is a product of the set-up. Laid BY PROGRAM, IN A SANDBOX (cutbox-door.mjs). By AI agents, Wed Nov 11 2026. No macro, syntax, notation, axiom, sorry.
-/
import Derived.Test.YtfkmnbldadpaaaaDoorRows
import Derived.LaidByTextLater
import Derived.SevenTiedAt
import Derived.LaidSub
import Derived.LaidOnce
namespace Go.Proofs.YtfkmnbldadpaaaaDoor
open Go
set_option maxRecDepth 100000
theorem seatTie1 : Tryd.prog.laidByTextLater [("loop.example/sedge/impl.cmpOpposites", Rows.laid_loop_example_sedge_impl_cmpOpposites), ("loop.example/sedge/impl.cmpTurned", Rows.laid_loop_example_sedge_impl_cmpTurned)] [.data, .data] true :=
  Program.laidByTextLater_by_one 19 8 8 (by kernel_rfl) (by kernel_rfl) (by kernel_rfl) (by kernel_rfl) (by kernel_rfl) (by kernel_rfl) (fun _ _ => by kernel_rfl)
theorem noOwnUnsafe : Tryd.pinned.checked.prog.headLifts.contains "ownunsafe" = false := by kernel_rfl
theorem tie : Tryd.prog.laidByTextLater [("loop.example/sedge/impl.cmpOpposites", Rows.laid_loop_example_sedge_impl_cmpOpposites), ("loop.example/sedge/impl.cmpTurned", Rows.laid_loop_example_sedge_impl_cmpTurned)] [.data, .data] true :=
  Program.laidByTextLater.sub seatTie1 ["loop.example/sedge/impl.cmpOpposites", "loop.example/sedge/impl.cmpTurned"] (by kernel_rfl) (by kernel_rfl)
theorem fnNumCmp_row_tie : Rows.fnNumCmpRow.laidByTextAt .later Tryd.pinned [.data, .data] true :=
  OpenClaim.laidByTextAt_later rfl rfl tie noOwnUnsafe
theorem tie2 : Tryd.prog.laidByTextLater [("loop.example/sedge/impl.cmpOpposites", Rows.laid_loop_example_sedge_impl_cmpOpposites)] [.data] true :=
  Program.laidByTextLater.sub seatTie1 ["loop.example/sedge/impl.cmpOpposites"] (by kernel_rfl) (by kernel_rfl)
theorem fnExactCmpNot_row_tie : Rows.fnExactCmpNotRow.laidByTextAt .later Tryd.pinned [.data] true :=
  OpenClaim.laidByTextAt_later rfl rfl tie2 noOwnUnsafe
theorem tie3 : Tryd.prog.laidByTextLater [("loop.example/sedge/impl.cmpTurned", Rows.laid_loop_example_sedge_impl_cmpTurned)] [.data] true :=
  Program.laidByTextLater.sub seatTie1 ["loop.example/sedge/impl.cmpTurned"] (by kernel_rfl) (by kernel_rfl)
theorem fnExactCmpTurn_row_tie : Rows.fnExactCmpTurnRow.laidByTextAt .later Tryd.pinned [.data] true :=
  OpenClaim.laidByTextAt_later rfl rfl tie3 noOwnUnsafe
theorem fnNumCmpUpto_row_tie : Rows.fnNumCmpUptoRow.laidByTextAt .later Tryd.pinned [.data, .data] true :=
  OpenClaim.laidByTextAt_later rfl rfl tie noOwnUnsafe
theorem fnExactCmpNotUpto_row_tie : Rows.fnExactCmpNotUptoRow.laidByTextAt .later Tryd.pinned [.data] true :=
  OpenClaim.laidByTextAt_later rfl rfl tie2 noOwnUnsafe
theorem fnExactCmpTurnUpto_row_tie : Rows.fnExactCmpTurnUptoRow.laidByTextAt .later Tryd.pinned [.data] true :=
  OpenClaim.laidByTextAt_later rfl rfl tie3 noOwnUnsafe
end Go.Proofs.YtfkmnbldadpaaaaDoor
