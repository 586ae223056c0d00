/-
  DERIVED. GIVEN WITH THE SEED: THE PROGRAM's TIES (one call each: nine closed facts by the kernel) AND EACH ROW's TIE, after the 31st guide's Derived/Test/Toyas{Tie, Card}.lean. No idea stands in it: it is a product of the set-up. Laid BY PROGRAM, IN A SANDBOX (cutbox-door.mjs). By AI agents, Wed Nov 11 2026. No macro, syntax, notation, axiom, sorry.
-/
import Derived.Test.YtjjglklbfigmiaaDoorRows
import Derived.LaidByTextLater
import Derived.SevenTiedAt
import Derived.LaidSub
import Derived.LaidOnce
namespace Go.Proofs.YtjjglklbfigmiaaDoor
open Go
set_option maxRecDepth 100000
theorem seatTie1 : Tryd.prog.laidByTextLater [("loop.example/sedge/impl.cmpTurned", Rows.laid_loop_example_sedge_impl_cmpTurned), ("loop.example/sedge/impl.rangeNone", Rows.laid_loop_example_sedge_impl_rangeNone), ("loop.example/sedge/impl.rangeAll", Rows.laid_loop_example_sedge_impl_rangeAll), ("loop.example/sedge/impl.rangeBelow0", Rows.laid_loop_example_sedge_impl_rangeBelow0), ("loop.example/sedge/impl.rangeAbove0", Rows.laid_loop_example_sedge_impl_rangeAbove0), ("loop.example/sedge/impl.rangeShifts", Rows.laid_loop_example_sedge_impl_rangeShifts)] [.data, .data, .data, .data, .data, .data] true :=
  Program.laidByTextLater_by_one 39 8 8 (by kernel_rfl) (by kernel_rfl) (by kernel_rfl) (by kernel_rfl) (by kernel_rfl) (by kernel_rfl) (fun _ _ => by kernel_rfl)
theorem noOwnUnsafe : Tryd.pinned.checked.prog.headLifts.contains "ownunsafe" = false := by kernel_rfl
theorem tie : Tryd.prog.laidByTextLater [("loop.example/sedge/impl.rangeNone", Rows.laid_loop_example_sedge_impl_rangeNone)] [.data] true :=
  Program.laidByTextLater.sub seatTie1 ["loop.example/sedge/impl.rangeNone"] (by kernel_rfl) (by kernel_rfl)
theorem fnExactRangeOk_row_tie : Rows.fnExactRangeOkRow.laidByTextAt .later Tryd.pinned [.data] true :=
  OpenClaim.laidByTextAt_later rfl rfl tie noOwnUnsafe
theorem fnExactRangeHas_row_tie : Rows.fnExactRangeHasRow.laidByTextAt .later Tryd.pinned [.data] true :=
  OpenClaim.laidByTextAt_later rfl rfl tie noOwnUnsafe
theorem fnExactRangeIn_row_tie : Rows.fnExactRangeInRow.laidByTextAt .later Tryd.pinned [.data] true :=
  OpenClaim.laidByTextAt_later rfl rfl tie noOwnUnsafe
theorem fnExactRangeJoin_row_tie : Rows.fnExactRangeJoinRow.laidByTextAt .later Tryd.pinned [.data] true :=
  OpenClaim.laidByTextAt_later rfl rfl tie noOwnUnsafe
theorem fnExactRangeMeet_row_tie : Rows.fnExactRangeMeetRow.laidByTextAt .later Tryd.pinned [.data] true :=
  OpenClaim.laidByTextAt_later rfl rfl tie noOwnUnsafe
theorem fnExactRangeWiden_row_tie : Rows.fnExactRangeWidenRow.laidByTextAt .later Tryd.pinned [.data] true :=
  OpenClaim.laidByTextAt_later rfl rfl tie noOwnUnsafe
theorem fnRangeLattice_row_tie : Rows.fnRangeLatticeRow.laidByTextAt .later Tryd.pinned [.data] true :=
  OpenClaim.laidByTextAt_later rfl rfl tie noOwnUnsafe
theorem fnRangeStill_row_tie : Rows.fnRangeStillRow.laidByTextAt .later Tryd.pinned [.data] true :=
  OpenClaim.laidByTextAt_later rfl rfl tie noOwnUnsafe
theorem tie2 : Tryd.prog.laidByTextLater [("loop.example/sedge/impl.rangeNone", Rows.laid_loop_example_sedge_impl_rangeNone), ("loop.example/sedge/impl.rangeAll", Rows.laid_loop_example_sedge_impl_rangeAll), ("loop.example/sedge/impl.rangeBelow0", Rows.laid_loop_example_sedge_impl_rangeBelow0), ("loop.example/sedge/impl.rangeAbove0", Rows.laid_loop_example_sedge_impl_rangeAbove0), ("loop.example/sedge/impl.rangeShifts", Rows.laid_loop_example_sedge_impl_rangeShifts)] [.data, .data, .data, .data, .data] true :=
  Program.laidByTextLater.sub seatTie1 ["loop.example/sedge/impl.rangeNone", "loop.example/sedge/impl.rangeAll", "loop.example/sedge/impl.rangeBelow0", "loop.example/sedge/impl.rangeAbove0", "loop.example/sedge/impl.rangeShifts"] (by kernel_rfl) (by kernel_rfl)
theorem fnExactRangeDo_row_tie : Rows.fnExactRangeDoRow.laidByTextAt .later Tryd.pinned [.data, .data, .data, .data, .data] true :=
  OpenClaim.laidByTextAt_later rfl rfl tie2 noOwnUnsafe
theorem fnRangeDo_row_tie : Rows.fnRangeDoRow.laidByTextAt .later Tryd.pinned [.data, .data, .data, .data, .data] true :=
  OpenClaim.laidByTextAt_later rfl rfl tie2 noOwnUnsafe
theorem fnRangeOne_row_tie : Rows.fnRangeOneRow.laidByTextAt .later Tryd.pinned [.data, .data, .data, .data, .data] true :=
  OpenClaim.laidByTextAt_later rfl rfl tie2 noOwnUnsafe
theorem fnRangeFaults_row_tie : Rows.fnRangeFaultsRow.laidByTextAt .later Tryd.pinned [.data, .data, .data, .data, .data] true :=
  OpenClaim.laidByTextAt_later rfl rfl tie2 noOwnUnsafe
theorem fnRangeMore_row_tie : Rows.fnRangeMoreRow.laidByTextAt .later Tryd.pinned [.data, .data, .data, .data, .data] true :=
  OpenClaim.laidByTextAt_later rfl rfl tie2 noOwnUnsafe
theorem tie3 : Tryd.prog.laidByTextLater [("loop.example/sedge/impl.cmpTurned", Rows.laid_loop_example_sedge_impl_cmpTurned), ("loop.example/sedge/impl.rangeNone", Rows.laid_loop_example_sedge_impl_rangeNone)] [.data, .data] true :=
  Program.laidByTextLater.sub seatTie1 ["loop.example/sedge/impl.cmpTurned", "loop.example/sedge/impl.rangeNone"] (by kernel_rfl) (by kernel_rfl)
theorem fnExactRangeCmp_row_tie : Rows.fnExactRangeCmpRow.laidByTextAt .later Tryd.pinned [.data, .data] true :=
  OpenClaim.laidByTextAt_later rfl rfl tie3 noOwnUnsafe
theorem fnRangeCmp_row_tie : Rows.fnRangeCmpRow.laidByTextAt .later Tryd.pinned [.data, .data] true :=
  OpenClaim.laidByTextAt_later rfl rfl tie3 noOwnUnsafe
theorem fnExactRangeOkUpto_row_tie : Rows.fnExactRangeOkUptoRow.laidByTextAt .later Tryd.pinned [.data] true :=
  OpenClaim.laidByTextAt_later rfl rfl tie noOwnUnsafe
theorem fnExactRangeHasUpto_row_tie : Rows.fnExactRangeHasUptoRow.laidByTextAt .later Tryd.pinned [.data] true :=
  OpenClaim.laidByTextAt_later rfl rfl tie noOwnUnsafe
theorem fnExactRangeInUpto_row_tie : Rows.fnExactRangeInUptoRow.laidByTextAt .later Tryd.pinned [.data] true :=
  OpenClaim.laidByTextAt_later rfl rfl tie noOwnUnsafe
theorem fnExactRangeJoinUpto_row_tie : Rows.fnExactRangeJoinUptoRow.laidByTextAt .later Tryd.pinned [.data] true :=
  OpenClaim.laidByTextAt_later rfl rfl tie noOwnUnsafe
theorem fnExactRangeMeetUpto_row_tie : Rows.fnExactRangeMeetUptoRow.laidByTextAt .later Tryd.pinned [.data] true :=
  OpenClaim.laidByTextAt_later rfl rfl tie noOwnUnsafe
theorem fnExactRangeWidenUpto_row_tie : Rows.fnExactRangeWidenUptoRow.laidByTextAt .later Tryd.pinned [.data] true :=
  OpenClaim.laidByTextAt_later rfl rfl tie noOwnUnsafe
theorem fnExactRangeDoUpto_row_tie : Rows.fnExactRangeDoUptoRow.laidByTextAt .later Tryd.pinned [.data, .data, .data, .data, .data] true :=
  OpenClaim.laidByTextAt_later rfl rfl tie2 noOwnUnsafe
theorem fnExactRangeCmpUpto_row_tie : Rows.fnExactRangeCmpUptoRow.laidByTextAt .later Tryd.pinned [.data, .data] true :=
  OpenClaim.laidByTextAt_later rfl rfl tie3 noOwnUnsafe
theorem fnRangeDoUpto_row_tie : Rows.fnRangeDoUptoRow.laidByTextAt .later Tryd.pinned [.data, .data, .data, .data, .data] true :=
  OpenClaim.laidByTextAt_later rfl rfl tie2 noOwnUnsafe
theorem fnRangeOneUpto_row_tie : Rows.fnRangeOneUptoRow.laidByTextAt .later Tryd.pinned [.data, .data, .data, .data, .data] true :=
  OpenClaim.laidByTextAt_later rfl rfl tie2 noOwnUnsafe
theorem fnRangeFaultsUpto_row_tie : Rows.fnRangeFaultsUptoRow.laidByTextAt .later Tryd.pinned [.data, .data, .data, .data, .data] true :=
  OpenClaim.laidByTextAt_later rfl rfl tie2 noOwnUnsafe
theorem fnRangeLatticeUpto_row_tie : Rows.fnRangeLatticeUptoRow.laidByTextAt .later Tryd.pinned [.data] true :=
  OpenClaim.laidByTextAt_later rfl rfl tie noOwnUnsafe
theorem fnRangeCmpUpto_row_tie : Rows.fnRangeCmpUptoRow.laidByTextAt .later Tryd.pinned [.data, .data] true :=
  OpenClaim.laidByTextAt_later rfl rfl tie3 noOwnUnsafe
theorem fnRangeMoreUpto_row_tie : Rows.fnRangeMoreUptoRow.laidByTextAt .later Tryd.pinned [.data, .data, .data, .data, .data] true :=
  OpenClaim.laidByTextAt_later rfl rfl tie2 noOwnUnsafe
theorem fnRangeStillUpto_row_tie : Rows.fnRangeStillUptoRow.laidByTextAt .later Tryd.pinned [.data] true :=
  OpenClaim.laidByTextAt_later rfl rfl tie noOwnUnsafe
end Go.Proofs.YtjjglklbfigmiaaDoor
