/-
  DERIVED. GIVEN WITH THE SEED: THE PROGRAM's TIES (one call each: nine closed facts by the kernel) AND EACH ROW's TIE, after the 31st guide's Derived/Test/Toyas{Tie, Card}.lean. No idea stands in it: it is a product of the set-up. Laid BY PROGRAM, IN A SANDBOX (cutbox-door.mjs). By AI agents, Wed Nov 11 2026. No macro, syntax, notation, axiom, sorry.
-/
import Derived.Test.YthbbgkpkijlclaaDoorRows
import Derived.LaidByTextLater
import Derived.SevenTiedAt
import Derived.LaidSub
import Derived.LaidOnce
namespace Go.Proofs.YthbbgkpkijlclaaDoor
open Go
set_option maxRecDepth 100000
theorem seatTie1 : Tryd.prog.laidByTextLater [("loop.example/sedge/impl.valNone", Rows.laid_loop_example_sedge_impl_valNone), ("loop.example/sedge/impl.cmpTurned", Rows.laid_loop_example_sedge_impl_cmpTurned), ("loop.example/sedge/impl.rangeNone", Rows.laid_loop_example_sedge_impl_rangeNone), ("loop.example/sedge/impl.rangeAll", Rows.laid_loop_example_sedge_impl_rangeAll), ("loop.example/sedge/impl.rangeBelow0", Rows.laid_loop_example_sedge_impl_rangeBelow0), ("loop.example/sedge/impl.rangeAbove0", Rows.laid_loop_example_sedge_impl_rangeAbove0), ("loop.example/sedge/impl.rangeShifts", Rows.laid_loop_example_sedge_impl_rangeShifts), ("loop.example/sedge/impl.restAll", Rows.laid_loop_example_sedge_impl_restAll)] [.data, .data, .data, .data, .data, .data, .wider, .data] true :=
  Program.laidByTextLater_by_one 49 8 8 (by kernel_rfl) (by kernel_rfl) (by kernel_rfl) (by kernel_rfl) (by kernel_rfl) (by kernel_rfl) (fun _ _ => by kernel_rfl)
theorem noOwnUnsafe : Tryd.pinned.checked.prog.headLifts.contains "ownunsafe" = false := by kernel_rfl
theorem tie : Tryd.prog.laidByTextLater [("loop.example/sedge/impl.valNone", Rows.laid_loop_example_sedge_impl_valNone), ("loop.example/sedge/impl.rangeNone", Rows.laid_loop_example_sedge_impl_rangeNone)] [.data, .data] true :=
  Program.laidByTextLater.sub seatTie1 ["loop.example/sedge/impl.valNone", "loop.example/sedge/impl.rangeNone"] (by kernel_rfl) (by kernel_rfl)
theorem fnValMake_row_tie : Rows.fnValMakeRow.laidByTextAt .later Tryd.pinned [.data, .data] true :=
  OpenClaim.laidByTextAt_later rfl rfl tie noOwnUnsafe
theorem fnExactValMake_row_tie : Rows.fnExactValMakeRow.laidByTextAt .later Tryd.pinned [.data, .data] true :=
  OpenClaim.laidByTextAt_later rfl rfl tie noOwnUnsafe
theorem fnExactValOk_row_tie : Rows.fnExactValOkRow.laidByTextAt .later Tryd.pinned [.data, .data] true :=
  OpenClaim.laidByTextAt_later rfl rfl tie noOwnUnsafe
theorem fnExactValHas_row_tie : Rows.fnExactValHasRow.laidByTextAt .later Tryd.pinned [.data, .data] true :=
  OpenClaim.laidByTextAt_later rfl rfl tie noOwnUnsafe
theorem fnExactValIn_row_tie : Rows.fnExactValInRow.laidByTextAt .later Tryd.pinned [.data, .data] true :=
  OpenClaim.laidByTextAt_later rfl rfl tie noOwnUnsafe
theorem fnExactValMeet_row_tie : Rows.fnExactValMeetRow.laidByTextAt .later Tryd.pinned [.data, .data] true :=
  OpenClaim.laidByTextAt_later rfl rfl tie noOwnUnsafe
theorem tie2 : Tryd.prog.laidByTextLater [("loop.example/sedge/impl.valNone", Rows.laid_loop_example_sedge_impl_valNone), ("loop.example/sedge/impl.rangeNone", Rows.laid_loop_example_sedge_impl_rangeNone), ("loop.example/sedge/impl.restAll", Rows.laid_loop_example_sedge_impl_restAll)] [.data, .data, .data] true :=
  Program.laidByTextLater.sub seatTie1 ["loop.example/sedge/impl.valNone", "loop.example/sedge/impl.rangeNone", "loop.example/sedge/impl.restAll"] (by kernel_rfl) (by kernel_rfl)
theorem fnValLattice_row_tie : Rows.fnValLatticeRow.laidByTextAt .later Tryd.pinned [.data, .data, .data] true :=
  OpenClaim.laidByTextAt_later rfl rfl tie2 noOwnUnsafe
theorem fnExactValJoin_row_tie : Rows.fnExactValJoinRow.laidByTextAt .later Tryd.pinned [.data, .data, .data] true :=
  OpenClaim.laidByTextAt_later rfl rfl tie2 noOwnUnsafe
theorem fnExactValWiden_row_tie : Rows.fnExactValWidenRow.laidByTextAt .later Tryd.pinned [.data, .data, .data] true :=
  OpenClaim.laidByTextAt_later rfl rfl tie2 noOwnUnsafe
theorem tie3 : Tryd.prog.laidByTextLater [("loop.example/sedge/impl.valNone", Rows.laid_loop_example_sedge_impl_valNone), ("loop.example/sedge/impl.cmpTurned", Rows.laid_loop_example_sedge_impl_cmpTurned), ("loop.example/sedge/impl.rangeNone", Rows.laid_loop_example_sedge_impl_rangeNone)] [.data, .data, .data] true :=
  Program.laidByTextLater.sub seatTie1 ["loop.example/sedge/impl.valNone", "loop.example/sedge/impl.cmpTurned", "loop.example/sedge/impl.rangeNone"] (by kernel_rfl) (by kernel_rfl)
theorem fnValCmp_row_tie : Rows.fnValCmpRow.laidByTextAt .later Tryd.pinned [.data, .data, .data] true :=
  OpenClaim.laidByTextAt_later rfl rfl tie3 noOwnUnsafe
theorem fnExactValCmp_row_tie : Rows.fnExactValCmpRow.laidByTextAt .later Tryd.pinned [.data, .data, .data] true :=
  OpenClaim.laidByTextAt_later rfl rfl tie3 noOwnUnsafe
theorem tie4 : Tryd.prog.laidByTextLater [("loop.example/sedge/impl.rangeNone", Rows.laid_loop_example_sedge_impl_rangeNone), ("loop.example/sedge/impl.rangeAll", Rows.laid_loop_example_sedge_impl_rangeAll), ("loop.example/sedge/impl.rangeBelow0", Rows.laid_loop_example_sedge_impl_rangeBelow0), ("loop.example/sedge/impl.rangeAbove0", Rows.laid_loop_example_sedge_impl_rangeAbove0), ("loop.example/sedge/impl.rangeShifts", Rows.laid_loop_example_sedge_impl_rangeShifts)] [.data, .data, .data, .data, .wider] true :=
  Program.laidByTextLater.sub seatTie1 ["loop.example/sedge/impl.rangeNone", "loop.example/sedge/impl.rangeAll", "loop.example/sedge/impl.rangeBelow0", "loop.example/sedge/impl.rangeAbove0", "loop.example/sedge/impl.rangeShifts"] (by kernel_rfl) (by kernel_rfl)
theorem fnExactRangeDo_row_tie : Rows.fnExactRangeDoRow.laidByTextAt .later Tryd.pinned [.data, .data, .data, .data, .wider] true :=
  OpenClaim.laidByTextAt_later rfl rfl tie4 noOwnUnsafe
theorem fnRangeDo_row_tie : Rows.fnRangeDoRow.laidByTextAt .later Tryd.pinned [.data, .data, .data, .data, .wider] true :=
  OpenClaim.laidByTextAt_later rfl rfl tie4 noOwnUnsafe
theorem fnRangeOne_row_tie : Rows.fnRangeOneRow.laidByTextAt .later Tryd.pinned [.data, .data, .data, .data, .wider] true :=
  OpenClaim.laidByTextAt_later rfl rfl tie4 noOwnUnsafe
theorem fnRangeFaults_row_tie : Rows.fnRangeFaultsRow.laidByTextAt .later Tryd.pinned [.data, .data, .data, .data, .wider] true :=
  OpenClaim.laidByTextAt_later rfl rfl tie4 noOwnUnsafe
theorem fnRangeMore_row_tie : Rows.fnRangeMoreRow.laidByTextAt .later Tryd.pinned [.data, .data, .data, .data, .wider] true :=
  OpenClaim.laidByTextAt_later rfl rfl tie4 noOwnUnsafe
theorem tie5 : Tryd.prog.laidByTextLater [("loop.example/sedge/impl.restAll", Rows.laid_loop_example_sedge_impl_restAll)] [.data] true :=
  Program.laidByTextLater.sub seatTie1 ["loop.example/sedge/impl.restAll"] (by kernel_rfl) (by kernel_rfl)
theorem fnRestLattice_row_tie : Rows.fnRestLatticeRow.laidByTextAt .later Tryd.pinned [.data] true :=
  OpenClaim.laidByTextAt_later rfl rfl tie5 noOwnUnsafe
theorem tie6 : Tryd.prog.laidByTextLater [("loop.example/sedge/impl.rangeShifts", Rows.laid_loop_example_sedge_impl_rangeShifts), ("loop.example/sedge/impl.restAll", Rows.laid_loop_example_sedge_impl_restAll)] [.wider, .data] true :=
  Program.laidByTextLater.sub seatTie1 ["loop.example/sedge/impl.rangeShifts", "loop.example/sedge/impl.restAll"] (by kernel_rfl) (by kernel_rfl)
theorem fnRestDo_row_tie : Rows.fnRestDoRow.laidByTextAt .later Tryd.pinned [.wider, .data] true :=
  OpenClaim.laidByTextAt_later rfl rfl tie6 noOwnUnsafe
theorem fnValMakeUpto_row_tie : Rows.fnValMakeUptoRow.laidByTextAt .later Tryd.pinned [.data, .data] true :=
  OpenClaim.laidByTextAt_later rfl rfl tie noOwnUnsafe
theorem fnValLatticeUpto_row_tie : Rows.fnValLatticeUptoRow.laidByTextAt .later Tryd.pinned [.data, .data, .data] true :=
  OpenClaim.laidByTextAt_later rfl rfl tie2 noOwnUnsafe
theorem fnValCmpUpto_row_tie : Rows.fnValCmpUptoRow.laidByTextAt .later Tryd.pinned [.data, .data, .data] true :=
  OpenClaim.laidByTextAt_later rfl rfl tie3 noOwnUnsafe
theorem fnExactValMakeUpto_row_tie : Rows.fnExactValMakeUptoRow.laidByTextAt .later Tryd.pinned [.data, .data] true :=
  OpenClaim.laidByTextAt_later rfl rfl tie noOwnUnsafe
theorem fnExactValOkUpto_row_tie : Rows.fnExactValOkUptoRow.laidByTextAt .later Tryd.pinned [.data, .data] true :=
  OpenClaim.laidByTextAt_later rfl rfl tie noOwnUnsafe
theorem fnExactValHasUpto_row_tie : Rows.fnExactValHasUptoRow.laidByTextAt .later Tryd.pinned [.data, .data] true :=
  OpenClaim.laidByTextAt_later rfl rfl tie noOwnUnsafe
theorem fnExactValInUpto_row_tie : Rows.fnExactValInUptoRow.laidByTextAt .later Tryd.pinned [.data, .data] true :=
  OpenClaim.laidByTextAt_later rfl rfl tie noOwnUnsafe
theorem fnExactValJoinUpto_row_tie : Rows.fnExactValJoinUptoRow.laidByTextAt .later Tryd.pinned [.data, .data, .data] true :=
  OpenClaim.laidByTextAt_later rfl rfl tie2 noOwnUnsafe
theorem fnExactValMeetUpto_row_tie : Rows.fnExactValMeetUptoRow.laidByTextAt .later Tryd.pinned [.data, .data] true :=
  OpenClaim.laidByTextAt_later rfl rfl tie noOwnUnsafe
theorem fnExactValWidenUpto_row_tie : Rows.fnExactValWidenUptoRow.laidByTextAt .later Tryd.pinned [.data, .data, .data] true :=
  OpenClaim.laidByTextAt_later rfl rfl tie2 noOwnUnsafe
theorem fnExactValCmpUpto_row_tie : Rows.fnExactValCmpUptoRow.laidByTextAt .later Tryd.pinned [.data, .data, .data] true :=
  OpenClaim.laidByTextAt_later rfl rfl tie3 noOwnUnsafe
theorem fnExactRangeDoUpto_row_tie : Rows.fnExactRangeDoUptoRow.laidByTextAt .later Tryd.pinned [.data, .data, .data, .data, .wider] true :=
  OpenClaim.laidByTextAt_later rfl rfl tie4 noOwnUnsafe
theorem fnRangeDoUpto_row_tie : Rows.fnRangeDoUptoRow.laidByTextAt .later Tryd.pinned [.data, .data, .data, .data, .wider] true :=
  OpenClaim.laidByTextAt_later rfl rfl tie4 noOwnUnsafe
theorem fnRangeOneUpto_row_tie : Rows.fnRangeOneUptoRow.laidByTextAt .later Tryd.pinned [.data, .data, .data, .data, .wider] true :=
  OpenClaim.laidByTextAt_later rfl rfl tie4 noOwnUnsafe
theorem fnRangeFaultsUpto_row_tie : Rows.fnRangeFaultsUptoRow.laidByTextAt .later Tryd.pinned [.data, .data, .data, .data, .wider] true :=
  OpenClaim.laidByTextAt_later rfl rfl tie4 noOwnUnsafe
theorem fnRangeMoreUpto_row_tie : Rows.fnRangeMoreUptoRow.laidByTextAt .later Tryd.pinned [.data, .data, .data, .data, .wider] true :=
  OpenClaim.laidByTextAt_later rfl rfl tie4 noOwnUnsafe
theorem fnRestLatticeUpto_row_tie : Rows.fnRestLatticeUptoRow.laidByTextAt .later Tryd.pinned [.data] true :=
  OpenClaim.laidByTextAt_later rfl rfl tie5 noOwnUnsafe
theorem fnRestDoUpto_row_tie : Rows.fnRestDoUptoRow.laidByTextAt .later Tryd.pinned [.wider, .data] true :=
  OpenClaim.laidByTextAt_later rfl rfl tie6 noOwnUnsafe
end Go.Proofs.YthbbgkpkijlclaaDoor
