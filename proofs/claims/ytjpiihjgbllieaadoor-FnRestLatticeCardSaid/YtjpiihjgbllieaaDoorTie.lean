/-
  DERIVED. GIVEN WITH THE SEED: THE PROGRAM's TIES (one call each: nine closed facts by the kernel) AND EACH ROW's TIE, after the 31st guide's Derived/Test/Toyas{Tie, Card}.lean. No idea stands in it: it is a product of the set-up. Laid BY PROGRAM, IN A SANDBOX (cutbox-door.mjs). By AI agents, Wed Nov 11 2026. No macro, syntax, notation, axiom, sorry.
-/
import Derived.Test.YtjpiihjgbllieaaDoorRows
import Derived.LaidByTextLater
import Derived.SevenTiedAt
import Derived.LaidSub
import Derived.LaidOnce
namespace Go.Proofs.YtjpiihjgbllieaaDoor
open Go
set_option maxRecDepth 100000
theorem seatTie1 : Tryd.prog.laidByTextLater [("loop.example/sedge/impl.cmpTurned", Rows.laid_loop_example_sedge_impl_cmpTurned), ("loop.example/sedge/impl.rangeNone", Rows.laid_loop_example_sedge_impl_rangeNone), ("loop.example/sedge/impl.rangeAll", Rows.laid_loop_example_sedge_impl_rangeAll), ("loop.example/sedge/impl.rangeBelow0", Rows.laid_loop_example_sedge_impl_rangeBelow0), ("loop.example/sedge/impl.rangeAbove0", Rows.laid_loop_example_sedge_impl_rangeAbove0), ("loop.example/sedge/impl.rangeShifts", Rows.laid_loop_example_sedge_impl_rangeShifts), ("loop.example/sedge/impl.restAll", Rows.laid_loop_example_sedge_impl_restAll)] [.data, .data, .data, .data, .data, .wider, .data] true :=
  Program.laidByTextLater_by_one 44 8 8 (by kernel_rfl) (by kernel_rfl) (by kernel_rfl) (by kernel_rfl) (by kernel_rfl) (by kernel_rfl) (fun _ _ => by kernel_rfl)
theorem noOwnUnsafe : Tryd.pinned.checked.prog.headLifts.contains "ownunsafe" = false := by kernel_rfl
theorem tie : Tryd.prog.laidByTextLater [("loop.example/sedge/impl.rangeShifts", Rows.laid_loop_example_sedge_impl_rangeShifts), ("loop.example/sedge/impl.restAll", Rows.laid_loop_example_sedge_impl_restAll)] [.wider, .data] true :=
  Program.laidByTextLater.sub seatTie1 ["loop.example/sedge/impl.rangeShifts", "loop.example/sedge/impl.restAll"] (by kernel_rfl) (by kernel_rfl)
theorem fnRestDo_row_tie : Rows.fnRestDoRow.laidByTextAt .later Tryd.pinned [.wider, .data] true :=
  OpenClaim.laidByTextAt_later rfl rfl tie noOwnUnsafe
theorem fnExactRestDo_row_tie : Rows.fnExactRestDoRow.laidByTextAt .later Tryd.pinned [.wider, .data] true :=
  OpenClaim.laidByTextAt_later rfl rfl tie noOwnUnsafe
theorem tie2 : Tryd.prog.laidByTextLater [("loop.example/sedge/impl.restAll", Rows.laid_loop_example_sedge_impl_restAll)] [.data] true :=
  Program.laidByTextLater.sub seatTie1 ["loop.example/sedge/impl.restAll"] (by kernel_rfl) (by kernel_rfl)
theorem fnRestLattice_row_tie : Rows.fnRestLatticeRow.laidByTextAt .later Tryd.pinned [.data] true :=
  OpenClaim.laidByTextAt_later rfl rfl tie2 noOwnUnsafe
theorem fnExactRestIn_row_tie : Rows.fnExactRestInRow.laidByTextAt .later Tryd.pinned [.data] true :=
  OpenClaim.laidByTextAt_later rfl rfl tie2 noOwnUnsafe
theorem fnExactRestJoin_row_tie : Rows.fnExactRestJoinRow.laidByTextAt .later Tryd.pinned [.data] true :=
  OpenClaim.laidByTextAt_later rfl rfl tie2 noOwnUnsafe
theorem tie3 : Tryd.prog.laidByTextLater [("loop.example/sedge/impl.rangeNone", Rows.laid_loop_example_sedge_impl_rangeNone), ("loop.example/sedge/impl.rangeAll", Rows.laid_loop_example_sedge_impl_rangeAll), ("loop.example/sedge/impl.rangeBelow0", Rows.laid_loop_example_sedge_impl_rangeBelow0), ("loop.example/sedge/impl.rangeAbove0", Rows.laid_loop_example_sedge_impl_rangeAbove0), ("loop.example/sedge/impl.rangeShifts", Rows.laid_loop_example_sedge_impl_rangeShifts)] [.data, .data, .data, .data, .wider] true :=
  Program.laidByTextLater.sub seatTie1 ["loop.example/sedge/impl.rangeNone", "loop.example/sedge/impl.rangeAll", "loop.example/sedge/impl.rangeBelow0", "loop.example/sedge/impl.rangeAbove0", "loop.example/sedge/impl.rangeShifts"] (by kernel_rfl) (by kernel_rfl)
theorem fnExactRangeDo_row_tie : Rows.fnExactRangeDoRow.laidByTextAt .later Tryd.pinned [.data, .data, .data, .data, .wider] true :=
  OpenClaim.laidByTextAt_later rfl rfl tie3 noOwnUnsafe
theorem fnRangeDo_row_tie : Rows.fnRangeDoRow.laidByTextAt .later Tryd.pinned [.data, .data, .data, .data, .wider] true :=
  OpenClaim.laidByTextAt_later rfl rfl tie3 noOwnUnsafe
theorem fnRangeOne_row_tie : Rows.fnRangeOneRow.laidByTextAt .later Tryd.pinned [.data, .data, .data, .data, .wider] true :=
  OpenClaim.laidByTextAt_later rfl rfl tie3 noOwnUnsafe
theorem fnRangeFaults_row_tie : Rows.fnRangeFaultsRow.laidByTextAt .later Tryd.pinned [.data, .data, .data, .data, .wider] true :=
  OpenClaim.laidByTextAt_later rfl rfl tie3 noOwnUnsafe
theorem fnRangeMore_row_tie : Rows.fnRangeMoreRow.laidByTextAt .later Tryd.pinned [.data, .data, .data, .data, .wider] true :=
  OpenClaim.laidByTextAt_later rfl rfl tie3 noOwnUnsafe
theorem tie4 : Tryd.prog.laidByTextLater [("loop.example/sedge/impl.cmpTurned", Rows.laid_loop_example_sedge_impl_cmpTurned), ("loop.example/sedge/impl.rangeNone", Rows.laid_loop_example_sedge_impl_rangeNone)] [.data, .data] true :=
  Program.laidByTextLater.sub seatTie1 ["loop.example/sedge/impl.cmpTurned", "loop.example/sedge/impl.rangeNone"] (by kernel_rfl) (by kernel_rfl)
theorem fnExactRangeCmp_row_tie : Rows.fnExactRangeCmpRow.laidByTextAt .later Tryd.pinned [.data, .data] true :=
  OpenClaim.laidByTextAt_later rfl rfl tie4 noOwnUnsafe
theorem fnRestDoUpto_row_tie : Rows.fnRestDoUptoRow.laidByTextAt .later Tryd.pinned [.wider, .data] true :=
  OpenClaim.laidByTextAt_later rfl rfl tie noOwnUnsafe
theorem fnRestLatticeUpto_row_tie : Rows.fnRestLatticeUptoRow.laidByTextAt .later Tryd.pinned [.data] true :=
  OpenClaim.laidByTextAt_later rfl rfl tie2 noOwnUnsafe
theorem fnExactRestInUpto_row_tie : Rows.fnExactRestInUptoRow.laidByTextAt .later Tryd.pinned [.data] true :=
  OpenClaim.laidByTextAt_later rfl rfl tie2 noOwnUnsafe
theorem fnExactRestJoinUpto_row_tie : Rows.fnExactRestJoinUptoRow.laidByTextAt .later Tryd.pinned [.data] true :=
  OpenClaim.laidByTextAt_later rfl rfl tie2 noOwnUnsafe
theorem fnExactRestDoUpto_row_tie : Rows.fnExactRestDoUptoRow.laidByTextAt .later Tryd.pinned [.wider, .data] true :=
  OpenClaim.laidByTextAt_later rfl rfl tie noOwnUnsafe
theorem fnExactRangeDoUpto_row_tie : Rows.fnExactRangeDoUptoRow.laidByTextAt .later Tryd.pinned [.data, .data, .data, .data, .wider] true :=
  OpenClaim.laidByTextAt_later rfl rfl tie3 noOwnUnsafe
theorem fnExactRangeCmpUpto_row_tie : Rows.fnExactRangeCmpUptoRow.laidByTextAt .later Tryd.pinned [.data, .data] true :=
  OpenClaim.laidByTextAt_later rfl rfl tie4 noOwnUnsafe
theorem fnRangeDoUpto_row_tie : Rows.fnRangeDoUptoRow.laidByTextAt .later Tryd.pinned [.data, .data, .data, .data, .wider] true :=
  OpenClaim.laidByTextAt_later rfl rfl tie3 noOwnUnsafe
theorem fnRangeOneUpto_row_tie : Rows.fnRangeOneUptoRow.laidByTextAt .later Tryd.pinned [.data, .data, .data, .data, .wider] true :=
  OpenClaim.laidByTextAt_later rfl rfl tie3 noOwnUnsafe
theorem fnRangeFaultsUpto_row_tie : Rows.fnRangeFaultsUptoRow.laidByTextAt .later Tryd.pinned [.data, .data, .data, .data, .wider] true :=
  OpenClaim.laidByTextAt_later rfl rfl tie3 noOwnUnsafe
theorem fnRangeMoreUpto_row_tie : Rows.fnRangeMoreUptoRow.laidByTextAt .later Tryd.pinned [.data, .data, .data, .data, .wider] true :=
  OpenClaim.laidByTextAt_later rfl rfl tie3 noOwnUnsafe
end Go.Proofs.YtjpiihjgbllieaaDoor
