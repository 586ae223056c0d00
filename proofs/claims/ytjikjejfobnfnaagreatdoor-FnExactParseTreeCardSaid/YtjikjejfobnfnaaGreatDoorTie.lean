/-
  DERIVED. GIVEN WITH THE SEED: THE PROGRAM's TIES (one call each: nine closed facts by the kernel) AND EACH ROW's TIE, after the 31st guide's Derived/Test/Toyas{Tie, Card}.lean. No idea stands in it: it is a product of the set-up. Laid BY PROGRAM, IN A SANDBOX (cutbox-door.mjs). By AI agents, Wed Nov 11 2026. No macro, syntax, notation, axiom, sorry.
-/
import Derived.Test.YtjikjejfobnfnaaGreatDoorRows
import Derived.LaidByTextLater
import Derived.SevenTiedAt
import Derived.LaidSub
import Derived.LaidOnce
namespace Go.Proofs.YtjikjejfobnfnaaGreatDoor
open Go
set_option maxRecDepth 100000
theorem seatTie1 : Tryz.prog.laidByTextLater [("math/bits.deBruijn32tab", Rows.laid_math_bits_deBruijn32tab), ("math/bits.deBruijn64tab", Rows.laid_math_bits_deBruijn64tab), ("internal/strconv.uint64pow10", Rows.laid_internal_strconv_uint64pow10), ("errors.errorType", Rows.laid_errors_errorType), ("loop.example/sedge/impl.lexSigns", Rows.laid_loop_example_sedge_impl_lexSigns), ("loop.example/sedge/impl.operators", Rows.laid_loop_example_sedge_impl_operators), ("loop.example/sedge/impl.comparisons", Rows.laid_loop_example_sedge_impl_comparisons)] [.data, .data, .data, .handle, .data, .data, .data] true :=
  Program.laidByTextLater_by_one 59 8 65 (by kernel_rfl) (by kernel_rfl) (by kernel_rfl) (by kernel_rfl) (by kernel_rfl) (by kernel_rfl) (fun _ _ => by kernel_rfl)
theorem noOwnUnsafe : Tryz.pinned.checked.prog.headLifts.contains "ownunsafe" = false := by kernel_rfl
theorem tie : Tryz.prog.laidByTextLater [("math/bits.deBruijn32tab", Rows.laid_math_bits_deBruijn32tab), ("math/bits.deBruijn64tab", Rows.laid_math_bits_deBruijn64tab), ("internal/strconv.uint64pow10", Rows.laid_internal_strconv_uint64pow10), ("errors.errorType", Rows.laid_errors_errorType), ("loop.example/sedge/impl.lexSigns", Rows.laid_loop_example_sedge_impl_lexSigns), ("loop.example/sedge/impl.operators", Rows.laid_loop_example_sedge_impl_operators), ("loop.example/sedge/impl.comparisons", Rows.laid_loop_example_sedge_impl_comparisons)] [.data, .data, .data, .handle, .data, .data, .data] true :=
  Program.laidByTextLater.sub seatTie1 ["math/bits.deBruijn32tab", "math/bits.deBruijn64tab", "internal/strconv.uint64pow10", "errors.errorType", "loop.example/sedge/impl.lexSigns", "loop.example/sedge/impl.operators", "loop.example/sedge/impl.comparisons"] (by kernel_rfl) (by kernel_rfl)
theorem fnParseBack_row_tie : Rows.fnParseBackRow.laidByTextAt .later Tryz.pinned [.data, .data, .data, .handle, .data, .data, .data] true :=
  OpenClaim.laidByTextAt_later rfl rfl tie noOwnUnsafe
theorem fnExactParsePrint_row_tie : Rows.fnExactParsePrintRow.laidByTextAt .later Tryz.pinned [.data, .data, .data, .handle, .data, .data, .data] true :=
  OpenClaim.laidByTextAt_later rfl rfl tie noOwnUnsafe
theorem tie2 : Tryz.prog.laidByTextLater [("errors.errorType", Rows.laid_errors_errorType), ("loop.example/sedge/impl.lexSigns", Rows.laid_loop_example_sedge_impl_lexSigns), ("loop.example/sedge/impl.operators", Rows.laid_loop_example_sedge_impl_operators), ("loop.example/sedge/impl.comparisons", Rows.laid_loop_example_sedge_impl_comparisons)] [.handle, .data, .data, .data] true :=
  Program.laidByTextLater.sub seatTie1 ["errors.errorType", "loop.example/sedge/impl.lexSigns", "loop.example/sedge/impl.operators", "loop.example/sedge/impl.comparisons"] (by kernel_rfl) (by kernel_rfl)
theorem fnParseTree_row_tie : Rows.fnParseTreeRow.laidByTextAt .later Tryz.pinned [.handle, .data, .data, .data] true :=
  OpenClaim.laidByTextAt_later rfl rfl tie2 noOwnUnsafe
theorem fnExactParseTree_row_tie : Rows.fnExactParseTreeRow.laidByTextAt .later Tryz.pinned [.handle, .data, .data, .data] true :=
  OpenClaim.laidByTextAt_later rfl rfl tie2 noOwnUnsafe
theorem fnParseBackUpto_row_tie : Rows.fnParseBackUptoRow.laidByTextAt .later Tryz.pinned [.data, .data, .data, .handle, .data, .data, .data] true :=
  OpenClaim.laidByTextAt_later rfl rfl tie noOwnUnsafe
theorem fnParseTreeUpto_row_tie : Rows.fnParseTreeUptoRow.laidByTextAt .later Tryz.pinned [.handle, .data, .data, .data] true :=
  OpenClaim.laidByTextAt_later rfl rfl tie2 noOwnUnsafe
theorem fnExactParseTreeUpto_row_tie : Rows.fnExactParseTreeUptoRow.laidByTextAt .later Tryz.pinned [.handle, .data, .data, .data] true :=
  OpenClaim.laidByTextAt_later rfl rfl tie2 noOwnUnsafe
theorem fnExactParsePrintUpto_row_tie : Rows.fnExactParsePrintUptoRow.laidByTextAt .later Tryz.pinned [.data, .data, .data, .handle, .data, .data, .data] true :=
  OpenClaim.laidByTextAt_later rfl rfl tie noOwnUnsafe
end Go.Proofs.YtjikjejfobnfnaaGreatDoor
