/-
  DERIVED. GIVEN WITH THE SEED: THE CARDS: each row of YtjpiihjgbllieaaDoorRows.lean that lists a variable, with what it lists TIED to the program's text (the seventh form; the later family's looks); each row that meets fmt, with fmt's text TOLD by the authors' own Lean function (tested against real Go, not proved from fmt's source: count such statements apart). THE CARD IS WHAT COUNTS. Prove the row's statement (the work); the ties are given (YtjpiihjgbllieaaDoorTie.lean); close each card by the builder's one call (the guide's Derived/Test/ToyasCard.lean, 'card_holds'). Laid BY PROGRAM, IN A SANDBOX (cutbox-door.mjs). By AI agents, Wed Nov 11 2026. No macro, syntax, notation, axiom, sorry.
-/
import Derived.Test.YtjpiihjgbllieaaDoorRows
import GoSem.ClaimSeven
namespace Go.Proofs.YtjpiihjgbllieaaDoor
namespace Rows

/-- THE TIED CARD OF 'laws.FnRestDo'. -/
def fnRestDoCard : Claim7 := { stood := { row := fnRestDoRow, standIns := [], harness := (true, "57267f8607b07d94eb62d1e290a3f090d8424ee182b37e5b41c0806d7fddde58"), looks := true }, kinds := [], alts := [], laidByText := true, laidKinds := [.wider, .data], laidTests := true, laidLooks := .later }
def FnRestDoCardSaid : Prop := Claim7.holds Tryd.pinned (.plain (OpenSpec.ofChange fnRestDoSpec)) fnRestDoCard

/-- THE TIED CARD OF 'laws.FnRestLattice'. -/
def fnRestLatticeCard : Claim7 := { stood := { row := fnRestLatticeRow, standIns := [], harness := (true, "57267f8607b07d94eb62d1e290a3f090d8424ee182b37e5b41c0806d7fddde58"), looks := true }, kinds := [], alts := [], laidByText := true, laidKinds := [.data], laidTests := true, laidLooks := .later }
def FnRestLatticeCardSaid : Prop := Claim7.holds Tryd.pinned (.plain (OpenSpec.ofChange fnRestLatticeSpec)) fnRestLatticeCard

/-- THE TIED CARD OF 'laws.FnExactRestIn'. -/
def fnExactRestInCard : Claim7 := { stood := { row := fnExactRestInRow, standIns := [], harness := (true, "57267f8607b07d94eb62d1e290a3f090d8424ee182b37e5b41c0806d7fddde58"), looks := true }, kinds := [], alts := [], laidByText := true, laidKinds := [.data], laidTests := true, laidLooks := .later }
def FnExactRestInCardSaid : Prop := Claim7.holds Tryd.pinned (.plain (OpenSpec.ofChange fnExactRestInSpec)) fnExactRestInCard

/-- THE TIED CARD OF 'laws.FnExactRestJoin'. -/
def fnExactRestJoinCard : Claim7 := { stood := { row := fnExactRestJoinRow, standIns := [], harness := (true, "57267f8607b07d94eb62d1e290a3f090d8424ee182b37e5b41c0806d7fddde58"), looks := true }, kinds := [], alts := [], laidByText := true, laidKinds := [.data], laidTests := true, laidLooks := .later }
def FnExactRestJoinCardSaid : Prop := Claim7.holds Tryd.pinned (.plain (OpenSpec.ofChange fnExactRestJoinSpec)) fnExactRestJoinCard

/-- THE TIED CARD OF 'laws.FnExactRestDo'. -/
def fnExactRestDoCard : Claim7 := { stood := { row := fnExactRestDoRow, standIns := [], harness := (true, "57267f8607b07d94eb62d1e290a3f090d8424ee182b37e5b41c0806d7fddde58"), looks := true }, kinds := [], alts := [], laidByText := true, laidKinds := [.wider, .data], laidTests := true, laidLooks := .later }
def FnExactRestDoCardSaid : Prop := Claim7.holds Tryd.pinned (.plain (OpenSpec.ofChange fnExactRestDoSpec)) fnExactRestDoCard

/-- THE TIED CARD OF 'laws.FnExactRangeDo'. -/
def fnExactRangeDoCard : Claim7 := { stood := { row := fnExactRangeDoRow, standIns := [], harness := (true, "57267f8607b07d94eb62d1e290a3f090d8424ee182b37e5b41c0806d7fddde58"), looks := true }, kinds := [], alts := [], laidByText := true, laidKinds := [.data, .data, .data, .data, .wider], laidTests := true, laidLooks := .later }
def FnExactRangeDoCardSaid : Prop := Claim7.holds Tryd.pinned (.plain (OpenSpec.ofChange fnExactRangeDoSpec)) fnExactRangeDoCard

/-- THE TIED CARD OF 'laws.FnExactRangeCmp'. -/
def fnExactRangeCmpCard : Claim7 := { stood := { row := fnExactRangeCmpRow, standIns := [], harness := (true, "57267f8607b07d94eb62d1e290a3f090d8424ee182b37e5b41c0806d7fddde58"), looks := true }, kinds := [], alts := [], laidByText := true, laidKinds := [.data, .data], laidTests := true, laidLooks := .later }
def FnExactRangeCmpCardSaid : Prop := Claim7.holds Tryd.pinned (.plain (OpenSpec.ofChange fnExactRangeCmpSpec)) fnExactRangeCmpCard

/-- THE TIED CARD OF 'laws.FnRangeDo'. -/
def fnRangeDoCard : Claim7 := { stood := { row := fnRangeDoRow, standIns := [], harness := (true, "57267f8607b07d94eb62d1e290a3f090d8424ee182b37e5b41c0806d7fddde58"), looks := true }, kinds := [], alts := [], laidByText := true, laidKinds := [.data, .data, .data, .data, .wider], laidTests := true, laidLooks := .later }
def FnRangeDoCardSaid : Prop := Claim7.holds Tryd.pinned (.plain (OpenSpec.ofChange fnRangeDoSpec)) fnRangeDoCard

/-- THE TIED CARD OF 'laws.FnRangeOne'. -/
def fnRangeOneCard : Claim7 := { stood := { row := fnRangeOneRow, standIns := [], harness := (true, "57267f8607b07d94eb62d1e290a3f090d8424ee182b37e5b41c0806d7fddde58"), looks := true }, kinds := [], alts := [], laidByText := true, laidKinds := [.data, .data, .data, .data, .wider], laidTests := true, laidLooks := .later }
def FnRangeOneCardSaid : Prop := Claim7.holds Tryd.pinned (.plain (OpenSpec.ofChange fnRangeOneSpec)) fnRangeOneCard

/-- THE TIED CARD OF 'laws.FnRangeFaults'. -/
def fnRangeFaultsCard : Claim7 := { stood := { row := fnRangeFaultsRow, standIns := [], harness := (true, "57267f8607b07d94eb62d1e290a3f090d8424ee182b37e5b41c0806d7fddde58"), looks := true }, kinds := [], alts := [], laidByText := true, laidKinds := [.data, .data, .data, .data, .wider], laidTests := true, laidLooks := .later }
def FnRangeFaultsCardSaid : Prop := Claim7.holds Tryd.pinned (.plain (OpenSpec.ofChange fnRangeFaultsSpec)) fnRangeFaultsCard

/-- THE TIED CARD OF 'laws.FnRangeMore'. -/
def fnRangeMoreCard : Claim7 := { stood := { row := fnRangeMoreRow, standIns := [], harness := (true, "57267f8607b07d94eb62d1e290a3f090d8424ee182b37e5b41c0806d7fddde58"), looks := true }, kinds := [], alts := [], laidByText := true, laidKinds := [.data, .data, .data, .data, .wider], laidTests := true, laidLooks := .later }
def FnRangeMoreCardSaid : Prop := Claim7.holds Tryd.pinned (.plain (OpenSpec.ofChange fnRangeMoreSpec)) fnRangeMoreCard

/-- THE SECOND FORM's CARD OF 'laws.FnRestDo'. -/
def fnRestDoUptoCard : Claim7 := { stood := { row := fnRestDoUptoRow, standIns := [], harness := (true, "57267f8607b07d94eb62d1e290a3f090d8424ee182b37e5b41c0806d7fddde58"), looks := true }, kinds := [], alts := [], laidByText := true, laidKinds := [.wider, .data], laidTests := true, laidLooks := .later }
def FnRestDoUptoCardSaid : Prop := Claim7.holds Tryd.pinned (.plain (OpenSpec.upto fnRestDoSpec)) fnRestDoUptoCard

/-- THE SECOND FORM's CARD OF 'laws.FnRestLattice'. -/
def fnRestLatticeUptoCard : Claim7 := { stood := { row := fnRestLatticeUptoRow, standIns := [], harness := (true, "57267f8607b07d94eb62d1e290a3f090d8424ee182b37e5b41c0806d7fddde58"), looks := true }, kinds := [], alts := [], laidByText := true, laidKinds := [.data], laidTests := true, laidLooks := .later }
def FnRestLatticeUptoCardSaid : Prop := Claim7.holds Tryd.pinned (.plain (OpenSpec.upto fnRestLatticeSpec)) fnRestLatticeUptoCard

/-- THE SECOND FORM's CARD OF 'laws.FnExactRestIn'. -/
def fnExactRestInUptoCard : Claim7 := { stood := { row := fnExactRestInUptoRow, standIns := [], harness := (true, "57267f8607b07d94eb62d1e290a3f090d8424ee182b37e5b41c0806d7fddde58"), looks := true }, kinds := [], alts := [], laidByText := true, laidKinds := [.data], laidTests := true, laidLooks := .later }
def FnExactRestInUptoCardSaid : Prop := Claim7.holds Tryd.pinned (.plain (OpenSpec.upto fnExactRestInSpec)) fnExactRestInUptoCard

/-- THE SECOND FORM's CARD OF 'laws.FnExactRestJoin'. -/
def fnExactRestJoinUptoCard : Claim7 := { stood := { row := fnExactRestJoinUptoRow, standIns := [], harness := (true, "57267f8607b07d94eb62d1e290a3f090d8424ee182b37e5b41c0806d7fddde58"), looks := true }, kinds := [], alts := [], laidByText := true, laidKinds := [.data], laidTests := true, laidLooks := .later }
def FnExactRestJoinUptoCardSaid : Prop := Claim7.holds Tryd.pinned (.plain (OpenSpec.upto fnExactRestJoinSpec)) fnExactRestJoinUptoCard

/-- THE SECOND FORM's CARD OF 'laws.FnExactRestDo'. -/
def fnExactRestDoUptoCard : Claim7 := { stood := { row := fnExactRestDoUptoRow, standIns := [], harness := (true, "57267f8607b07d94eb62d1e290a3f090d8424ee182b37e5b41c0806d7fddde58"), looks := true }, kinds := [], alts := [], laidByText := true, laidKinds := [.wider, .data], laidTests := true, laidLooks := .later }
def FnExactRestDoUptoCardSaid : Prop := Claim7.holds Tryd.pinned (.plain (OpenSpec.upto fnExactRestDoSpec)) fnExactRestDoUptoCard

/-- THE SECOND FORM's CARD OF 'laws.FnExactRangeDo'. -/
def fnExactRangeDoUptoCard : Claim7 := { stood := { row := fnExactRangeDoUptoRow, standIns := [], harness := (true, "57267f8607b07d94eb62d1e290a3f090d8424ee182b37e5b41c0806d7fddde58"), looks := true }, kinds := [], alts := [], laidByText := true, laidKinds := [.data, .data, .data, .data, .wider], laidTests := true, laidLooks := .later }
def FnExactRangeDoUptoCardSaid : Prop := Claim7.holds Tryd.pinned (.plain (OpenSpec.upto fnExactRangeDoSpec)) fnExactRangeDoUptoCard

/-- THE SECOND FORM's CARD OF 'laws.FnExactRangeCmp'. -/
def fnExactRangeCmpUptoCard : Claim7 := { stood := { row := fnExactRangeCmpUptoRow, standIns := [], harness := (true, "57267f8607b07d94eb62d1e290a3f090d8424ee182b37e5b41c0806d7fddde58"), looks := true }, kinds := [], alts := [], laidByText := true, laidKinds := [.data, .data], laidTests := true, laidLooks := .later }
def FnExactRangeCmpUptoCardSaid : Prop := Claim7.holds Tryd.pinned (.plain (OpenSpec.upto fnExactRangeCmpSpec)) fnExactRangeCmpUptoCard

/-- THE SECOND FORM's CARD OF 'laws.FnRangeDo'. -/
def fnRangeDoUptoCard : Claim7 := { stood := { row := fnRangeDoUptoRow, standIns := [], harness := (true, "57267f8607b07d94eb62d1e290a3f090d8424ee182b37e5b41c0806d7fddde58"), looks := true }, kinds := [], alts := [], laidByText := true, laidKinds := [.data, .data, .data, .data, .wider], laidTests := true, laidLooks := .later }
def FnRangeDoUptoCardSaid : Prop := Claim7.holds Tryd.pinned (.plain (OpenSpec.upto fnRangeDoSpec)) fnRangeDoUptoCard

/-- THE SECOND FORM's CARD OF 'laws.FnRangeOne'. -/
def fnRangeOneUptoCard : Claim7 := { stood := { row := fnRangeOneUptoRow, standIns := [], harness := (true, "57267f8607b07d94eb62d1e290a3f090d8424ee182b37e5b41c0806d7fddde58"), looks := true }, kinds := [], alts := [], laidByText := true, laidKinds := [.data, .data, .data, .data, .wider], laidTests := true, laidLooks := .later }
def FnRangeOneUptoCardSaid : Prop := Claim7.holds Tryd.pinned (.plain (OpenSpec.upto fnRangeOneSpec)) fnRangeOneUptoCard

/-- THE SECOND FORM's CARD OF 'laws.FnRangeFaults'. -/
def fnRangeFaultsUptoCard : Claim7 := { stood := { row := fnRangeFaultsUptoRow, standIns := [], harness := (true, "57267f8607b07d94eb62d1e290a3f090d8424ee182b37e5b41c0806d7fddde58"), looks := true }, kinds := [], alts := [], laidByText := true, laidKinds := [.data, .data, .data, .data, .wider], laidTests := true, laidLooks := .later }
def FnRangeFaultsUptoCardSaid : Prop := Claim7.holds Tryd.pinned (.plain (OpenSpec.upto fnRangeFaultsSpec)) fnRangeFaultsUptoCard

/-- THE SECOND FORM's CARD OF 'laws.FnRangeMore'. -/
def fnRangeMoreUptoCard : Claim7 := { stood := { row := fnRangeMoreUptoRow, standIns := [], harness := (true, "57267f8607b07d94eb62d1e290a3f090d8424ee182b37e5b41c0806d7fddde58"), looks := true }, kinds := [], alts := [], laidByText := true, laidKinds := [.data, .data, .data, .data, .wider], laidTests := true, laidLooks := .later }
def FnRangeMoreUptoCardSaid : Prop := Claim7.holds Tryd.pinned (.plain (OpenSpec.upto fnRangeMoreSpec)) fnRangeMoreUptoCard
end Rows
end Go.Proofs.YtjpiihjgbllieaaDoor
