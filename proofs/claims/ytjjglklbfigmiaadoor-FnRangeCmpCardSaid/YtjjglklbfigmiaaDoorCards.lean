/-
  DERIVED. GIVEN WITH THE SEED: THE CARDS: each row of YtjjglklbfigmiaaDoorRows.lean that lists a variable, with what it lists TIED to the program's text (the seventh form; the later family's looks); each row that meets fmt, with fmt's text TOLD by the authors' own Lean function (tested against real Go, not proved from fmt's source: count such statements apart). THE CARD IS WHAT COUNTS. Prove the row's statement (the work); the ties are given (YtjjglklbfigmiaaDoorTie.lean); close each card by the builder's one call (the guide's Derived/Test/ToyasCard.lean, 'card_holds'). Laid BY PROGRAM, IN A SANDBOX (cutbox-door.mjs). By AI agents, Wed Nov 11 2026. No macro, syntax, notation, axiom, sorry.
-/
import Derived.Test.YtjjglklbfigmiaaDoorRows
import GoSem.ClaimSeven
namespace Go.Proofs.YtjjglklbfigmiaaDoor
namespace Rows

/-- THE TIED CARD OF 'laws.FnExactRangeOk'. -/
def fnExactRangeOkCard : Claim7 := { stood := { row := fnExactRangeOkRow, standIns := [], harness := (true, "1b8163a2621b4c23c4aa685e7d9dec5422d56233336b3cf8246a52e8237c38c4"), looks := true }, kinds := [], alts := [], laidByText := true, laidKinds := [.data], laidTests := true, laidLooks := .later }
def FnExactRangeOkCardSaid : Prop := Claim7.holds Tryd.pinned (.plain (OpenSpec.ofChange fnExactRangeOkSpec)) fnExactRangeOkCard

/-- THE TIED CARD OF 'laws.FnExactRangeHas'. -/
def fnExactRangeHasCard : Claim7 := { stood := { row := fnExactRangeHasRow, standIns := [], harness := (true, "1b8163a2621b4c23c4aa685e7d9dec5422d56233336b3cf8246a52e8237c38c4"), looks := true }, kinds := [], alts := [], laidByText := true, laidKinds := [.data], laidTests := true, laidLooks := .later }
def FnExactRangeHasCardSaid : Prop := Claim7.holds Tryd.pinned (.plain (OpenSpec.ofChange fnExactRangeHasSpec)) fnExactRangeHasCard

/-- THE TIED CARD OF 'laws.FnExactRangeIn'. -/
def fnExactRangeInCard : Claim7 := { stood := { row := fnExactRangeInRow, standIns := [], harness := (true, "1b8163a2621b4c23c4aa685e7d9dec5422d56233336b3cf8246a52e8237c38c4"), looks := true }, kinds := [], alts := [], laidByText := true, laidKinds := [.data], laidTests := true, laidLooks := .later }
def FnExactRangeInCardSaid : Prop := Claim7.holds Tryd.pinned (.plain (OpenSpec.ofChange fnExactRangeInSpec)) fnExactRangeInCard

/-- THE TIED CARD OF 'laws.FnExactRangeJoin'. -/
def fnExactRangeJoinCard : Claim7 := { stood := { row := fnExactRangeJoinRow, standIns := [], harness := (true, "1b8163a2621b4c23c4aa685e7d9dec5422d56233336b3cf8246a52e8237c38c4"), looks := true }, kinds := [], alts := [], laidByText := true, laidKinds := [.data], laidTests := true, laidLooks := .later }
def FnExactRangeJoinCardSaid : Prop := Claim7.holds Tryd.pinned (.plain (OpenSpec.ofChange fnExactRangeJoinSpec)) fnExactRangeJoinCard

/-- THE TIED CARD OF 'laws.FnExactRangeMeet'. -/
def fnExactRangeMeetCard : Claim7 := { stood := { row := fnExactRangeMeetRow, standIns := [], harness := (true, "1b8163a2621b4c23c4aa685e7d9dec5422d56233336b3cf8246a52e8237c38c4"), looks := true }, kinds := [], alts := [], laidByText := true, laidKinds := [.data], laidTests := true, laidLooks := .later }
def FnExactRangeMeetCardSaid : Prop := Claim7.holds Tryd.pinned (.plain (OpenSpec.ofChange fnExactRangeMeetSpec)) fnExactRangeMeetCard

/-- THE TIED CARD OF 'laws.FnExactRangeWiden'. -/
def fnExactRangeWidenCard : Claim7 := { stood := { row := fnExactRangeWidenRow, standIns := [], harness := (true, "1b8163a2621b4c23c4aa685e7d9dec5422d56233336b3cf8246a52e8237c38c4"), looks := true }, kinds := [], alts := [], laidByText := true, laidKinds := [.data], laidTests := true, laidLooks := .later }
def FnExactRangeWidenCardSaid : Prop := Claim7.holds Tryd.pinned (.plain (OpenSpec.ofChange fnExactRangeWidenSpec)) fnExactRangeWidenCard

/-- THE TIED CARD OF 'laws.FnExactRangeDo'. -/
def fnExactRangeDoCard : Claim7 := { stood := { row := fnExactRangeDoRow, standIns := [], harness := (true, "1b8163a2621b4c23c4aa685e7d9dec5422d56233336b3cf8246a52e8237c38c4"), looks := true }, kinds := [], alts := [], laidByText := true, laidKinds := [.data, .data, .data, .data, .data], laidTests := true, laidLooks := .later }
def FnExactRangeDoCardSaid : Prop := Claim7.holds Tryd.pinned (.plain (OpenSpec.ofChange fnExactRangeDoSpec)) fnExactRangeDoCard

/-- THE TIED CARD OF 'laws.FnExactRangeCmp'. -/
def fnExactRangeCmpCard : Claim7 := { stood := { row := fnExactRangeCmpRow, standIns := [], harness := (true, "1b8163a2621b4c23c4aa685e7d9dec5422d56233336b3cf8246a52e8237c38c4"), looks := true }, kinds := [], alts := [], laidByText := true, laidKinds := [.data, .data], laidTests := true, laidLooks := .later }
def FnExactRangeCmpCardSaid : Prop := Claim7.holds Tryd.pinned (.plain (OpenSpec.ofChange fnExactRangeCmpSpec)) fnExactRangeCmpCard

/-- THE TIED CARD OF 'laws.FnRangeDo'. -/
def fnRangeDoCard : Claim7 := { stood := { row := fnRangeDoRow, standIns := [], harness := (true, "1b8163a2621b4c23c4aa685e7d9dec5422d56233336b3cf8246a52e8237c38c4"), looks := true }, kinds := [], alts := [], laidByText := true, laidKinds := [.data, .data, .data, .data, .data], laidTests := true, laidLooks := .later }
def FnRangeDoCardSaid : Prop := Claim7.holds Tryd.pinned (.plain (OpenSpec.ofChange fnRangeDoSpec)) fnRangeDoCard

/-- THE TIED CARD OF 'laws.FnRangeOne'. -/
def fnRangeOneCard : Claim7 := { stood := { row := fnRangeOneRow, standIns := [], harness := (true, "1b8163a2621b4c23c4aa685e7d9dec5422d56233336b3cf8246a52e8237c38c4"), looks := true }, kinds := [], alts := [], laidByText := true, laidKinds := [.data, .data, .data, .data, .data], laidTests := true, laidLooks := .later }
def FnRangeOneCardSaid : Prop := Claim7.holds Tryd.pinned (.plain (OpenSpec.ofChange fnRangeOneSpec)) fnRangeOneCard

/-- THE TIED CARD OF 'laws.FnRangeFaults'. -/
def fnRangeFaultsCard : Claim7 := { stood := { row := fnRangeFaultsRow, standIns := [], harness := (true, "1b8163a2621b4c23c4aa685e7d9dec5422d56233336b3cf8246a52e8237c38c4"), looks := true }, kinds := [], alts := [], laidByText := true, laidKinds := [.data, .data, .data, .data, .data], laidTests := true, laidLooks := .later }
def FnRangeFaultsCardSaid : Prop := Claim7.holds Tryd.pinned (.plain (OpenSpec.ofChange fnRangeFaultsSpec)) fnRangeFaultsCard

/-- THE TIED CARD OF 'laws.FnRangeLattice'. -/
def fnRangeLatticeCard : Claim7 := { stood := { row := fnRangeLatticeRow, standIns := [], harness := (true, "1b8163a2621b4c23c4aa685e7d9dec5422d56233336b3cf8246a52e8237c38c4"), looks := true }, kinds := [], alts := [], laidByText := true, laidKinds := [.data], laidTests := true, laidLooks := .later }
def FnRangeLatticeCardSaid : Prop := Claim7.holds Tryd.pinned (.plain (OpenSpec.ofChange fnRangeLatticeSpec)) fnRangeLatticeCard

/-- THE TIED CARD OF 'laws.FnRangeCmp'. -/
def fnRangeCmpCard : Claim7 := { stood := { row := fnRangeCmpRow, standIns := [], harness := (true, "1b8163a2621b4c23c4aa685e7d9dec5422d56233336b3cf8246a52e8237c38c4"), looks := true }, kinds := [], alts := [], laidByText := true, laidKinds := [.data, .data], laidTests := true, laidLooks := .later }
def FnRangeCmpCardSaid : Prop := Claim7.holds Tryd.pinned (.plain (OpenSpec.ofChange fnRangeCmpSpec)) fnRangeCmpCard

/-- THE TIED CARD OF 'laws.FnRangeMore'. -/
def fnRangeMoreCard : Claim7 := { stood := { row := fnRangeMoreRow, standIns := [], harness := (true, "1b8163a2621b4c23c4aa685e7d9dec5422d56233336b3cf8246a52e8237c38c4"), looks := true }, kinds := [], alts := [], laidByText := true, laidKinds := [.data, .data, .data, .data, .data], laidTests := true, laidLooks := .later }
def FnRangeMoreCardSaid : Prop := Claim7.holds Tryd.pinned (.plain (OpenSpec.ofChange fnRangeMoreSpec)) fnRangeMoreCard

/-- THE TIED CARD OF 'laws.FnRangeStill'. -/
def fnRangeStillCard : Claim7 := { stood := { row := fnRangeStillRow, standIns := [], harness := (true, "1b8163a2621b4c23c4aa685e7d9dec5422d56233336b3cf8246a52e8237c38c4"), looks := true }, kinds := [], alts := [], laidByText := true, laidKinds := [.data], laidTests := true, laidLooks := .later }
def FnRangeStillCardSaid : Prop := Claim7.holds Tryd.pinned (.plain (OpenSpec.ofChange fnRangeStillSpec)) fnRangeStillCard

/-- THE SECOND FORM's CARD OF 'laws.FnExactRangeOk'. -/
def fnExactRangeOkUptoCard : Claim7 := { stood := { row := fnExactRangeOkUptoRow, standIns := [], harness := (true, "1b8163a2621b4c23c4aa685e7d9dec5422d56233336b3cf8246a52e8237c38c4"), looks := true }, kinds := [], alts := [], laidByText := true, laidKinds := [.data], laidTests := true, laidLooks := .later }
def FnExactRangeOkUptoCardSaid : Prop := Claim7.holds Tryd.pinned (.plain (OpenSpec.upto fnExactRangeOkSpec)) fnExactRangeOkUptoCard

/-- THE SECOND FORM's CARD OF 'laws.FnExactRangeHas'. -/
def fnExactRangeHasUptoCard : Claim7 := { stood := { row := fnExactRangeHasUptoRow, standIns := [], harness := (true, "1b8163a2621b4c23c4aa685e7d9dec5422d56233336b3cf8246a52e8237c38c4"), looks := true }, kinds := [], alts := [], laidByText := true, laidKinds := [.data], laidTests := true, laidLooks := .later }
def FnExactRangeHasUptoCardSaid : Prop := Claim7.holds Tryd.pinned (.plain (OpenSpec.upto fnExactRangeHasSpec)) fnExactRangeHasUptoCard

/-- THE SECOND FORM's CARD OF 'laws.FnExactRangeIn'. -/
def fnExactRangeInUptoCard : Claim7 := { stood := { row := fnExactRangeInUptoRow, standIns := [], harness := (true, "1b8163a2621b4c23c4aa685e7d9dec5422d56233336b3cf8246a52e8237c38c4"), looks := true }, kinds := [], alts := [], laidByText := true, laidKinds := [.data], laidTests := true, laidLooks := .later }
def FnExactRangeInUptoCardSaid : Prop := Claim7.holds Tryd.pinned (.plain (OpenSpec.upto fnExactRangeInSpec)) fnExactRangeInUptoCard

/-- THE SECOND FORM's CARD OF 'laws.FnExactRangeJoin'. -/
def fnExactRangeJoinUptoCard : Claim7 := { stood := { row := fnExactRangeJoinUptoRow, standIns := [], harness := (true, "1b8163a2621b4c23c4aa685e7d9dec5422d56233336b3cf8246a52e8237c38c4"), looks := true }, kinds := [], alts := [], laidByText := true, laidKinds := [.data], laidTests := true, laidLooks := .later }
def FnExactRangeJoinUptoCardSaid : Prop := Claim7.holds Tryd.pinned (.plain (OpenSpec.upto fnExactRangeJoinSpec)) fnExactRangeJoinUptoCard

/-- THE SECOND FORM's CARD OF 'laws.FnExactRangeMeet'. -/
def fnExactRangeMeetUptoCard : Claim7 := { stood := { row := fnExactRangeMeetUptoRow, standIns := [], harness := (true, "1b8163a2621b4c23c4aa685e7d9dec5422d56233336b3cf8246a52e8237c38c4"), looks := true }, kinds := [], alts := [], laidByText := true, laidKinds := [.data], laidTests := true, laidLooks := .later }
def FnExactRangeMeetUptoCardSaid : Prop := Claim7.holds Tryd.pinned (.plain (OpenSpec.upto fnExactRangeMeetSpec)) fnExactRangeMeetUptoCard

/-- THE SECOND FORM's CARD OF 'laws.FnExactRangeWiden'. -/
def fnExactRangeWidenUptoCard : Claim7 := { stood := { row := fnExactRangeWidenUptoRow, standIns := [], harness := (true, "1b8163a2621b4c23c4aa685e7d9dec5422d56233336b3cf8246a52e8237c38c4"), looks := true }, kinds := [], alts := [], laidByText := true, laidKinds := [.data], laidTests := true, laidLooks := .later }
def FnExactRangeWidenUptoCardSaid : Prop := Claim7.holds Tryd.pinned (.plain (OpenSpec.upto fnExactRangeWidenSpec)) fnExactRangeWidenUptoCard

/-- THE SECOND FORM's CARD OF 'laws.FnExactRangeDo'. -/
def fnExactRangeDoUptoCard : Claim7 := { stood := { row := fnExactRangeDoUptoRow, standIns := [], harness := (true, "1b8163a2621b4c23c4aa685e7d9dec5422d56233336b3cf8246a52e8237c38c4"), looks := true }, kinds := [], alts := [], laidByText := true, laidKinds := [.data, .data, .data, .data, .data], laidTests := true, laidLooks := .later }
def FnExactRangeDoUptoCardSaid : Prop := Claim7.holds Tryd.pinned (.plain (OpenSpec.upto fnExactRangeDoSpec)) fnExactRangeDoUptoCard

/-- THE SECOND FORM's CARD OF 'laws.FnExactRangeCmp'. -/
def fnExactRangeCmpUptoCard : Claim7 := { stood := { row := fnExactRangeCmpUptoRow, standIns := [], harness := (true, "1b8163a2621b4c23c4aa685e7d9dec5422d56233336b3cf8246a52e8237c38c4"), looks := true }, kinds := [], alts := [], laidByText := true, laidKinds := [.data, .data], laidTests := true, laidLooks := .later }
def FnExactRangeCmpUptoCardSaid : Prop := Claim7.holds Tryd.pinned (.plain (OpenSpec.upto fnExactRangeCmpSpec)) fnExactRangeCmpUptoCard

/-- THE SECOND FORM's CARD OF 'laws.FnRangeDo'. -/
def fnRangeDoUptoCard : Claim7 := { stood := { row := fnRangeDoUptoRow, standIns := [], harness := (true, "1b8163a2621b4c23c4aa685e7d9dec5422d56233336b3cf8246a52e8237c38c4"), looks := true }, kinds := [], alts := [], laidByText := true, laidKinds := [.data, .data, .data, .data, .data], laidTests := true, laidLooks := .later }
def FnRangeDoUptoCardSaid : Prop := Claim7.holds Tryd.pinned (.plain (OpenSpec.upto fnRangeDoSpec)) fnRangeDoUptoCard

/-- THE SECOND FORM's CARD OF 'laws.FnRangeOne'. -/
def fnRangeOneUptoCard : Claim7 := { stood := { row := fnRangeOneUptoRow, standIns := [], harness := (true, "1b8163a2621b4c23c4aa685e7d9dec5422d56233336b3cf8246a52e8237c38c4"), looks := true }, kinds := [], alts := [], laidByText := true, laidKinds := [.data, .data, .data, .data, .data], laidTests := true, laidLooks := .later }
def FnRangeOneUptoCardSaid : Prop := Claim7.holds Tryd.pinned (.plain (OpenSpec.upto fnRangeOneSpec)) fnRangeOneUptoCard

/-- THE SECOND FORM's CARD OF 'laws.FnRangeFaults'. -/
def fnRangeFaultsUptoCard : Claim7 := { stood := { row := fnRangeFaultsUptoRow, standIns := [], harness := (true, "1b8163a2621b4c23c4aa685e7d9dec5422d56233336b3cf8246a52e8237c38c4"), looks := true }, kinds := [], alts := [], laidByText := true, laidKinds := [.data, .data, .data, .data, .data], laidTests := true, laidLooks := .later }
def FnRangeFaultsUptoCardSaid : Prop := Claim7.holds Tryd.pinned (.plain (OpenSpec.upto fnRangeFaultsSpec)) fnRangeFaultsUptoCard

/-- THE SECOND FORM's CARD OF 'laws.FnRangeLattice'. -/
def fnRangeLatticeUptoCard : Claim7 := { stood := { row := fnRangeLatticeUptoRow, standIns := [], harness := (true, "1b8163a2621b4c23c4aa685e7d9dec5422d56233336b3cf8246a52e8237c38c4"), looks := true }, kinds := [], alts := [], laidByText := true, laidKinds := [.data], laidTests := true, laidLooks := .later }
def FnRangeLatticeUptoCardSaid : Prop := Claim7.holds Tryd.pinned (.plain (OpenSpec.upto fnRangeLatticeSpec)) fnRangeLatticeUptoCard

/-- THE SECOND FORM's CARD OF 'laws.FnRangeCmp'. -/
def fnRangeCmpUptoCard : Claim7 := { stood := { row := fnRangeCmpUptoRow, standIns := [], harness := (true, "1b8163a2621b4c23c4aa685e7d9dec5422d56233336b3cf8246a52e8237c38c4"), looks := true }, kinds := [], alts := [], laidByText := true, laidKinds := [.data, .data], laidTests := true, laidLooks := .later }
def FnRangeCmpUptoCardSaid : Prop := Claim7.holds Tryd.pinned (.plain (OpenSpec.upto fnRangeCmpSpec)) fnRangeCmpUptoCard

/-- THE SECOND FORM's CARD OF 'laws.FnRangeMore'. -/
def fnRangeMoreUptoCard : Claim7 := { stood := { row := fnRangeMoreUptoRow, standIns := [], harness := (true, "1b8163a2621b4c23c4aa685e7d9dec5422d56233336b3cf8246a52e8237c38c4"), looks := true }, kinds := [], alts := [], laidByText := true, laidKinds := [.data, .data, .data, .data, .data], laidTests := true, laidLooks := .later }
def FnRangeMoreUptoCardSaid : Prop := Claim7.holds Tryd.pinned (.plain (OpenSpec.upto fnRangeMoreSpec)) fnRangeMoreUptoCard

/-- THE SECOND FORM's CARD OF 'laws.FnRangeStill'. -/
def fnRangeStillUptoCard : Claim7 := { stood := { row := fnRangeStillUptoRow, standIns := [], harness := (true, "1b8163a2621b4c23c4aa685e7d9dec5422d56233336b3cf8246a52e8237c38c4"), looks := true }, kinds := [], alts := [], laidByText := true, laidKinds := [.data], laidTests := true, laidLooks := .later }
def FnRangeStillUptoCardSaid : Prop := Claim7.holds Tryd.pinned (.plain (OpenSpec.upto fnRangeStillSpec)) fnRangeStillUptoCard
end Rows
end Go.Proofs.YtjjglklbfigmiaaDoor
