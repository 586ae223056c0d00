/-
  DERIVED. GIVEN WITH THE SEED: THE CARDS: each row of YthbbgkpkijlclaaDoorRows.lean that lists a variable, with what it lists TIED to the program's text (the seventh form; the later family's looks); each row that meets fmt, with fmt's text TOLD by the authors' own Lean function (tested against real Go, not proved from fmt's source: count such statements apart). THE CARD IS WHAT COUNTS. Prove the row's statement (the work); the ties are given (YthbbgkpkijlclaaDoorTie.lean); close each card by the builder's one call (the guide's Derived/Test/ToyasCard.lean, 'card_holds'). Laid BY PROGRAM, IN A SANDBOX (cutbox-door.mjs). By AI agents, Wed Nov 11 2026. No macro, syntax, notation, axiom, sorry.
-/
import Derived.Test.YthbbgkpkijlclaaDoorRows
import GoSem.ClaimSeven
namespace Go.Proofs.YthbbgkpkijlclaaDoor
namespace Rows

/-- THE TIED CARD OF 'laws.FnValMake'. -/
def fnValMakeCard : Claim7 := { stood := { row := fnValMakeRow, standIns := [], harness := (true, "a8e244b4fc3e91de21ead4360829a4f33693c52c0315b866ed1e95292b039467"), looks := true }, kinds := [], alts := [], laidByText := true, laidKinds := [.data, .data], laidTests := true, laidLooks := .later }
def FnValMakeCardSaid : Prop := Claim7.holds Tryd.pinned (.plain (OpenSpec.ofChange fnValMakeSpec)) fnValMakeCard

/-- THE TIED CARD OF 'laws.FnValLattice'. -/
def fnValLatticeCard : Claim7 := { stood := { row := fnValLatticeRow, standIns := [], harness := (true, "a8e244b4fc3e91de21ead4360829a4f33693c52c0315b866ed1e95292b039467"), looks := true }, kinds := [], alts := [], laidByText := true, laidKinds := [.data, .data, .data], laidTests := true, laidLooks := .later }
def FnValLatticeCardSaid : Prop := Claim7.holds Tryd.pinned (.plain (OpenSpec.ofChange fnValLatticeSpec)) fnValLatticeCard

/-- THE TIED CARD OF 'laws.FnValCmp'. -/
def fnValCmpCard : Claim7 := { stood := { row := fnValCmpRow, standIns := [], harness := (true, "a8e244b4fc3e91de21ead4360829a4f33693c52c0315b866ed1e95292b039467"), looks := true }, kinds := [], alts := [], laidByText := true, laidKinds := [.data, .data, .data], laidTests := true, laidLooks := .later }
def FnValCmpCardSaid : Prop := Claim7.holds Tryd.pinned (.plain (OpenSpec.ofChange fnValCmpSpec)) fnValCmpCard

/-- THE TIED CARD OF 'laws.FnExactValMake'. -/
def fnExactValMakeCard : Claim7 := { stood := { row := fnExactValMakeRow, standIns := [], harness := (true, "a8e244b4fc3e91de21ead4360829a4f33693c52c0315b866ed1e95292b039467"), looks := true }, kinds := [], alts := [], laidByText := true, laidKinds := [.data, .data], laidTests := true, laidLooks := .later }
def FnExactValMakeCardSaid : Prop := Claim7.holds Tryd.pinned (.plain (OpenSpec.ofChange fnExactValMakeSpec)) fnExactValMakeCard

/-- THE TIED CARD OF 'laws.FnExactValOk'. -/
def fnExactValOkCard : Claim7 := { stood := { row := fnExactValOkRow, standIns := [], harness := (true, "a8e244b4fc3e91de21ead4360829a4f33693c52c0315b866ed1e95292b039467"), looks := true }, kinds := [], alts := [], laidByText := true, laidKinds := [.data, .data], laidTests := true, laidLooks := .later }
def FnExactValOkCardSaid : Prop := Claim7.holds Tryd.pinned (.plain (OpenSpec.ofChange fnExactValOkSpec)) fnExactValOkCard

/-- THE TIED CARD OF 'laws.FnExactValHas'. -/
def fnExactValHasCard : Claim7 := { stood := { row := fnExactValHasRow, standIns := [], harness := (true, "a8e244b4fc3e91de21ead4360829a4f33693c52c0315b866ed1e95292b039467"), looks := true }, kinds := [], alts := [], laidByText := true, laidKinds := [.data, .data], laidTests := true, laidLooks := .later }
def FnExactValHasCardSaid : Prop := Claim7.holds Tryd.pinned (.plain (OpenSpec.ofChange fnExactValHasSpec)) fnExactValHasCard

/-- THE TIED CARD OF 'laws.FnExactValIn'. -/
def fnExactValInCard : Claim7 := { stood := { row := fnExactValInRow, standIns := [], harness := (true, "a8e244b4fc3e91de21ead4360829a4f33693c52c0315b866ed1e95292b039467"), looks := true }, kinds := [], alts := [], laidByText := true, laidKinds := [.data, .data], laidTests := true, laidLooks := .later }
def FnExactValInCardSaid : Prop := Claim7.holds Tryd.pinned (.plain (OpenSpec.ofChange fnExactValInSpec)) fnExactValInCard

/-- THE TIED CARD OF 'laws.FnExactValJoin'. -/
def fnExactValJoinCard : Claim7 := { stood := { row := fnExactValJoinRow, standIns := [], harness := (true, "a8e244b4fc3e91de21ead4360829a4f33693c52c0315b866ed1e95292b039467"), looks := true }, kinds := [], alts := [], laidByText := true, laidKinds := [.data, .data, .data], laidTests := true, laidLooks := .later }
def FnExactValJoinCardSaid : Prop := Claim7.holds Tryd.pinned (.plain (OpenSpec.ofChange fnExactValJoinSpec)) fnExactValJoinCard

/-- THE TIED CARD OF 'laws.FnExactValMeet'. -/
def fnExactValMeetCard : Claim7 := { stood := { row := fnExactValMeetRow, standIns := [], harness := (true, "a8e244b4fc3e91de21ead4360829a4f33693c52c0315b866ed1e95292b039467"), looks := true }, kinds := [], alts := [], laidByText := true, laidKinds := [.data, .data], laidTests := true, laidLooks := .later }
def FnExactValMeetCardSaid : Prop := Claim7.holds Tryd.pinned (.plain (OpenSpec.ofChange fnExactValMeetSpec)) fnExactValMeetCard

/-- THE TIED CARD OF 'laws.FnExactValWiden'. -/
def fnExactValWidenCard : Claim7 := { stood := { row := fnExactValWidenRow, standIns := [], harness := (true, "a8e244b4fc3e91de21ead4360829a4f33693c52c0315b866ed1e95292b039467"), looks := true }, kinds := [], alts := [], laidByText := true, laidKinds := [.data, .data, .data], laidTests := true, laidLooks := .later }
def FnExactValWidenCardSaid : Prop := Claim7.holds Tryd.pinned (.plain (OpenSpec.ofChange fnExactValWidenSpec)) fnExactValWidenCard

/-- THE TIED CARD OF 'laws.FnExactValCmp'. -/
def fnExactValCmpCard : Claim7 := { stood := { row := fnExactValCmpRow, standIns := [], harness := (true, "a8e244b4fc3e91de21ead4360829a4f33693c52c0315b866ed1e95292b039467"), looks := true }, kinds := [], alts := [], laidByText := true, laidKinds := [.data, .data, .data], laidTests := true, laidLooks := .later }
def FnExactValCmpCardSaid : Prop := Claim7.holds Tryd.pinned (.plain (OpenSpec.ofChange fnExactValCmpSpec)) fnExactValCmpCard

/-- THE TIED CARD OF 'laws.FnExactRangeDo'. -/
def fnExactRangeDoCard : Claim7 := { stood := { row := fnExactRangeDoRow, standIns := [], harness := (true, "a8e244b4fc3e91de21ead4360829a4f33693c52c0315b866ed1e95292b039467"), looks := true }, kinds := [], alts := [], laidByText := true, laidKinds := [.data, .data, .data, .data, .wider], laidTests := true, laidLooks := .later }
def FnExactRangeDoCardSaid : Prop := Claim7.holds Tryd.pinned (.plain (OpenSpec.ofChange fnExactRangeDoSpec)) fnExactRangeDoCard

/-- THE TIED CARD OF 'laws.FnRangeDo'. -/
def fnRangeDoCard : Claim7 := { stood := { row := fnRangeDoRow, standIns := [], harness := (true, "a8e244b4fc3e91de21ead4360829a4f33693c52c0315b866ed1e95292b039467"), looks := true }, kinds := [], alts := [], laidByText := true, laidKinds := [.data, .data, .data, .data, .wider], laidTests := true, laidLooks := .later }
def FnRangeDoCardSaid : Prop := Claim7.holds Tryd.pinned (.plain (OpenSpec.ofChange fnRangeDoSpec)) fnRangeDoCard

/-- THE TIED CARD OF 'laws.FnRangeOne'. -/
def fnRangeOneCard : Claim7 := { stood := { row := fnRangeOneRow, standIns := [], harness := (true, "a8e244b4fc3e91de21ead4360829a4f33693c52c0315b866ed1e95292b039467"), looks := true }, kinds := [], alts := [], laidByText := true, laidKinds := [.data, .data, .data, .data, .wider], laidTests := true, laidLooks := .later }
def FnRangeOneCardSaid : Prop := Claim7.holds Tryd.pinned (.plain (OpenSpec.ofChange fnRangeOneSpec)) fnRangeOneCard

/-- THE TIED CARD OF 'laws.FnRangeFaults'. -/
def fnRangeFaultsCard : Claim7 := { stood := { row := fnRangeFaultsRow, standIns := [], harness := (true, "a8e244b4fc3e91de21ead4360829a4f33693c52c0315b866ed1e95292b039467"), looks := true }, kinds := [], alts := [], laidByText := true, laidKinds := [.data, .data, .data, .data, .wider], laidTests := true, laidLooks := .later }
def FnRangeFaultsCardSaid : Prop := Claim7.holds Tryd.pinned (.plain (OpenSpec.ofChange fnRangeFaultsSpec)) fnRangeFaultsCard

/-- THE TIED CARD OF 'laws.FnRangeMore'. -/
def fnRangeMoreCard : Claim7 := { stood := { row := fnRangeMoreRow, standIns := [], harness := (true, "a8e244b4fc3e91de21ead4360829a4f33693c52c0315b866ed1e95292b039467"), looks := true }, kinds := [], alts := [], laidByText := true, laidKinds := [.data, .data, .data, .data, .wider], laidTests := true, laidLooks := .later }
def FnRangeMoreCardSaid : Prop := Claim7.holds Tryd.pinned (.plain (OpenSpec.ofChange fnRangeMoreSpec)) fnRangeMoreCard

/-- THE TIED CARD OF 'laws.FnRestLattice'. -/
def fnRestLatticeCard : Claim7 := { stood := { row := fnRestLatticeRow, standIns := [], harness := (true, "a8e244b4fc3e91de21ead4360829a4f33693c52c0315b866ed1e95292b039467"), looks := true }, kinds := [], alts := [], laidByText := true, laidKinds := [.data], laidTests := true, laidLooks := .later }
def FnRestLatticeCardSaid : Prop := Claim7.holds Tryd.pinned (.plain (OpenSpec.ofChange fnRestLatticeSpec)) fnRestLatticeCard

/-- THE TIED CARD OF 'laws.FnRestDo'. -/
def fnRestDoCard : Claim7 := { stood := { row := fnRestDoRow, standIns := [], harness := (true, "a8e244b4fc3e91de21ead4360829a4f33693c52c0315b866ed1e95292b039467"), looks := true }, kinds := [], alts := [], laidByText := true, laidKinds := [.wider, .data], laidTests := true, laidLooks := .later }
def FnRestDoCardSaid : Prop := Claim7.holds Tryd.pinned (.plain (OpenSpec.ofChange fnRestDoSpec)) fnRestDoCard

/-- THE SECOND FORM's CARD OF 'laws.FnValMake'. -/
def fnValMakeUptoCard : Claim7 := { stood := { row := fnValMakeUptoRow, standIns := [], harness := (true, "a8e244b4fc3e91de21ead4360829a4f33693c52c0315b866ed1e95292b039467"), looks := true }, kinds := [], alts := [], laidByText := true, laidKinds := [.data, .data], laidTests := true, laidLooks := .later }
def FnValMakeUptoCardSaid : Prop := Claim7.holds Tryd.pinned (.plain (OpenSpec.upto fnValMakeSpec)) fnValMakeUptoCard

/-- THE SECOND FORM's CARD OF 'laws.FnValLattice'. -/
def fnValLatticeUptoCard : Claim7 := { stood := { row := fnValLatticeUptoRow, standIns := [], harness := (true, "a8e244b4fc3e91de21ead4360829a4f33693c52c0315b866ed1e95292b039467"), looks := true }, kinds := [], alts := [], laidByText := true, laidKinds := [.data, .data, .data], laidTests := true, laidLooks := .later }
def FnValLatticeUptoCardSaid : Prop := Claim7.holds Tryd.pinned (.plain (OpenSpec.upto fnValLatticeSpec)) fnValLatticeUptoCard

/-- THE SECOND FORM's CARD OF 'laws.FnValCmp'. -/
def fnValCmpUptoCard : Claim7 := { stood := { row := fnValCmpUptoRow, standIns := [], harness := (true, "a8e244b4fc3e91de21ead4360829a4f33693c52c0315b866ed1e95292b039467"), looks := true }, kinds := [], alts := [], laidByText := true, laidKinds := [.data, .data, .data], laidTests := true, laidLooks := .later }
def FnValCmpUptoCardSaid : Prop := Claim7.holds Tryd.pinned (.plain (OpenSpec.upto fnValCmpSpec)) fnValCmpUptoCard

/-- THE SECOND FORM's CARD OF 'laws.FnExactValMake'. -/
def fnExactValMakeUptoCard : Claim7 := { stood := { row := fnExactValMakeUptoRow, standIns := [], harness := (true, "a8e244b4fc3e91de21ead4360829a4f33693c52c0315b866ed1e95292b039467"), looks := true }, kinds := [], alts := [], laidByText := true, laidKinds := [.data, .data], laidTests := true, laidLooks := .later }
def FnExactValMakeUptoCardSaid : Prop := Claim7.holds Tryd.pinned (.plain (OpenSpec.upto fnExactValMakeSpec)) fnExactValMakeUptoCard

/-- THE SECOND FORM's CARD OF 'laws.FnExactValOk'. -/
def fnExactValOkUptoCard : Claim7 := { stood := { row := fnExactValOkUptoRow, standIns := [], harness := (true, "a8e244b4fc3e91de21ead4360829a4f33693c52c0315b866ed1e95292b039467"), looks := true }, kinds := [], alts := [], laidByText := true, laidKinds := [.data, .data], laidTests := true, laidLooks := .later }
def FnExactValOkUptoCardSaid : Prop := Claim7.holds Tryd.pinned (.plain (OpenSpec.upto fnExactValOkSpec)) fnExactValOkUptoCard

/-- THE SECOND FORM's CARD OF 'laws.FnExactValHas'. -/
def fnExactValHasUptoCard : Claim7 := { stood := { row := fnExactValHasUptoRow, standIns := [], harness := (true, "a8e244b4fc3e91de21ead4360829a4f33693c52c0315b866ed1e95292b039467"), looks := true }, kinds := [], alts := [], laidByText := true, laidKinds := [.data, .data], laidTests := true, laidLooks := .later }
def FnExactValHasUptoCardSaid : Prop := Claim7.holds Tryd.pinned (.plain (OpenSpec.upto fnExactValHasSpec)) fnExactValHasUptoCard

/-- THE SECOND FORM's CARD OF 'laws.FnExactValIn'. -/
def fnExactValInUptoCard : Claim7 := { stood := { row := fnExactValInUptoRow, standIns := [], harness := (true, "a8e244b4fc3e91de21ead4360829a4f33693c52c0315b866ed1e95292b039467"), looks := true }, kinds := [], alts := [], laidByText := true, laidKinds := [.data, .data], laidTests := true, laidLooks := .later }
def FnExactValInUptoCardSaid : Prop := Claim7.holds Tryd.pinned (.plain (OpenSpec.upto fnExactValInSpec)) fnExactValInUptoCard

/-- THE SECOND FORM's CARD OF 'laws.FnExactValJoin'. -/
def fnExactValJoinUptoCard : Claim7 := { stood := { row := fnExactValJoinUptoRow, standIns := [], harness := (true, "a8e244b4fc3e91de21ead4360829a4f33693c52c0315b866ed1e95292b039467"), looks := true }, kinds := [], alts := [], laidByText := true, laidKinds := [.data, .data, .data], laidTests := true, laidLooks := .later }
def FnExactValJoinUptoCardSaid : Prop := Claim7.holds Tryd.pinned (.plain (OpenSpec.upto fnExactValJoinSpec)) fnExactValJoinUptoCard

/-- THE SECOND FORM's CARD OF 'laws.FnExactValMeet'. -/
def fnExactValMeetUptoCard : Claim7 := { stood := { row := fnExactValMeetUptoRow, standIns := [], harness := (true, "a8e244b4fc3e91de21ead4360829a4f33693c52c0315b866ed1e95292b039467"), looks := true }, kinds := [], alts := [], laidByText := true, laidKinds := [.data, .data], laidTests := true, laidLooks := .later }
def FnExactValMeetUptoCardSaid : Prop := Claim7.holds Tryd.pinned (.plain (OpenSpec.upto fnExactValMeetSpec)) fnExactValMeetUptoCard

/-- THE SECOND FORM's CARD OF 'laws.FnExactValWiden'. -/
def fnExactValWidenUptoCard : Claim7 := { stood := { row := fnExactValWidenUptoRow, standIns := [], harness := (true, "a8e244b4fc3e91de21ead4360829a4f33693c52c0315b866ed1e95292b039467"), looks := true }, kinds := [], alts := [], laidByText := true, laidKinds := [.data, .data, .data], laidTests := true, laidLooks := .later }
def FnExactValWidenUptoCardSaid : Prop := Claim7.holds Tryd.pinned (.plain (OpenSpec.upto fnExactValWidenSpec)) fnExactValWidenUptoCard

/-- THE SECOND FORM's CARD OF 'laws.FnExactValCmp'. -/
def fnExactValCmpUptoCard : Claim7 := { stood := { row := fnExactValCmpUptoRow, standIns := [], harness := (true, "a8e244b4fc3e91de21ead4360829a4f33693c52c0315b866ed1e95292b039467"), looks := true }, kinds := [], alts := [], laidByText := true, laidKinds := [.data, .data, .data], laidTests := true, laidLooks := .later }
def FnExactValCmpUptoCardSaid : Prop := Claim7.holds Tryd.pinned (.plain (OpenSpec.upto fnExactValCmpSpec)) fnExactValCmpUptoCard

/-- THE SECOND FORM's CARD OF 'laws.FnExactRangeDo'. -/
def fnExactRangeDoUptoCard : Claim7 := { stood := { row := fnExactRangeDoUptoRow, standIns := [], harness := (true, "a8e244b4fc3e91de21ead4360829a4f33693c52c0315b866ed1e95292b039467"), looks := true }, kinds := [], alts := [], laidByText := true, laidKinds := [.data, .data, .data, .data, .wider], laidTests := true, laidLooks := .later }
def FnExactRangeDoUptoCardSaid : Prop := Claim7.holds Tryd.pinned (.plain (OpenSpec.upto fnExactRangeDoSpec)) fnExactRangeDoUptoCard

/-- THE SECOND FORM's CARD OF 'laws.FnRangeDo'. -/
def fnRangeDoUptoCard : Claim7 := { stood := { row := fnRangeDoUptoRow, standIns := [], harness := (true, "a8e244b4fc3e91de21ead4360829a4f33693c52c0315b866ed1e95292b039467"), looks := true }, kinds := [], alts := [], laidByText := true, laidKinds := [.data, .data, .data, .data, .wider], laidTests := true, laidLooks := .later }
def FnRangeDoUptoCardSaid : Prop := Claim7.holds Tryd.pinned (.plain (OpenSpec.upto fnRangeDoSpec)) fnRangeDoUptoCard

/-- THE SECOND FORM's CARD OF 'laws.FnRangeOne'. -/
def fnRangeOneUptoCard : Claim7 := { stood := { row := fnRangeOneUptoRow, standIns := [], harness := (true, "a8e244b4fc3e91de21ead4360829a4f33693c52c0315b866ed1e95292b039467"), looks := true }, kinds := [], alts := [], laidByText := true, laidKinds := [.data, .data, .data, .data, .wider], laidTests := true, laidLooks := .later }
def FnRangeOneUptoCardSaid : Prop := Claim7.holds Tryd.pinned (.plain (OpenSpec.upto fnRangeOneSpec)) fnRangeOneUptoCard

/-- THE SECOND FORM's CARD OF 'laws.FnRangeFaults'. -/
def fnRangeFaultsUptoCard : Claim7 := { stood := { row := fnRangeFaultsUptoRow, standIns := [], harness := (true, "a8e244b4fc3e91de21ead4360829a4f33693c52c0315b866ed1e95292b039467"), looks := true }, kinds := [], alts := [], laidByText := true, laidKinds := [.data, .data, .data, .data, .wider], laidTests := true, laidLooks := .later }
def FnRangeFaultsUptoCardSaid : Prop := Claim7.holds Tryd.pinned (.plain (OpenSpec.upto fnRangeFaultsSpec)) fnRangeFaultsUptoCard

/-- THE SECOND FORM's CARD OF 'laws.FnRangeMore'. -/
def fnRangeMoreUptoCard : Claim7 := { stood := { row := fnRangeMoreUptoRow, standIns := [], harness := (true, "a8e244b4fc3e91de21ead4360829a4f33693c52c0315b866ed1e95292b039467"), looks := true }, kinds := [], alts := [], laidByText := true, laidKinds := [.data, .data, .data, .data, .wider], laidTests := true, laidLooks := .later }
def FnRangeMoreUptoCardSaid : Prop := Claim7.holds Tryd.pinned (.plain (OpenSpec.upto fnRangeMoreSpec)) fnRangeMoreUptoCard

/-- THE SECOND FORM's CARD OF 'laws.FnRestLattice'. -/
def fnRestLatticeUptoCard : Claim7 := { stood := { row := fnRestLatticeUptoRow, standIns := [], harness := (true, "a8e244b4fc3e91de21ead4360829a4f33693c52c0315b866ed1e95292b039467"), looks := true }, kinds := [], alts := [], laidByText := true, laidKinds := [.data], laidTests := true, laidLooks := .later }
def FnRestLatticeUptoCardSaid : Prop := Claim7.holds Tryd.pinned (.plain (OpenSpec.upto fnRestLatticeSpec)) fnRestLatticeUptoCard

/-- THE SECOND FORM's CARD OF 'laws.FnRestDo'. -/
def fnRestDoUptoCard : Claim7 := { stood := { row := fnRestDoUptoRow, standIns := [], harness := (true, "a8e244b4fc3e91de21ead4360829a4f33693c52c0315b866ed1e95292b039467"), looks := true }, kinds := [], alts := [], laidByText := true, laidKinds := [.wider, .data], laidTests := true, laidLooks := .later }
def FnRestDoUptoCardSaid : Prop := Claim7.holds Tryd.pinned (.plain (OpenSpec.upto fnRestDoSpec)) fnRestDoUptoCard
end Rows
end Go.Proofs.YthbbgkpkijlclaaDoor
