/-
  DERIVED. GIVEN WITH THE SEED: THE CARDS: each row of YtfkmnbldadpaaaaDoorRows.lean that lists a variable, with what it lists TIED to the program's text (the seventh form; the later family's looks); each row that meets fmt, with fmt's text TOLD by the authors' own Lean function (tested against real Go, not proved from fmt's source: count such statements apart). THE CARD IS WHAT COUNTS. Prove the row's statement (the work); the ties are given (YtfkmnbldadpaaaaDoorTie.lean); close each card by the builder's one call (the guide's Derived/Test/ToyasCard.lean, 'card_holds'). Laid BY PROGRAM, IN A SANDBOX (cutbox-door.mjs). By AI agents, Wed Nov 11 2026. No macro, syntax, notation, axiom, sorry.
-/
import Derived.Test.YtfkmnbldadpaaaaDoorRows
import GoSem.ClaimSeven
namespace Go.Proofs.YtfkmnbldadpaaaaDoor
namespace Rows

/-- THE TIED CARD OF 'laws.FnNumCmp'. -/
def fnNumCmpCard : Claim7 := { stood := { row := fnNumCmpRow, standIns := [], harness := (true, "9a83c37c07cdb751bf2665f9f8418943ea7cdf7390b1811290bcc8568d09a8ae"), looks := false }, kinds := [], alts := [], laidByText := true, laidKinds := [.data, .data], laidTests := true, laidLooks := .later }
def FnNumCmpCardSaid : Prop := Claim7.holds Tryd.pinned (.plain (OpenSpec.ofChange fnNumCmpSpec)) fnNumCmpCard

/-- THE TIED CARD OF 'laws.FnExactCmpNot'. -/
def fnExactCmpNotCard : Claim7 := { stood := { row := fnExactCmpNotRow, standIns := [], harness := (true, "9a83c37c07cdb751bf2665f9f8418943ea7cdf7390b1811290bcc8568d09a8ae"), looks := false }, kinds := [], alts := [], laidByText := true, laidKinds := [.data], laidTests := true, laidLooks := .later }
def FnExactCmpNotCardSaid : Prop := Claim7.holds Tryd.pinned (.plain (OpenSpec.ofChange fnExactCmpNotSpec)) fnExactCmpNotCard

/-- THE TIED CARD OF 'laws.FnExactCmpTurn'. -/
def fnExactCmpTurnCard : Claim7 := { stood := { row := fnExactCmpTurnRow, standIns := [], harness := (true, "9a83c37c07cdb751bf2665f9f8418943ea7cdf7390b1811290bcc8568d09a8ae"), looks := false }, kinds := [], alts := [], laidByText := true, laidKinds := [.data], laidTests := true, laidLooks := .later }
def FnExactCmpTurnCardSaid : Prop := Claim7.holds Tryd.pinned (.plain (OpenSpec.ofChange fnExactCmpTurnSpec)) fnExactCmpTurnCard

/-- THE SECOND FORM's CARD OF 'laws.FnNumCmp'. -/
def fnNumCmpUptoCard : Claim7 := { stood := { row := fnNumCmpUptoRow, standIns := [], harness := (true, "9a83c37c07cdb751bf2665f9f8418943ea7cdf7390b1811290bcc8568d09a8ae"), looks := false }, kinds := [], alts := [], laidByText := true, laidKinds := [.data, .data], laidTests := true, laidLooks := .later }
def FnNumCmpUptoCardSaid : Prop := Claim7.holds Tryd.pinned (.plain (OpenSpec.upto fnNumCmpSpec)) fnNumCmpUptoCard

/-- THE SECOND FORM's CARD OF 'laws.FnExactCmpNot'. -/
def fnExactCmpNotUptoCard : Claim7 := { stood := { row := fnExactCmpNotUptoRow, standIns := [], harness := (true, "9a83c37c07cdb751bf2665f9f8418943ea7cdf7390b1811290bcc8568d09a8ae"), looks := false }, kinds := [], alts := [], laidByText := true, laidKinds := [.data], laidTests := true, laidLooks := .later }
def FnExactCmpNotUptoCardSaid : Prop := Claim7.holds Tryd.pinned (.plain (OpenSpec.upto fnExactCmpNotSpec)) fnExactCmpNotUptoCard

/-- THE SECOND FORM's CARD OF 'laws.FnExactCmpTurn'. -/
def fnExactCmpTurnUptoCard : Claim7 := { stood := { row := fnExactCmpTurnUptoRow, standIns := [], harness := (true, "9a83c37c07cdb751bf2665f9f8418943ea7cdf7390b1811290bcc8568d09a8ae"), looks := false }, kinds := [], alts := [], laidByText := true, laidKinds := [.data], laidTests := true, laidLooks := .later }
def FnExactCmpTurnUptoCardSaid : Prop := Claim7.holds Tryd.pinned (.plain (OpenSpec.upto fnExactCmpTurnSpec)) fnExactCmpTurnUptoCard
end Rows
end Go.Proofs.YtfkmnbldadpaaaaDoor
