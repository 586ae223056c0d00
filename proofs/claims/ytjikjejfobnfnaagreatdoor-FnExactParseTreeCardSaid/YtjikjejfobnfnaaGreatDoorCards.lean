/-
  DERIVED. GIVEN WITH THE SEED: THE CARDS: each row of YtjikjejfobnfnaaGreatDoorRows.lean that lists a variable, with what it lists TIED to the program's text (the seventh form; the later family's looks); each row that meets fmt, with fmt's text TOLD by the authors' own Lean function (tested against real Go, not proved from fmt's source: count such statements apart). THE CARD IS WHAT COUNTS. Prove the row's statement (the work); the ties are given (YtjikjejfobnfnaaGreatDoorTie.lean); close each card by the builder's one call (the guide's Derived/Test/ToyasCard.lean, 'card_holds'). Laid BY PROGRAM, IN A SANDBOX (cutbox-door.mjs). By AI agents, Wed Nov 11 2026. No macro, syntax, notation, axiom, sorry.
-/
import Derived.Test.YtjikjejfobnfnaaGreatDoorRows
import GoSem.ClaimSeven
namespace Go.Proofs.YtjikjejfobnfnaaGreatDoor
namespace Rows

/-- THE TIED CARD OF 'laws.FnParseBack'. -/
def fnParseBackCard : Claim7 := { stood := { row := fnParseBackRow, standIns := [], harness := (true, "7ecd53819328b66937f360c118053ea003ec9b643399a2de05fb6895be2267cf"), looks := true }, kinds := [], alts := [], laidByText := true, laidKinds := [.data, .data, .data, .handle, .data, .data, .data], laidTests := true, laidLooks := .later }
def FnParseBackCardSaid : Prop := Claim7.holds Tryz.pinned (.plain (OpenSpec.ofChange fnParseBackSpec)) fnParseBackCard

/-- THE TIED CARD OF 'laws.FnParseTree'. -/
def fnParseTreeCard : Claim7 := { stood := { row := fnParseTreeRow, standIns := [], harness := (true, "7ecd53819328b66937f360c118053ea003ec9b643399a2de05fb6895be2267cf"), looks := true }, kinds := [], alts := [], laidByText := true, laidKinds := [.handle, .data, .data, .data], laidTests := true, laidLooks := .later }
def FnParseTreeCardSaid : Prop := Claim7.holds Tryz.pinned (.plain (OpenSpec.ofChange fnParseTreeSpec)) fnParseTreeCard

/-- THE TIED CARD OF 'laws.FnExactParseTree'. -/
def fnExactParseTreeCard : Claim7 := { stood := { row := fnExactParseTreeRow, standIns := [], harness := (true, "7ecd53819328b66937f360c118053ea003ec9b643399a2de05fb6895be2267cf"), looks := true }, kinds := [], alts := [], laidByText := true, laidKinds := [.handle, .data, .data, .data], laidTests := true, laidLooks := .later }
def FnExactParseTreeCardSaid : Prop := Claim7.holds Tryz.pinned (.plain (OpenSpec.ofChange fnExactParseTreeSpec)) fnExactParseTreeCard

/-- THE TIED CARD OF 'laws.FnExactParsePrint'. -/
def fnExactParsePrintCard : Claim7 := { stood := { row := fnExactParsePrintRow, standIns := [], harness := (true, "7ecd53819328b66937f360c118053ea003ec9b643399a2de05fb6895be2267cf"), looks := true }, kinds := [], alts := [], laidByText := true, laidKinds := [.data, .data, .data, .handle, .data, .data, .data], laidTests := true, laidLooks := .later }
def FnExactParsePrintCardSaid : Prop := Claim7.holds Tryz.pinned (.plain (OpenSpec.ofChange fnExactParsePrintSpec)) fnExactParsePrintCard

/-- THE SECOND FORM's CARD OF 'laws.FnParseBack'. -/
def fnParseBackUptoCard : Claim7 := { stood := { row := fnParseBackUptoRow, standIns := [], harness := (true, "7ecd53819328b66937f360c118053ea003ec9b643399a2de05fb6895be2267cf"), looks := true }, kinds := [], alts := [], laidByText := true, laidKinds := [.data, .data, .data, .handle, .data, .data, .data], laidTests := true, laidLooks := .later }
def FnParseBackUptoCardSaid : Prop := Claim7.holds Tryz.pinned (.plain (OpenSpec.upto fnParseBackSpec)) fnParseBackUptoCard

/-- THE SECOND FORM's CARD OF 'laws.FnParseTree'. -/
def fnParseTreeUptoCard : Claim7 := { stood := { row := fnParseTreeUptoRow, standIns := [], harness := (true, "7ecd53819328b66937f360c118053ea003ec9b643399a2de05fb6895be2267cf"), looks := true }, kinds := [], alts := [], laidByText := true, laidKinds := [.handle, .data, .data, .data], laidTests := true, laidLooks := .later }
def FnParseTreeUptoCardSaid : Prop := Claim7.holds Tryz.pinned (.plain (OpenSpec.upto fnParseTreeSpec)) fnParseTreeUptoCard

/-- THE SECOND FORM's CARD OF 'laws.FnExactParseTree'. -/
def fnExactParseTreeUptoCard : Claim7 := { stood := { row := fnExactParseTreeUptoRow, standIns := [], harness := (true, "7ecd53819328b66937f360c118053ea003ec9b643399a2de05fb6895be2267cf"), looks := true }, kinds := [], alts := [], laidByText := true, laidKinds := [.handle, .data, .data, .data], laidTests := true, laidLooks := .later }
def FnExactParseTreeUptoCardSaid : Prop := Claim7.holds Tryz.pinned (.plain (OpenSpec.upto fnExactParseTreeSpec)) fnExactParseTreeUptoCard

/-- THE SECOND FORM's CARD OF 'laws.FnExactParsePrint'. -/
def fnExactParsePrintUptoCard : Claim7 := { stood := { row := fnExactParsePrintUptoRow, standIns := [], harness := (true, "7ecd53819328b66937f360c118053ea003ec9b643399a2de05fb6895be2267cf"), looks := true }, kinds := [], alts := [], laidByText := true, laidKinds := [.data, .data, .data, .handle, .data, .data, .data], laidTests := true, laidLooks := .later }
def FnExactParsePrintUptoCardSaid : Prop := Claim7.holds Tryz.pinned (.plain (OpenSpec.upto fnExactParsePrintSpec)) fnExactParsePrintUptoCard
end Rows
end Go.Proofs.YtjikjejfobnfnaaGreatDoor
