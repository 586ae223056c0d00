/-
  No cell of these rows narrows 'for every input' (looked for: loops, veiled, ifaces, maps, wideKeys, modest, calm, conditions, laid).
  DERIVED. THE GIVEN ROWS OF THIS SEAT. 2 by the template 'for every input the law returns true; each argument reads behind the call as it read before'; 0 by the template 'total and deterministic' (their statements: YthbbgkpkijlclaaTotals.lean).
  GIVEN WITH THE SEED: the statements are not yours to turn. If you find one false, say at which input.
  Laid BY PROGRAM, IN A SANDBOX (cutbox-rows.mjs): the forced cells as the released guide's own fill.sh prints them over the translation d58bb73f82ebc558… (all of the seat's roots in one cut). By AI agents, Wed Nov 11 2026. No macro, syntax, notation, axiom, sorry.
-/
import Derived.Test.YthbbgkpkijlclaaChecked
import GoSem.Claim
import GoSem.ClaimJoined
import GoSem.ClaimMapViews
import Derived.JoinedTies
import Derived.KernelRfl
namespace Go.Proofs.Ythbbgkpkijlclaa
/- THE CELL 'sum', in the pinned program and in every row, IS THE sha256 OF THE DUMP (.gsa) THAT YthbbgkpkijlclaaProg.lean LOADS. Nothing in Lean hashes anything: it is a label: what it is worth is what the hold of that sum in a sandbox is worth. -/
noncomputable def Try.pinned : Pinned := { name := "ythbbgkpkijlclaa", sum := "d58bb73f82ebc5581a8e64925f0401b68282631d76b7c7280353be71b0c97947", checked := Try.checked }
namespace Rows
def none {H : Type} : Left H := { results := [], args := [] }

/-- 'laws.FnExactRestHas': WHATEVER THE INPUT: true; the input reads as it did. -/
def fnExactRestHasSpec : ChangeSpec := { name := "fnExactRestHas", fn := fun _ => fun
  | [d1, d2] => { results := [.lit (.bool true)], args := [d1, d2] }
  | _ => none }
def fnExactRestHasRow : OpenClaim := { program := "ythbbgkpkijlclaa", sum := "d58bb73f82ebc5581a8e64925f0401b68282631d76b7c7280353be71b0c97947", func := "loop.example/sedge/laws.FnExactRestHas", spec := "fnExactRestHas", apart := false }
def FnExactRestHasSaid : Prop := fnExactRestHasRow.holds Try.pinned (OpenSpec.ofChange fnExactRestHasSpec)

/-- ITS FALSE NEIGHBOUR: 'it returns false'. Refute it at one input. -/
def fnExactRestHasWrong : ChangeSpec := { name := "fnExactRestHas", fn := fun _ => fun
  | [d1, d2] => { results := [.lit (.bool false)], args := [d1, d2] }
  | _ => none }
def FnExactRestHasWrongFalsely : Prop := fnExactRestHasRow.holds Try.pinned (OpenSpec.ofChange fnExactRestHasWrong)

/-- 'laws.FnExactRestMeet': WHATEVER THE INPUT: true; the input reads as it did. -/
def fnExactRestMeetSpec : ChangeSpec := { name := "fnExactRestMeet", fn := fun _ => fun
  | [d1, d2] => { results := [.lit (.bool true)], args := [d1, d2] }
  | _ => none }
def fnExactRestMeetRow : OpenClaim := { program := "ythbbgkpkijlclaa", sum := "d58bb73f82ebc5581a8e64925f0401b68282631d76b7c7280353be71b0c97947", func := "loop.example/sedge/laws.FnExactRestMeet", spec := "fnExactRestMeet", recurses := true, apart := false }
def FnExactRestMeetSaid : Prop := fnExactRestMeetRow.holds Try.pinned (OpenSpec.ofChange fnExactRestMeetSpec)

/-- ITS FALSE NEIGHBOUR: 'it returns false'. Refute it at one input. -/
def fnExactRestMeetWrong : ChangeSpec := { name := "fnExactRestMeet", fn := fun _ => fun
  | [d1, d2] => { results := [.lit (.bool false)], args := [d1, d2] }
  | _ => none }
def FnExactRestMeetWrongFalsely : Prop := fnExactRestMeetRow.holds Try.pinned (OpenSpec.ofChange fnExactRestMeetWrong)

/- THE SECOND FORM. 'bulk': how many values and letters a reading holds, each counted each time it is reached (what is shared counts as often as it is met; a slice's spare places count too). A statement '..UptoSaid' is the law's where the arguments, and the package variables that the reading takes, are together of bulk at most 1048576: NARROWER than '..Said'. Prove '..Said' where nothing that the law and all that it calls make is longer than what came in: it says more and counts as full. Else prove '..UptoSaid'. A law counts once. -/
mutual
def uptoBulk {H : Type} : DataW H → Nat
  | .lit (.string bytes) => bytes.length + 1
  | .lit _ => 1
  | .nil => 1
  | .ptr d => uptoBulk d + 1
  | .slice elems spare => uptoBulkAll elems + uptoBulkAll spare + 1
  | .agg parts => uptoBulkAll parts + 1
  | .iface _ d => uptoBulk d + 1
  | .map entries => uptoBulkEntries entries + 1
  | .held _ => 1
def uptoBulkAll {H : Type} : List (DataW H) → Nat
  | [] => 0
  | d :: r => uptoBulk d + uptoBulkAll r
def uptoBulkEntries {H : Type} : List (Lit × DataW H) → Nat
  | [] => 0
  | x :: r => uptoBulkEntry x + uptoBulkEntries r
def uptoBulkEntry {H : Type} : Lit × DataW H → Nat
  | (.string bytes, d) => bytes.length + uptoBulk d + 1
  | (_, d) => uptoBulk d + 1
 end
def uptoSmall : (H : Type) → List (DataW H) → Bool := fun _ ds => decide (uptoBulkAll ds ≤ 1048576)
def OpenSpec.upto (s : _root_.Go.ChangeSpec) : _root_.Go.OpenSpec := { _root_.Go.OpenSpec.ofChange s with cond := some uptoSmall }

/-- 'laws.FnExactRestHas', WHERE WHAT IT READS IS OF BULK AT MOST 1048576: true; the input reads as it did. -/
def fnExactRestHasUptoRow : OpenClaim := { program := "ythbbgkpkijlclaa", sum := "d58bb73f82ebc5581a8e64925f0401b68282631d76b7c7280353be71b0c97947", func := "loop.example/sedge/laws.FnExactRestHas", spec := "fnExactRestHas", apart := false, narrowed := true }
def FnExactRestHasUptoSaid : Prop := fnExactRestHasUptoRow.holds Try.pinned (OpenSpec.upto fnExactRestHasSpec)

/-- 'laws.FnExactRestMeet', WHERE WHAT IT READS IS OF BULK AT MOST 1048576: true; the input reads as it did. -/
def fnExactRestMeetUptoRow : OpenClaim := { program := "ythbbgkpkijlclaa", sum := "d58bb73f82ebc5581a8e64925f0401b68282631d76b7c7280353be71b0c97947", func := "loop.example/sedge/laws.FnExactRestMeet", spec := "fnExactRestMeet", recurses := true, apart := false, narrowed := true }
def FnExactRestMeetUptoSaid : Prop := fnExactRestMeetUptoRow.holds Try.pinned (OpenSpec.upto fnExactRestMeetSpec)

end Rows
end Go.Proofs.Ythbbgkpkijlclaa
