/-
  No cell of these rows narrows 'for every input' (looked for: loops, veiled, ifaces, maps, wideKeys, modest, calm, conditions, laid).
  DERIVED. THE GIVEN ROWS OF THIS SEAT. 7 by the template 'for every input the law returns true; each argument reads behind the call as it read before'; 0 by the template 'total and deterministic' (their statements: YtjpiihjgbllieaaTotals.lean).
  GIVEN WITH THE SEED: the statements are not yours to turn. If you find one false, say at which input.
  Laid BY PROGRAM, IN A SANDBOX (cutbox-rows.mjs): the forced cells as the released guide's own fill.sh prints them over the translation 8fc2054de23dd40a… (all of the seat's roots in one cut). By AI agents, Wed Nov 11 2026. No macro, syntax, notation, axiom, sorry.
-/
import Derived.Test.YtjpiihjgbllieaaChecked
import GoSem.Claim
import GoSem.ClaimJoined
import GoSem.ClaimMapViews
import Derived.JoinedTies
import Derived.KernelRfl
namespace Go.Proofs.Ytjpiihjgbllieaa
/- THE CELL 'sum', in the pinned program and in every row, IS THE sha256 OF THE DUMP (.gsa) THAT YtjpiihjgbllieaaProg.lean LOADS. Nothing in Lean hashes anything: it is a label: what it is worth is what the hold of that sum in a sandbox is worth. -/
noncomputable def Try.pinned : Pinned := { name := "ytjpiihjgbllieaa", sum := "8fc2054de23dd40aeaa7cbab2b165aa0839b1ac4b09e5897360cc9b93bea11e3", checked := Try.checked }
namespace Rows
def none {H : Type} : Left H := { results := [], args := [] }

/-- 'laws.FnExactRestOk': WHATEVER THE INPUT: true; the input reads as it did. -/
def fnExactRestOkSpec : ChangeSpec := { name := "fnExactRestOk", fn := fun _ => fun
  | [d] => { results := [.lit (.bool true)], args := [d] }
  | _ => none }
def fnExactRestOkRow : OpenClaim := { program := "ytjpiihjgbllieaa", sum := "8fc2054de23dd40aeaa7cbab2b165aa0839b1ac4b09e5897360cc9b93bea11e3", func := "loop.example/sedge/laws.FnExactRestOk", spec := "fnExactRestOk", apart := false }
def FnExactRestOkSaid : Prop := fnExactRestOkRow.holds Try.pinned (OpenSpec.ofChange fnExactRestOkSpec)

/-- ITS FALSE NEIGHBOUR: 'it returns false'. Refute it at one input. -/
def fnExactRestOkWrong : ChangeSpec := { name := "fnExactRestOk", fn := fun _ => fun
  | [d] => { results := [.lit (.bool false)], args := [d] }
  | _ => none }
def FnExactRestOkWrongFalsely : Prop := fnExactRestOkRow.holds Try.pinned (OpenSpec.ofChange fnExactRestOkWrong)

/-- 'laws.FnExactRestHas': WHATEVER THE INPUT: true; the input reads as it did. -/
def fnExactRestHasSpec : ChangeSpec := { name := "fnExactRestHas", fn := fun _ => fun
  | [d1, d2] => { results := [.lit (.bool true)], args := [d1, d2] }
  | _ => none }
def fnExactRestHasRow : OpenClaim := { program := "ytjpiihjgbllieaa", sum := "8fc2054de23dd40aeaa7cbab2b165aa0839b1ac4b09e5897360cc9b93bea11e3", func := "loop.example/sedge/laws.FnExactRestHas", spec := "fnExactRestHas", apart := false }
def FnExactRestHasSaid : Prop := fnExactRestHasRow.holds Try.pinned (OpenSpec.ofChange fnExactRestHasSpec)

/-- ITS FALSE NEIGHBOUR: 'it returns false'. Refute it at one input. -/
def fnExactRestHasWrong : ChangeSpec := { name := "fnExactRestHas", fn := fun _ => fun
  | [d1, d2] => { results := [.lit (.bool false)], args := [d1, d2] }
  | _ => none }
def FnExactRestHasWrongFalsely : Prop := fnExactRestHasRow.holds Try.pinned (OpenSpec.ofChange fnExactRestHasWrong)

/-- 'laws.FnExactRestMeet': WHATEVER THE INPUT: true; the input reads as it did. -/
def fnExactRestMeetSpec : ChangeSpec := { name := "fnExactRestMeet", fn := fun _ => fun
  | [d1, d2] => { results := [.lit (.bool true)], args := [d1, d2] }
  | _ => none }
def fnExactRestMeetRow : OpenClaim := { program := "ytjpiihjgbllieaa", sum := "8fc2054de23dd40aeaa7cbab2b165aa0839b1ac4b09e5897360cc9b93bea11e3", func := "loop.example/sedge/laws.FnExactRestMeet", spec := "fnExactRestMeet", recurses := true, apart := false }
def FnExactRestMeetSaid : Prop := fnExactRestMeetRow.holds Try.pinned (OpenSpec.ofChange fnExactRestMeetSpec)

/-- ITS FALSE NEIGHBOUR: 'it returns false'. Refute it at one input. -/
def fnExactRestMeetWrong : ChangeSpec := { name := "fnExactRestMeet", fn := fun _ => fun
  | [d1, d2] => { results := [.lit (.bool false)], args := [d1, d2] }
  | _ => none }
def FnExactRestMeetWrongFalsely : Prop := fnExactRestMeetRow.holds Try.pinned (OpenSpec.ofChange fnExactRestMeetWrong)

/-- 'laws.FnNumDo': WHATEVER THE INPUT: true; the input reads as it did. -/
def fnNumDoSpec : ChangeSpec := { name := "fnNumDo", fn := fun _ => fun
  | [d] => { results := [.lit (.bool true)], args := [d] }
  | _ => none }
def fnNumDoRow : OpenClaim := { program := "ytjpiihjgbllieaa", sum := "8fc2054de23dd40aeaa7cbab2b165aa0839b1ac4b09e5897360cc9b93bea11e3", func := "loop.example/sedge/laws.FnNumDo", spec := "fnNumDo", unfollowed := true, recurses := true, apart := false }
def FnNumDoSaid : Prop := fnNumDoRow.holds Try.pinned (OpenSpec.ofChange fnNumDoSpec)

/-- ITS FALSE NEIGHBOUR: 'it returns false'. Refute it at one input. -/
def fnNumDoWrong : ChangeSpec := { name := "fnNumDo", fn := fun _ => fun
  | [d] => { results := [.lit (.bool false)], args := [d] }
  | _ => none }
def FnNumDoWrongFalsely : Prop := fnNumDoRow.holds Try.pinned (OpenSpec.ofChange fnNumDoWrong)

/-- 'laws.FnNumRest': WHATEVER THE INPUT: true; the input reads as it did. -/
def fnNumRestSpec : ChangeSpec := { name := "fnNumRest", fn := fun _ => fun
  | [d] => { results := [.lit (.bool true)], args := [d] }
  | _ => none }
def fnNumRestRow : OpenClaim := { program := "ytjpiihjgbllieaa", sum := "8fc2054de23dd40aeaa7cbab2b165aa0839b1ac4b09e5897360cc9b93bea11e3", func := "loop.example/sedge/laws.FnNumRest", spec := "fnNumRest", unfollowed := true, recurses := true, apart := false }
def FnNumRestSaid : Prop := fnNumRestRow.holds Try.pinned (OpenSpec.ofChange fnNumRestSpec)

/-- ITS FALSE NEIGHBOUR: 'it returns false'. Refute it at one input. -/
def fnNumRestWrong : ChangeSpec := { name := "fnNumRest", fn := fun _ => fun
  | [d] => { results := [.lit (.bool false)], args := [d] }
  | _ => none }
def FnNumRestWrongFalsely : Prop := fnNumRestRow.holds Try.pinned (OpenSpec.ofChange fnNumRestWrong)

/-- 'laws.FnNumBits': WHATEVER THE INPUT: true; the input reads as it did. -/
def fnNumBitsSpec : ChangeSpec := { name := "fnNumBits", fn := fun _ => fun
  | [d] => { results := [.lit (.bool true)], args := [d] }
  | _ => none }
def fnNumBitsRow : OpenClaim := { program := "ytjpiihjgbllieaa", sum := "8fc2054de23dd40aeaa7cbab2b165aa0839b1ac4b09e5897360cc9b93bea11e3", func := "loop.example/sedge/laws.FnNumBits", spec := "fnNumBits", unfollowed := true, recurses := true, apart := false }
def FnNumBitsSaid : Prop := fnNumBitsRow.holds Try.pinned (OpenSpec.ofChange fnNumBitsSpec)

/-- ITS FALSE NEIGHBOUR: 'it returns false'. Refute it at one input. -/
def fnNumBitsWrong : ChangeSpec := { name := "fnNumBits", fn := fun _ => fun
  | [d] => { results := [.lit (.bool false)], args := [d] }
  | _ => none }
def FnNumBitsWrongFalsely : Prop := fnNumBitsRow.holds Try.pinned (OpenSpec.ofChange fnNumBitsWrong)

/-- 'laws.FnExactNumDo': WHATEVER THE INPUT: true; the input reads as it did. -/
def fnExactNumDoSpec : ChangeSpec := { name := "fnExactNumDo", fn := fun _ => fun
  | [d1, d2, d3] => { results := [.lit (.bool true)], args := [d1, d2, d3] }
  | _ => none }
def fnExactNumDoRow : OpenClaim := { program := "ytjpiihjgbllieaa", sum := "8fc2054de23dd40aeaa7cbab2b165aa0839b1ac4b09e5897360cc9b93bea11e3", func := "loop.example/sedge/laws.FnExactNumDo", spec := "fnExactNumDo", unfollowed := true, recurses := true, apart := false }
def FnExactNumDoSaid : Prop := fnExactNumDoRow.holds Try.pinned (OpenSpec.ofChange fnExactNumDoSpec)

/-- ITS FALSE NEIGHBOUR: 'it returns false'. Refute it at one input. -/
def fnExactNumDoWrong : ChangeSpec := { name := "fnExactNumDo", fn := fun _ => fun
  | [d1, d2, d3] => { results := [.lit (.bool false)], args := [d1, d2, d3] }
  | _ => none }
def FnExactNumDoWrongFalsely : Prop := fnExactNumDoRow.holds Try.pinned (OpenSpec.ofChange fnExactNumDoWrong)

/- THE SECOND FORM. 'bulk': how many values and letters a reading holds, each counted each time it is reached (what is shared counts as often as it is met; a slice's spare places count too). A statement '..UptoSaid' is the law's where the arguments, and the package variables that the reading takes, are together of bulk at most 1048576: NARROWER than '..Said'. Prove '..Said' where nothing that the law and all that it calls make is longer than what came in: it says more and counts as full. Else prove '..UptoSaid'. A law counts once. -/
mutual
def uptoBulk {H : Type} : DataW H → Nat
  | .lit (.string bytes) => bytes.length + 1
  | .lit _ => 1
  | .nil => 1
  | .ptr d => uptoBulk d + 1
  | .slice elems spare => uptoBulkAll elems + uptoBulkAll spare + 1
  | .agg parts => uptoBulkAll parts + 1
  | .iface _ d => uptoBulk d + 1
  | .map entries => uptoBulkEntries entries + 1
  | .held _ => 1
def uptoBulkAll {H : Type} : List (DataW H) → Nat
  | [] => 0
  | d :: r => uptoBulk d + uptoBulkAll r
def uptoBulkEntries {H : Type} : List (Lit × DataW H) → Nat
  | [] => 0
  | x :: r => uptoBulkEntry x + uptoBulkEntries r
def uptoBulkEntry {H : Type} : Lit × DataW H → Nat
  | (.string bytes, d) => bytes.length + uptoBulk d + 1
  | (_, d) => uptoBulk d + 1
 end
def uptoSmall : (H : Type) → List (DataW H) → Bool := fun _ ds => decide (uptoBulkAll ds ≤ 1048576)
def OpenSpec.upto (s : _root_.Go.ChangeSpec) : _root_.Go.OpenSpec := { _root_.Go.OpenSpec.ofChange s with cond := some uptoSmall }

/-- 'laws.FnExactRestOk', WHERE WHAT IT READS IS OF BULK AT MOST 1048576: true; the input reads as it did. -/
def fnExactRestOkUptoRow : OpenClaim := { program := "ytjpiihjgbllieaa", sum := "8fc2054de23dd40aeaa7cbab2b165aa0839b1ac4b09e5897360cc9b93bea11e3", func := "loop.example/sedge/laws.FnExactRestOk", spec := "fnExactRestOk", apart := false, narrowed := true }
def FnExactRestOkUptoSaid : Prop := fnExactRestOkUptoRow.holds Try.pinned (OpenSpec.upto fnExactRestOkSpec)

/-- 'laws.FnExactRestHas', WHERE WHAT IT READS IS OF BULK AT MOST 1048576: true; the input reads as it did. -/
def fnExactRestHasUptoRow : OpenClaim := { program := "ytjpiihjgbllieaa", sum := "8fc2054de23dd40aeaa7cbab2b165aa0839b1ac4b09e5897360cc9b93bea11e3", func := "loop.example/sedge/laws.FnExactRestHas", spec := "fnExactRestHas", apart := false, narrowed := true }
def FnExactRestHasUptoSaid : Prop := fnExactRestHasUptoRow.holds Try.pinned (OpenSpec.upto fnExactRestHasSpec)

/-- 'laws.FnExactRestMeet', WHERE WHAT IT READS IS OF BULK AT MOST 1048576: true; the input reads as it did. -/
def fnExactRestMeetUptoRow : OpenClaim := { program := "ytjpiihjgbllieaa", sum := "8fc2054de23dd40aeaa7cbab2b165aa0839b1ac4b09e5897360cc9b93bea11e3", func := "loop.example/sedge/laws.FnExactRestMeet", spec := "fnExactRestMeet", recurses := true, apart := false, narrowed := true }
def FnExactRestMeetUptoSaid : Prop := fnExactRestMeetUptoRow.holds Try.pinned (OpenSpec.upto fnExactRestMeetSpec)

/-- 'laws.FnNumDo', WHERE WHAT IT READS IS OF BULK AT MOST 1048576: true; the input reads as it did. -/
def fnNumDoUptoRow : OpenClaim := { program := "ytjpiihjgbllieaa", sum := "8fc2054de23dd40aeaa7cbab2b165aa0839b1ac4b09e5897360cc9b93bea11e3", func := "loop.example/sedge/laws.FnNumDo", spec := "fnNumDo", unfollowed := true, recurses := true, apart := false, narrowed := true }
def FnNumDoUptoSaid : Prop := fnNumDoUptoRow.holds Try.pinned (OpenSpec.upto fnNumDoSpec)

/-- 'laws.FnNumRest', WHERE WHAT IT READS IS OF BULK AT MOST 1048576: true; the input reads as it did. -/
def fnNumRestUptoRow : OpenClaim := { program := "ytjpiihjgbllieaa", sum := "8fc2054de23dd40aeaa7cbab2b165aa0839b1ac4b09e5897360cc9b93bea11e3", func := "loop.example/sedge/laws.FnNumRest", spec := "fnNumRest", unfollowed := true, recurses := true, apart := false, narrowed := true }
def FnNumRestUptoSaid : Prop := fnNumRestUptoRow.holds Try.pinned (OpenSpec.upto fnNumRestSpec)

/-- 'laws.FnNumBits', WHERE WHAT IT READS IS OF BULK AT MOST 1048576: true; the input reads as it did. -/
def fnNumBitsUptoRow : OpenClaim := { program := "ytjpiihjgbllieaa", sum := "8fc2054de23dd40aeaa7cbab2b165aa0839b1ac4b09e5897360cc9b93bea11e3", func := "loop.example/sedge/laws.FnNumBits", spec := "fnNumBits", unfollowed := true, recurses := true, apart := false, narrowed := true }
def FnNumBitsUptoSaid : Prop := fnNumBitsUptoRow.holds Try.pinned (OpenSpec.upto fnNumBitsSpec)

/-- 'laws.FnExactNumDo', WHERE WHAT IT READS IS OF BULK AT MOST 1048576: true; the input reads as it did. -/
def fnExactNumDoUptoRow : OpenClaim := { program := "ytjpiihjgbllieaa", sum := "8fc2054de23dd40aeaa7cbab2b165aa0839b1ac4b09e5897360cc9b93bea11e3", func := "loop.example/sedge/laws.FnExactNumDo", spec := "fnExactNumDo", unfollowed := true, recurses := true, apart := false, narrowed := true }
def FnExactNumDoUptoSaid : Prop := fnExactNumDoUptoRow.holds Try.pinned (OpenSpec.upto fnExactNumDoSpec)

end Rows
end Go.Proofs.Ytjpiihjgbllieaa
