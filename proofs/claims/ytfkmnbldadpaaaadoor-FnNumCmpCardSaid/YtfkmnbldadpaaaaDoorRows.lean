/-
  NARROWER THAN 'FOR EVERY INPUT', by the rows' own cells (each row's printed sentence says how): FnNumCmp: laid · FnExactCmpNot: laid · FnExactCmpTurn: laid.
  DERIVED. THE GIVEN ROWS OF THIS SEAT. 3 by the template 'for every input the law returns true; each argument reads behind the call as it read before'; 0 by the template 'total and deterministic' (their statements: YtfkmnbldadpaaaaDoorTotals.lean).
  GIVEN WITH THE SEED: the statements are not yours to turn. If you find one false, say at which input.
  Laid BY PROGRAM, IN A SANDBOX (cutbox-rows.mjs): the forced cells as the released guide's own fill.sh prints them over the translation 8753f7a6ff626636… (all of the seat's roots in one cut). By AI agents, Wed Nov 11 2026. No macro, syntax, notation, axiom, sorry.
-/
import Derived.Test.YtfkmnbldadpaaaaDoorChecked
import GoSem.Claim
import GoSem.ClaimJoined
import GoSem.ClaimMapViews
import Derived.JoinedTies
import Derived.KernelRfl
namespace Go.Proofs.YtfkmnbldadpaaaaDoor
/- THE CELL 'sum', in the pinned program and in every row, IS THE sha256 OF THE DUMP (.gsa) THAT YtfkmnbldadpaaaaDoorProg.lean LOADS. Nothing in Lean hashes anything: it is a label: what it is worth is what the hold of that sum in a sandbox is worth. -/
noncomputable def Tryd.pinned : Pinned := { name := "ytfkmnbldadpaaaadoor", sum := "8753f7a6ff62663626949053cbcf071607c58e352206d726f8fb578e99ba5721", checked := Tryd.checked }
namespace Rows
def none {H : Type} : Left H := { results := [], args := [] }

/- WHAT THE LISTED PACKAGE-LEVEL VARIABLES READ AS WHEN THE CALL BEGINS. Each datum BY PROGRAM (the guide's laid-datum.mjs) off the statement by which the dump's own 'gosem.cut.vars' lays the variable. In a bare row this is a premise. The card (YtfkmnbldadpaaaaDoorCards.lean) ties it to the program's text. -/
def laid_loop_example_sedge_impl_cmpOpposites {H : Type} : DataW H := .agg [.lit (.int .i64 0), .lit (.int .i64 2), .lit (.int .i64 1), .lit (.int .i64 6), .lit (.int .i64 5), .lit (.int .i64 4), .lit (.int .i64 3)]
def laid_loop_example_sedge_impl_cmpTurned {H : Type} : DataW H := .agg [.lit (.int .i64 0), .lit (.int .i64 1), .lit (.int .i64 2), .lit (.int .i64 5), .lit (.int .i64 6), .lit (.int .i64 3), .lit (.int .i64 4)]

/-- 'laws.FnNumCmp': WHATEVER THE INPUT: true; the input reads as it did. -/
def fnNumCmpSpec : ChangeSpec := { name := "fnNumCmp", vars := ["loop.example/sedge/impl.cmpOpposites", "loop.example/sedge/impl.cmpTurned"], fn := fun _ => fun
  | [d, g1, g2] => { results := [.lit (.bool true)], args := [d], vars := [g1, g2] }
  | _ => none }
def fnNumCmpRow : OpenClaim := { program := "ytfkmnbldadpaaaadoor", sum := "8753f7a6ff62663626949053cbcf071607c58e352206d726f8fb578e99ba5721", func := "loop.example/sedge/laws.FnNumCmp", spec := "fnNumCmp", named := ["loop.example/sedge/impl.cmpOpposites", "loop.example/sedge/impl.cmpTurned"], apart := false, laid := [("loop.example/sedge/impl.cmpOpposites", laid_loop_example_sedge_impl_cmpOpposites), ("loop.example/sedge/impl.cmpTurned", laid_loop_example_sedge_impl_cmpTurned)] }
def FnNumCmpSaid : Prop := fnNumCmpRow.holds Tryd.pinned (OpenSpec.ofChange fnNumCmpSpec)

/-- ITS FALSE NEIGHBOUR: 'it returns false'. Refute it at one input. -/
def fnNumCmpWrong : ChangeSpec := { name := "fnNumCmp", vars := ["loop.example/sedge/impl.cmpOpposites", "loop.example/sedge/impl.cmpTurned"], fn := fun _ => fun
  | [d, g1, g2] => { results := [.lit (.bool false)], args := [d], vars := [g1, g2] }
  | _ => none }
def FnNumCmpWrongFalsely : Prop := fnNumCmpRow.holds Tryd.pinned (OpenSpec.ofChange fnNumCmpWrong)

/-- 'laws.FnExactCmpNot': WHATEVER THE INPUT: true; the input reads as it did. -/
def fnExactCmpNotSpec : ChangeSpec := { name := "fnExactCmpNot", vars := ["loop.example/sedge/impl.cmpOpposites"], fn := fun _ => fun
  | [d, g1] => { results := [.lit (.bool true)], args := [d], vars := [g1] }
  | _ => none }
def fnExactCmpNotRow : OpenClaim := { program := "ytfkmnbldadpaaaadoor", sum := "8753f7a6ff62663626949053cbcf071607c58e352206d726f8fb578e99ba5721", func := "loop.example/sedge/laws.FnExactCmpNot", spec := "fnExactCmpNot", named := ["loop.example/sedge/impl.cmpOpposites"], apart := false, laid := [("loop.example/sedge/impl.cmpOpposites", laid_loop_example_sedge_impl_cmpOpposites)] }
def FnExactCmpNotSaid : Prop := fnExactCmpNotRow.holds Tryd.pinned (OpenSpec.ofChange fnExactCmpNotSpec)

/-- ITS FALSE NEIGHBOUR: 'it returns false'. Refute it at one input. -/
def fnExactCmpNotWrong : ChangeSpec := { name := "fnExactCmpNot", vars := ["loop.example/sedge/impl.cmpOpposites"], fn := fun _ => fun
  | [d, g1] => { results := [.lit (.bool false)], args := [d], vars := [g1] }
  | _ => none }
def FnExactCmpNotWrongFalsely : Prop := fnExactCmpNotRow.holds Tryd.pinned (OpenSpec.ofChange fnExactCmpNotWrong)

/-- 'laws.FnExactCmpTurn': WHATEVER THE INPUT: true; the input reads as it did. -/
def fnExactCmpTurnSpec : ChangeSpec := { name := "fnExactCmpTurn", vars := ["loop.example/sedge/impl.cmpTurned"], fn := fun _ => fun
  | [d, g1] => { results := [.lit (.bool true)], args := [d], vars := [g1] }
  | _ => none }
def fnExactCmpTurnRow : OpenClaim := { program := "ytfkmnbldadpaaaadoor", sum := "8753f7a6ff62663626949053cbcf071607c58e352206d726f8fb578e99ba5721", func := "loop.example/sedge/laws.FnExactCmpTurn", spec := "fnExactCmpTurn", named := ["loop.example/sedge/impl.cmpTurned"], apart := false, laid := [("loop.example/sedge/impl.cmpTurned", laid_loop_example_sedge_impl_cmpTurned)] }
def FnExactCmpTurnSaid : Prop := fnExactCmpTurnRow.holds Tryd.pinned (OpenSpec.ofChange fnExactCmpTurnSpec)

/-- ITS FALSE NEIGHBOUR: 'it returns false'. Refute it at one input. -/
def fnExactCmpTurnWrong : ChangeSpec := { name := "fnExactCmpTurn", vars := ["loop.example/sedge/impl.cmpTurned"], fn := fun _ => fun
  | [d, g1] => { results := [.lit (.bool false)], args := [d], vars := [g1] }
  | _ => none }
def FnExactCmpTurnWrongFalsely : Prop := fnExactCmpTurnRow.holds Tryd.pinned (OpenSpec.ofChange fnExactCmpTurnWrong)

/- THE SECOND FORM. 'bulk': how many values and letters a reading holds, each counted each time it is reached (what is shared counts as often as it is met; a slice's spare places count too). A statement '..UptoSaid' is the law's where the arguments, and the package variables that the reading takes, are together of bulk at most 1048576: NARROWER than '..Said'. Prove '..Said' where nothing that the law and all that it calls make is longer than what came in: it says more and counts as full. Else prove '..UptoSaid'. A law counts once. -/
mutual
def uptoBulk {H : Type} : DataW H → Nat
  | .lit (.string bytes) => bytes.length + 1
  | .lit _ => 1
  | .nil => 1
  | .ptr d => uptoBulk d + 1
  | .slice elems spare => uptoBulkAll elems + uptoBulkAll spare + 1
  | .agg parts => uptoBulkAll parts + 1
  | .iface _ d => uptoBulk d + 1
  | .map entries => uptoBulkEntries entries + 1
  | .held _ => 1
def uptoBulkAll {H : Type} : List (DataW H) → Nat
  | [] => 0
  | d :: r => uptoBulk d + uptoBulkAll r
def uptoBulkEntries {H : Type} : List (Lit × DataW H) → Nat
  | [] => 0
  | x :: r => uptoBulkEntry x + uptoBulkEntries r
def uptoBulkEntry {H : Type} : Lit × DataW H → Nat
  | (.string bytes, d) => bytes.length + uptoBulk d + 1
  | (_, d) => uptoBulk d + 1
 end
def uptoSmall : (H : Type) → List (DataW H) → Bool := fun _ ds => decide (uptoBulkAll ds ≤ 1048576)
def OpenSpec.upto (s : _root_.Go.ChangeSpec) : _root_.Go.OpenSpec := { _root_.Go.OpenSpec.ofChange s with cond := some uptoSmall }

/-- 'laws.FnNumCmp', WHERE WHAT IT READS IS OF BULK AT MOST 1048576: true; the input reads as it did. -/
def fnNumCmpUptoRow : OpenClaim := { program := "ytfkmnbldadpaaaadoor", sum := "8753f7a6ff62663626949053cbcf071607c58e352206d726f8fb578e99ba5721", func := "loop.example/sedge/laws.FnNumCmp", spec := "fnNumCmp", named := ["loop.example/sedge/impl.cmpOpposites", "loop.example/sedge/impl.cmpTurned"], apart := false, laid := [("loop.example/sedge/impl.cmpOpposites", laid_loop_example_sedge_impl_cmpOpposites), ("loop.example/sedge/impl.cmpTurned", laid_loop_example_sedge_impl_cmpTurned)], narrowed := true }
def FnNumCmpUptoSaid : Prop := fnNumCmpUptoRow.holds Tryd.pinned (OpenSpec.upto fnNumCmpSpec)

/-- 'laws.FnExactCmpNot', WHERE WHAT IT READS IS OF BULK AT MOST 1048576: true; the input reads as it did. -/
def fnExactCmpNotUptoRow : OpenClaim := { program := "ytfkmnbldadpaaaadoor", sum := "8753f7a6ff62663626949053cbcf071607c58e352206d726f8fb578e99ba5721", func := "loop.example/sedge/laws.FnExactCmpNot", spec := "fnExactCmpNot", named := ["loop.example/sedge/impl.cmpOpposites"], apart := false, laid := [("loop.example/sedge/impl.cmpOpposites", laid_loop_example_sedge_impl_cmpOpposites)], narrowed := true }
def FnExactCmpNotUptoSaid : Prop := fnExactCmpNotUptoRow.holds Tryd.pinned (OpenSpec.upto fnExactCmpNotSpec)

/-- 'laws.FnExactCmpTurn', WHERE WHAT IT READS IS OF BULK AT MOST 1048576: true; the input reads as it did. -/
def fnExactCmpTurnUptoRow : OpenClaim := { program := "ytfkmnbldadpaaaadoor", sum := "8753f7a6ff62663626949053cbcf071607c58e352206d726f8fb578e99ba5721", func := "loop.example/sedge/laws.FnExactCmpTurn", spec := "fnExactCmpTurn", named := ["loop.example/sedge/impl.cmpTurned"], apart := false, laid := [("loop.example/sedge/impl.cmpTurned", laid_loop_example_sedge_impl_cmpTurned)], narrowed := true }
def FnExactCmpTurnUptoSaid : Prop := fnExactCmpTurnUptoRow.holds Tryd.pinned (OpenSpec.upto fnExactCmpTurnSpec)

end Rows
end Go.Proofs.YtfkmnbldadpaaaaDoor
