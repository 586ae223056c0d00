/-
  NARROWER THAN 'FOR EVERY INPUT', by the rows' own cells (each row's printed sentence says how): FnValMake: laid · FnValLattice: laid · FnValCmp: laid · FnExactValMake: laid · FnExactValOk: laid · FnExactValHas: laid · FnExactValIn: laid · FnExactValJoin: laid · FnExactValMeet: laid · FnExactValWiden: laid · FnExactValCmp: laid · FnExactRangeDo: laid · FnRangeDo: laid · FnRangeOne: laid · FnRangeFaults: laid · FnRangeMore: laid · FnRestLattice: laid · FnRestDo: laid.
  DERIVED. THE GIVEN ROWS OF THIS SEAT. 18 by the template 'for every input the law returns true; each argument reads behind the call as it read before'; 0 by the template 'total and deterministic' (their statements: YthbbgkpkijlclaaDoorTotals.lean).
  GIVEN WITH THE SEED: the statements are not yours to turn. If you find one false, say at which input.
  Laid BY PROGRAM, IN A SANDBOX (cutbox-rows.mjs): the forced cells as the released guide's own fill.sh prints them over the translation 8c65e4fbb29bc51b… (all of the seat's roots in one cut). By AI agents, Wed Nov 11 2026. No macro, syntax, notation, axiom, sorry.
-/
import Derived.Test.YthbbgkpkijlclaaDoorChecked
import GoSem.Claim
import GoSem.ClaimJoined
import GoSem.ClaimMapViews
import Derived.JoinedTies
import Derived.KernelRfl
namespace Go.Proofs.YthbbgkpkijlclaaDoor
/- THE CELL 'sum', in the pinned program and in every row, IS THE sha256 OF THE DUMP (.gsa) THAT YthbbgkpkijlclaaDoorProg.lean LOADS. Nothing in Lean hashes anything: it is a label: what it is worth is what the hold of that sum in a sandbox is worth. -/
noncomputable def Tryd.pinned : Pinned := { name := "ythbbgkpkijlclaadoor", sum := "8c65e4fbb29bc51b761e8c4dc76cdfbb18b2095c14447c630c3b572ce41aeec6", checked := Tryd.checked }
namespace Rows
def none {H : Type} : Left H := { results := [], args := [] }

/- WHAT THE LISTED PACKAGE-LEVEL VARIABLES READ AS WHEN THE CALL BEGINS. Each datum BY PROGRAM (the guide's laid-datum.mjs) off the statement by which the dump's own 'gosem.cut.vars' lays the variable. In a bare row this is a premise. The card (YthbbgkpkijlclaaDoorCards.lean) ties it to the program's text. -/
def laid_loop_example_sedge_impl_valNone {H : Type} : DataW H := .agg [.lit (.int .i64 1), .lit (.int .i64 0), .lit (.int .i64 0), .lit (.int .i64 0)]
def laid_loop_example_sedge_impl_rangeNone {H : Type} : DataW H := .agg [.lit (.int .i64 1), .lit (.int .i64 0)]
def laid_loop_example_sedge_impl_restAll {H : Type} : DataW H := .agg [.lit (.int .i64 1), .lit (.int .i64 0)]
def laid_loop_example_sedge_impl_cmpTurned {H : Type} : DataW H := .agg [.lit (.int .i64 0), .lit (.int .i64 1), .lit (.int .i64 2), .lit (.int .i64 5), .lit (.int .i64 6), .lit (.int .i64 3), .lit (.int .i64 4)]
def laid_loop_example_sedge_impl_rangeAll {H : Type} : DataW H := .agg [.lit (.int .i64 (-2147483648)), .lit (.int .i64 2147483647)]
def laid_loop_example_sedge_impl_rangeBelow0 {H : Type} : DataW H := .agg [.lit (.int .i64 (-2147483648)), .lit (.int .i64 (-1))]
def laid_loop_example_sedge_impl_rangeAbove0 {H : Type} : DataW H := .agg [.lit (.int .i64 1), .lit (.int .i64 2147483647)]
def laid_loop_example_sedge_impl_rangeShifts {H : Type} : DataW H := .agg [.lit (.int .i64 0), .lit (.int .i64 31)]

/-- 'laws.FnValMake': WHATEVER THE INPUT: true; the input reads as it did. -/
def fnValMakeSpec : ChangeSpec := { name := "fnValMake", vars := ["loop.example/sedge/impl.valNone", "loop.example/sedge/impl.rangeNone"], fn := fun _ => fun
  | [d, g1, g2] => { results := [.lit (.bool true)], args := [d], vars := [g1, g2] }
  | _ => none }
def fnValMakeRow : OpenClaim := { program := "ythbbgkpkijlclaadoor", sum := "8c65e4fbb29bc51b761e8c4dc76cdfbb18b2095c14447c630c3b572ce41aeec6", func := "loop.example/sedge/laws.FnValMake", spec := "fnValMake", unfollowed := true, recurses := true, named := ["loop.example/sedge/impl.valNone", "loop.example/sedge/impl.rangeNone"], apart := false, laid := [("loop.example/sedge/impl.valNone", laid_loop_example_sedge_impl_valNone), ("loop.example/sedge/impl.rangeNone", laid_loop_example_sedge_impl_rangeNone)] }
def FnValMakeSaid : Prop := fnValMakeRow.holds Tryd.pinned (OpenSpec.ofChange fnValMakeSpec)

/-- ITS FALSE NEIGHBOUR: 'it returns false'. Refute it at one input. -/
def fnValMakeWrong : ChangeSpec := { name := "fnValMake", vars := ["loop.example/sedge/impl.valNone", "loop.example/sedge/impl.rangeNone"], fn := fun _ => fun
  | [d, g1, g2] => { results := [.lit (.bool false)], args := [d], vars := [g1, g2] }
  | _ => none }
def FnValMakeWrongFalsely : Prop := fnValMakeRow.holds Tryd.pinned (OpenSpec.ofChange fnValMakeWrong)

/-- 'laws.FnValLattice': WHATEVER THE INPUT: true; the input reads as it did. -/
def fnValLatticeSpec : ChangeSpec := { name := "fnValLattice", vars := ["loop.example/sedge/impl.valNone", "loop.example/sedge/impl.rangeNone", "loop.example/sedge/impl.restAll"], fn := fun _ => fun
  | [d, g1, g2, g3] => { results := [.lit (.bool true)], args := [d], vars := [g1, g2, g3] }
  | _ => none }
def fnValLatticeRow : OpenClaim := { program := "ythbbgkpkijlclaadoor", sum := "8c65e4fbb29bc51b761e8c4dc76cdfbb18b2095c14447c630c3b572ce41aeec6", func := "loop.example/sedge/laws.FnValLattice", spec := "fnValLattice", unfollowed := true, recurses := true, named := ["loop.example/sedge/impl.valNone", "loop.example/sedge/impl.rangeNone", "loop.example/sedge/impl.restAll"], apart := false, laid := [("loop.example/sedge/impl.valNone", laid_loop_example_sedge_impl_valNone), ("loop.example/sedge/impl.rangeNone", laid_loop_example_sedge_impl_rangeNone), ("loop.example/sedge/impl.restAll", laid_loop_example_sedge_impl_restAll)] }
def FnValLatticeSaid : Prop := fnValLatticeRow.holds Tryd.pinned (OpenSpec.ofChange fnValLatticeSpec)

/-- ITS FALSE NEIGHBOUR: 'it returns false'. Refute it at one input. -/
def fnValLatticeWrong : ChangeSpec := { name := "fnValLattice", vars := ["loop.example/sedge/impl.valNone", "loop.example/sedge/impl.rangeNone", "loop.example/sedge/impl.restAll"], fn := fun _ => fun
  | [d, g1, g2, g3] => { results := [.lit (.bool false)], args := [d], vars := [g1, g2, g3] }
  | _ => none }
def FnValLatticeWrongFalsely : Prop := fnValLatticeRow.holds Tryd.pinned (OpenSpec.ofChange fnValLatticeWrong)

/-- 'laws.FnValCmp': WHATEVER THE INPUT: true; the input reads as it did. -/
def fnValCmpSpec : ChangeSpec := { name := "fnValCmp", vars := ["loop.example/sedge/impl.valNone", "loop.example/sedge/impl.rangeNone", "loop.example/sedge/impl.cmpTurned"], fn := fun _ => fun
  | [d, g1, g2, g3] => { results := [.lit (.bool true)], args := [d], vars := [g1, g2, g3] }
  | _ => none }
def fnValCmpRow : OpenClaim := { program := "ythbbgkpkijlclaadoor", sum := "8c65e4fbb29bc51b761e8c4dc76cdfbb18b2095c14447c630c3b572ce41aeec6", func := "loop.example/sedge/laws.FnValCmp", spec := "fnValCmp", unfollowed := true, recurses := true, named := ["loop.example/sedge/impl.valNone", "loop.example/sedge/impl.rangeNone", "loop.example/sedge/impl.cmpTurned"], apart := false, laid := [("loop.example/sedge/impl.valNone", laid_loop_example_sedge_impl_valNone), ("loop.example/sedge/impl.cmpTurned", laid_loop_example_sedge_impl_cmpTurned), ("loop.example/sedge/impl.rangeNone", laid_loop_example_sedge_impl_rangeNone)] }
def FnValCmpSaid : Prop := fnValCmpRow.holds Tryd.pinned (OpenSpec.ofChange fnValCmpSpec)

/-- ITS FALSE NEIGHBOUR: 'it returns false'. Refute it at one input. -/
def fnValCmpWrong : ChangeSpec := { name := "fnValCmp", vars := ["loop.example/sedge/impl.valNone", "loop.example/sedge/impl.rangeNone", "loop.example/sedge/impl.cmpTurned"], fn := fun _ => fun
  | [d, g1, g2, g3] => { results := [.lit (.bool false)], args := [d], vars := [g1, g2, g3] }
  | _ => none }
def FnValCmpWrongFalsely : Prop := fnValCmpRow.holds Tryd.pinned (OpenSpec.ofChange fnValCmpWrong)

/-- 'laws.FnExactValMake': WHATEVER THE INPUT: true; the input reads as it did. -/
def fnExactValMakeSpec : ChangeSpec := { name := "fnExactValMake", vars := ["loop.example/sedge/impl.valNone", "loop.example/sedge/impl.rangeNone"], fn := fun _ => fun
  | [d1, d2, g1, g2] => { results := [.lit (.bool true)], args := [d1, d2], vars := [g1, g2] }
  | _ => none }
def fnExactValMakeRow : OpenClaim := { program := "ythbbgkpkijlclaadoor", sum := "8c65e4fbb29bc51b761e8c4dc76cdfbb18b2095c14447c630c3b572ce41aeec6", func := "loop.example/sedge/laws.FnExactValMake", spec := "fnExactValMake", unfollowed := true, recurses := true, named := ["loop.example/sedge/impl.valNone", "loop.example/sedge/impl.rangeNone"], apart := false, laid := [("loop.example/sedge/impl.valNone", laid_loop_example_sedge_impl_valNone), ("loop.example/sedge/impl.rangeNone", laid_loop_example_sedge_impl_rangeNone)] }
def FnExactValMakeSaid : Prop := fnExactValMakeRow.holds Tryd.pinned (OpenSpec.ofChange fnExactValMakeSpec)

/-- ITS FALSE NEIGHBOUR: 'it returns false'. Refute it at one input. -/
def fnExactValMakeWrong : ChangeSpec := { name := "fnExactValMake", vars := ["loop.example/sedge/impl.valNone", "loop.example/sedge/impl.rangeNone"], fn := fun _ => fun
  | [d1, d2, g1, g2] => { results := [.lit (.bool false)], args := [d1, d2], vars := [g1, g2] }
  | _ => none }
def FnExactValMakeWrongFalsely : Prop := fnExactValMakeRow.holds Tryd.pinned (OpenSpec.ofChange fnExactValMakeWrong)

/-- 'laws.FnExactValOk': WHATEVER THE INPUT: true; the input reads as it did. -/
def fnExactValOkSpec : ChangeSpec := { name := "fnExactValOk", vars := ["loop.example/sedge/impl.valNone", "loop.example/sedge/impl.rangeNone"], fn := fun _ => fun
  | [d, g1, g2] => { results := [.lit (.bool true)], args := [d], vars := [g1, g2] }
  | _ => none }
def fnExactValOkRow : OpenClaim := { program := "ythbbgkpkijlclaadoor", sum := "8c65e4fbb29bc51b761e8c4dc76cdfbb18b2095c14447c630c3b572ce41aeec6", func := "loop.example/sedge/laws.FnExactValOk", spec := "fnExactValOk", unfollowed := true, recurses := true, named := ["loop.example/sedge/impl.valNone", "loop.example/sedge/impl.rangeNone"], apart := false, laid := [("loop.example/sedge/impl.valNone", laid_loop_example_sedge_impl_valNone), ("loop.example/sedge/impl.rangeNone", laid_loop_example_sedge_impl_rangeNone)] }
def FnExactValOkSaid : Prop := fnExactValOkRow.holds Tryd.pinned (OpenSpec.ofChange fnExactValOkSpec)

/-- ITS FALSE NEIGHBOUR: 'it returns false'. Refute it at one input. -/
def fnExactValOkWrong : ChangeSpec := { name := "fnExactValOk", vars := ["loop.example/sedge/impl.valNone", "loop.example/sedge/impl.rangeNone"], fn := fun _ => fun
  | [d, g1, g2] => { results := [.lit (.bool false)], args := [d], vars := [g1, g2] }
  | _ => none }
def FnExactValOkWrongFalsely : Prop := fnExactValOkRow.holds Tryd.pinned (OpenSpec.ofChange fnExactValOkWrong)

/-- 'laws.FnExactValHas': WHATEVER THE INPUT: true; the input reads as it did. -/
def fnExactValHasSpec : ChangeSpec := { name := "fnExactValHas", vars := ["loop.example/sedge/impl.valNone", "loop.example/sedge/impl.rangeNone"], fn := fun _ => fun
  | [d1, d2, g1, g2] => { results := [.lit (.bool true)], args := [d1, d2], vars := [g1, g2] }
  | _ => none }
def fnExactValHasRow : OpenClaim := { program := "ythbbgkpkijlclaadoor", sum := "8c65e4fbb29bc51b761e8c4dc76cdfbb18b2095c14447c630c3b572ce41aeec6", func := "loop.example/sedge/laws.FnExactValHas", spec := "fnExactValHas", unfollowed := true, recurses := true, named := ["loop.example/sedge/impl.valNone", "loop.example/sedge/impl.rangeNone"], apart := false, laid := [("loop.example/sedge/impl.valNone", laid_loop_example_sedge_impl_valNone), ("loop.example/sedge/impl.rangeNone", laid_loop_example_sedge_impl_rangeNone)] }
def FnExactValHasSaid : Prop := fnExactValHasRow.holds Tryd.pinned (OpenSpec.ofChange fnExactValHasSpec)

/-- ITS FALSE NEIGHBOUR: 'it returns false'. Refute it at one input. -/
def fnExactValHasWrong : ChangeSpec := { name := "fnExactValHas", vars := ["loop.example/sedge/impl.valNone", "loop.example/sedge/impl.rangeNone"], fn := fun _ => fun
  | [d1, d2, g1, g2] => { results := [.lit (.bool false)], args := [d1, d2], vars := [g1, g2] }
  | _ => none }
def FnExactValHasWrongFalsely : Prop := fnExactValHasRow.holds Tryd.pinned (OpenSpec.ofChange fnExactValHasWrong)

/-- 'laws.FnExactValIn': WHATEVER THE INPUT: true; the input reads as it did. -/
def fnExactValInSpec : ChangeSpec := { name := "fnExactValIn", vars := ["loop.example/sedge/impl.valNone", "loop.example/sedge/impl.rangeNone"], fn := fun _ => fun
  | [d1, d2, g1, g2] => { results := [.lit (.bool true)], args := [d1, d2], vars := [g1, g2] }
  | _ => none }
def fnExactValInRow : OpenClaim := { program := "ythbbgkpkijlclaadoor", sum := "8c65e4fbb29bc51b761e8c4dc76cdfbb18b2095c14447c630c3b572ce41aeec6", func := "loop.example/sedge/laws.FnExactValIn", spec := "fnExactValIn", unfollowed := true, recurses := true, named := ["loop.example/sedge/impl.valNone", "loop.example/sedge/impl.rangeNone"], apart := false, laid := [("loop.example/sedge/impl.valNone", laid_loop_example_sedge_impl_valNone), ("loop.example/sedge/impl.rangeNone", laid_loop_example_sedge_impl_rangeNone)] }
def FnExactValInSaid : Prop := fnExactValInRow.holds Tryd.pinned (OpenSpec.ofChange fnExactValInSpec)

/-- ITS FALSE NEIGHBOUR: 'it returns false'. Refute it at one input. -/
def fnExactValInWrong : ChangeSpec := { name := "fnExactValIn", vars := ["loop.example/sedge/impl.valNone", "loop.example/sedge/impl.rangeNone"], fn := fun _ => fun
  | [d1, d2, g1, g2] => { results := [.lit (.bool false)], args := [d1, d2], vars := [g1, g2] }
  | _ => none }
def FnExactValInWrongFalsely : Prop := fnExactValInRow.holds Tryd.pinned (OpenSpec.ofChange fnExactValInWrong)

/-- 'laws.FnExactValJoin': WHATEVER THE INPUT: true; the input reads as it did. -/
def fnExactValJoinSpec : ChangeSpec := { name := "fnExactValJoin", vars := ["loop.example/sedge/impl.valNone", "loop.example/sedge/impl.rangeNone", "loop.example/sedge/impl.restAll"], fn := fun _ => fun
  | [d1, d2, g1, g2, g3] => { results := [.lit (.bool true)], args := [d1, d2], vars := [g1, g2, g3] }
  | _ => none }
def fnExactValJoinRow : OpenClaim := { program := "ythbbgkpkijlclaadoor", sum := "8c65e4fbb29bc51b761e8c4dc76cdfbb18b2095c14447c630c3b572ce41aeec6", func := "loop.example/sedge/laws.FnExactValJoin", spec := "fnExactValJoin", unfollowed := true, recurses := true, named := ["loop.example/sedge/impl.valNone", "loop.example/sedge/impl.rangeNone", "loop.example/sedge/impl.restAll"], apart := false, laid := [("loop.example/sedge/impl.valNone", laid_loop_example_sedge_impl_valNone), ("loop.example/sedge/impl.rangeNone", laid_loop_example_sedge_impl_rangeNone), ("loop.example/sedge/impl.restAll", laid_loop_example_sedge_impl_restAll)] }
def FnExactValJoinSaid : Prop := fnExactValJoinRow.holds Tryd.pinned (OpenSpec.ofChange fnExactValJoinSpec)

/-- ITS FALSE NEIGHBOUR: 'it returns false'. Refute it at one input. -/
def fnExactValJoinWrong : ChangeSpec := { name := "fnExactValJoin", vars := ["loop.example/sedge/impl.valNone", "loop.example/sedge/impl.rangeNone", "loop.example/sedge/impl.restAll"], fn := fun _ => fun
  | [d1, d2, g1, g2, g3] => { results := [.lit (.bool false)], args := [d1, d2], vars := [g1, g2, g3] }
  | _ => none }
def FnExactValJoinWrongFalsely : Prop := fnExactValJoinRow.holds Tryd.pinned (OpenSpec.ofChange fnExactValJoinWrong)

/-- 'laws.FnExactValMeet': WHATEVER THE INPUT: true; the input reads as it did. -/
def fnExactValMeetSpec : ChangeSpec := { name := "fnExactValMeet", vars := ["loop.example/sedge/impl.valNone", "loop.example/sedge/impl.rangeNone"], fn := fun _ => fun
  | [d1, d2, g1, g2] => { results := [.lit (.bool true)], args := [d1, d2], vars := [g1, g2] }
  | _ => none }
def fnExactValMeetRow : OpenClaim := { program := "ythbbgkpkijlclaadoor", sum := "8c65e4fbb29bc51b761e8c4dc76cdfbb18b2095c14447c630c3b572ce41aeec6", func := "loop.example/sedge/laws.FnExactValMeet", spec := "fnExactValMeet", unfollowed := true, recurses := true, named := ["loop.example/sedge/impl.valNone", "loop.example/sedge/impl.rangeNone"], apart := false, laid := [("loop.example/sedge/impl.valNone", laid_loop_example_sedge_impl_valNone), ("loop.example/sedge/impl.rangeNone", laid_loop_example_sedge_impl_rangeNone)] }
def FnExactValMeetSaid : Prop := fnExactValMeetRow.holds Tryd.pinned (OpenSpec.ofChange fnExactValMeetSpec)

/-- ITS FALSE NEIGHBOUR: 'it returns false'. Refute it at one input. -/
def fnExactValMeetWrong : ChangeSpec := { name := "fnExactValMeet", vars := ["loop.example/sedge/impl.valNone", "loop.example/sedge/impl.rangeNone"], fn := fun _ => fun
  | [d1, d2, g1, g2] => { results := [.lit (.bool false)], args := [d1, d2], vars := [g1, g2] }
  | _ => none }
def FnExactValMeetWrongFalsely : Prop := fnExactValMeetRow.holds Tryd.pinned (OpenSpec.ofChange fnExactValMeetWrong)

/-- 'laws.FnExactValWiden': WHATEVER THE INPUT: true; the input reads as it did. -/
def fnExactValWidenSpec : ChangeSpec := { name := "fnExactValWiden", vars := ["loop.example/sedge/impl.valNone", "loop.example/sedge/impl.rangeNone", "loop.example/sedge/impl.restAll"], fn := fun _ => fun
  | [d1, d2, d3, g1, g2, g3] => { results := [.lit (.bool true)], args := [d1, d2, d3], vars := [g1, g2, g3] }
  | _ => none }
def fnExactValWidenRow : OpenClaim := { program := "ythbbgkpkijlclaadoor", sum := "8c65e4fbb29bc51b761e8c4dc76cdfbb18b2095c14447c630c3b572ce41aeec6", func := "loop.example/sedge/laws.FnExactValWiden", spec := "fnExactValWiden", unfollowed := true, recurses := true, named := ["loop.example/sedge/impl.valNone", "loop.example/sedge/impl.rangeNone", "loop.example/sedge/impl.restAll"], apart := false, laid := [("loop.example/sedge/impl.valNone", laid_loop_example_sedge_impl_valNone), ("loop.example/sedge/impl.rangeNone", laid_loop_example_sedge_impl_rangeNone), ("loop.example/sedge/impl.restAll", laid_loop_example_sedge_impl_restAll)] }
def FnExactValWidenSaid : Prop := fnExactValWidenRow.holds Tryd.pinned (OpenSpec.ofChange fnExactValWidenSpec)

/-- ITS FALSE NEIGHBOUR: 'it returns false'. Refute it at one input. -/
def fnExactValWidenWrong : ChangeSpec := { name := "fnExactValWiden", vars := ["loop.example/sedge/impl.valNone", "loop.example/sedge/impl.rangeNone", "loop.example/sedge/impl.restAll"], fn := fun _ => fun
  | [d1, d2, d3, g1, g2, g3] => { results := [.lit (.bool false)], args := [d1, d2, d3], vars := [g1, g2, g3] }
  | _ => none }
def FnExactValWidenWrongFalsely : Prop := fnExactValWidenRow.holds Tryd.pinned (OpenSpec.ofChange fnExactValWidenWrong)

/-- 'laws.FnExactValCmp': WHATEVER THE INPUT: true; the input reads as it did. -/
def fnExactValCmpSpec : ChangeSpec := { name := "fnExactValCmp", vars := ["loop.example/sedge/impl.valNone", "loop.example/sedge/impl.rangeNone", "loop.example/sedge/impl.cmpTurned"], fn := fun _ => fun
  | [d1, d2, d3, g1, g2, g3] => { results := [.lit (.bool true)], args := [d1, d2, d3], vars := [g1, g2, g3] }
  | _ => none }
def fnExactValCmpRow : OpenClaim := { program := "ythbbgkpkijlclaadoor", sum := "8c65e4fbb29bc51b761e8c4dc76cdfbb18b2095c14447c630c3b572ce41aeec6", func := "loop.example/sedge/laws.FnExactValCmp", spec := "fnExactValCmp", unfollowed := true, recurses := true, named := ["loop.example/sedge/impl.valNone", "loop.example/sedge/impl.rangeNone", "loop.example/sedge/impl.cmpTurned"], apart := false, laid := [("loop.example/sedge/impl.valNone", laid_loop_example_sedge_impl_valNone), ("loop.example/sedge/impl.cmpTurned", laid_loop_example_sedge_impl_cmpTurned), ("loop.example/sedge/impl.rangeNone", laid_loop_example_sedge_impl_rangeNone)] }
def FnExactValCmpSaid : Prop := fnExactValCmpRow.holds Tryd.pinned (OpenSpec.ofChange fnExactValCmpSpec)

/-- ITS FALSE NEIGHBOUR: 'it returns false'. Refute it at one input. -/
def fnExactValCmpWrong : ChangeSpec := { name := "fnExactValCmp", vars := ["loop.example/sedge/impl.valNone", "loop.example/sedge/impl.rangeNone", "loop.example/sedge/impl.cmpTurned"], fn := fun _ => fun
  | [d1, d2, d3, g1, g2, g3] => { results := [.lit (.bool false)], args := [d1, d2, d3], vars := [g1, g2, g3] }
  | _ => none }
def FnExactValCmpWrongFalsely : Prop := fnExactValCmpRow.holds Tryd.pinned (OpenSpec.ofChange fnExactValCmpWrong)

/-- 'laws.FnExactRangeDo': WHATEVER THE INPUT: true; the input reads as it did. -/
def fnExactRangeDoSpec : ChangeSpec := { name := "fnExactRangeDo", vars := ["loop.example/sedge/impl.rangeNone", "loop.example/sedge/impl.rangeBelow0", "loop.example/sedge/impl.rangeAbove0", "loop.example/sedge/impl.rangeAll", "loop.example/sedge/impl.rangeShifts"], fn := fun _ => fun
  | [d1, d2, d3, g1, g2, g3, g4, g5] => { results := [.lit (.bool true)], args := [d1, d2, d3], vars := [g1, g2, g3, g4, g5] }
  | _ => none }
def fnExactRangeDoRow : OpenClaim := { program := "ythbbgkpkijlclaadoor", sum := "8c65e4fbb29bc51b761e8c4dc76cdfbb18b2095c14447c630c3b572ce41aeec6", func := "loop.example/sedge/laws.FnExactRangeDo", spec := "fnExactRangeDo", unfollowed := true, recurses := true, named := ["loop.example/sedge/impl.rangeNone", "loop.example/sedge/impl.rangeBelow0", "loop.example/sedge/impl.rangeAbove0", "loop.example/sedge/impl.rangeAll", "loop.example/sedge/impl.rangeShifts"], apart := false, laid := [("loop.example/sedge/impl.rangeNone", laid_loop_example_sedge_impl_rangeNone), ("loop.example/sedge/impl.rangeAll", laid_loop_example_sedge_impl_rangeAll), ("loop.example/sedge/impl.rangeBelow0", laid_loop_example_sedge_impl_rangeBelow0), ("loop.example/sedge/impl.rangeAbove0", laid_loop_example_sedge_impl_rangeAbove0), ("loop.example/sedge/impl.rangeShifts", laid_loop_example_sedge_impl_rangeShifts)] }
def FnExactRangeDoSaid : Prop := fnExactRangeDoRow.holds Tryd.pinned (OpenSpec.ofChange fnExactRangeDoSpec)

/-- ITS FALSE NEIGHBOUR: 'it returns false'. Refute it at one input. -/
def fnExactRangeDoWrong : ChangeSpec := { name := "fnExactRangeDo", vars := ["loop.example/sedge/impl.rangeNone", "loop.example/sedge/impl.rangeBelow0", "loop.example/sedge/impl.rangeAbove0", "loop.example/sedge/impl.rangeAll", "loop.example/sedge/impl.rangeShifts"], fn := fun _ => fun
  | [d1, d2, d3, g1, g2, g3, g4, g5] => { results := [.lit (.bool false)], args := [d1, d2, d3], vars := [g1, g2, g3, g4, g5] }
  | _ => none }
def FnExactRangeDoWrongFalsely : Prop := fnExactRangeDoRow.holds Tryd.pinned (OpenSpec.ofChange fnExactRangeDoWrong)

/-- 'laws.FnRangeDo': WHATEVER THE INPUT: true; the input reads as it did. -/
def fnRangeDoSpec : ChangeSpec := { name := "fnRangeDo", vars := ["loop.example/sedge/impl.rangeNone", "loop.example/sedge/impl.rangeBelow0", "loop.example/sedge/impl.rangeAbove0", "loop.example/sedge/impl.rangeAll", "loop.example/sedge/impl.rangeShifts"], fn := fun _ => fun
  | [d, g1, g2, g3, g4, g5] => { results := [.lit (.bool true)], args := [d], vars := [g1, g2, g3, g4, g5] }
  | _ => none }
def fnRangeDoRow : OpenClaim := { program := "ythbbgkpkijlclaadoor", sum := "8c65e4fbb29bc51b761e8c4dc76cdfbb18b2095c14447c630c3b572ce41aeec6", func := "loop.example/sedge/laws.FnRangeDo", spec := "fnRangeDo", unfollowed := true, recurses := true, named := ["loop.example/sedge/impl.rangeNone", "loop.example/sedge/impl.rangeBelow0", "loop.example/sedge/impl.rangeAbove0", "loop.example/sedge/impl.rangeAll", "loop.example/sedge/impl.rangeShifts"], apart := false, laid := [("loop.example/sedge/impl.rangeNone", laid_loop_example_sedge_impl_rangeNone), ("loop.example/sedge/impl.rangeAll", laid_loop_example_sedge_impl_rangeAll), ("loop.example/sedge/impl.rangeBelow0", laid_loop_example_sedge_impl_rangeBelow0), ("loop.example/sedge/impl.rangeAbove0", laid_loop_example_sedge_impl_rangeAbove0), ("loop.example/sedge/impl.rangeShifts", laid_loop_example_sedge_impl_rangeShifts)] }
def FnRangeDoSaid : Prop := fnRangeDoRow.holds Tryd.pinned (OpenSpec.ofChange fnRangeDoSpec)

/-- ITS FALSE NEIGHBOUR: 'it returns false'. Refute it at one input. -/
def fnRangeDoWrong : ChangeSpec := { name := "fnRangeDo", vars := ["loop.example/sedge/impl.rangeNone", "loop.example/sedge/impl.rangeBelow0", "loop.example/sedge/impl.rangeAbove0", "loop.example/sedge/impl.rangeAll", "loop.example/sedge/impl.rangeShifts"], fn := fun _ => fun
  | [d, g1, g2, g3, g4, g5] => { results := [.lit (.bool false)], args := [d], vars := [g1, g2, g3, g4, g5] }
  | _ => none }
def FnRangeDoWrongFalsely : Prop := fnRangeDoRow.holds Tryd.pinned (OpenSpec.ofChange fnRangeDoWrong)

/-- 'laws.FnRangeOne': WHATEVER THE INPUT: true; the input reads as it did. -/
def fnRangeOneSpec : ChangeSpec := { name := "fnRangeOne", vars := ["loop.example/sedge/impl.rangeNone", "loop.example/sedge/impl.rangeBelow0", "loop.example/sedge/impl.rangeAbove0", "loop.example/sedge/impl.rangeAll", "loop.example/sedge/impl.rangeShifts"], fn := fun _ => fun
  | [d, g1, g2, g3, g4, g5] => { results := [.lit (.bool true)], args := [d], vars := [g1, g2, g3, g4, g5] }
  | _ => none }
def fnRangeOneRow : OpenClaim := { program := "ythbbgkpkijlclaadoor", sum := "8c65e4fbb29bc51b761e8c4dc76cdfbb18b2095c14447c630c3b572ce41aeec6", func := "loop.example/sedge/laws.FnRangeOne", spec := "fnRangeOne", unfollowed := true, recurses := true, named := ["loop.example/sedge/impl.rangeNone", "loop.example/sedge/impl.rangeBelow0", "loop.example/sedge/impl.rangeAbove0", "loop.example/sedge/impl.rangeAll", "loop.example/sedge/impl.rangeShifts"], apart := false, laid := [("loop.example/sedge/impl.rangeNone", laid_loop_example_sedge_impl_rangeNone), ("loop.example/sedge/impl.rangeAll", laid_loop_example_sedge_impl_rangeAll), ("loop.example/sedge/impl.rangeBelow0", laid_loop_example_sedge_impl_rangeBelow0), ("loop.example/sedge/impl.rangeAbove0", laid_loop_example_sedge_impl_rangeAbove0), ("loop.example/sedge/impl.rangeShifts", laid_loop_example_sedge_impl_rangeShifts)] }
def FnRangeOneSaid : Prop := fnRangeOneRow.holds Tryd.pinned (OpenSpec.ofChange fnRangeOneSpec)

/-- ITS FALSE NEIGHBOUR: 'it returns false'. Refute it at one input. -/
def fnRangeOneWrong : ChangeSpec := { name := "fnRangeOne", vars := ["loop.example/sedge/impl.rangeNone", "loop.example/sedge/impl.rangeBelow0", "loop.example/sedge/impl.rangeAbove0", "loop.example/sedge/impl.rangeAll", "loop.example/sedge/impl.rangeShifts"], fn := fun _ => fun
  | [d, g1, g2, g3, g4, g5] => { results := [.lit (.bool false)], args := [d], vars := [g1, g2, g3, g4, g5] }
  | _ => none }
def FnRangeOneWrongFalsely : Prop := fnRangeOneRow.holds Tryd.pinned (OpenSpec.ofChange fnRangeOneWrong)

/-- 'laws.FnRangeFaults': WHATEVER THE INPUT: true; the input reads as it did. -/
def fnRangeFaultsSpec : ChangeSpec := { name := "fnRangeFaults", vars := ["loop.example/sedge/impl.rangeNone", "loop.example/sedge/impl.rangeBelow0", "loop.example/sedge/impl.rangeAbove0", "loop.example/sedge/impl.rangeAll", "loop.example/sedge/impl.rangeShifts"], fn := fun _ => fun
  | [d, g1, g2, g3, g4, g5] => { results := [.lit (.bool true)], args := [d], vars := [g1, g2, g3, g4, g5] }
  | _ => none }
def fnRangeFaultsRow : OpenClaim := { program := "ythbbgkpkijlclaadoor", sum := "8c65e4fbb29bc51b761e8c4dc76cdfbb18b2095c14447c630c3b572ce41aeec6", func := "loop.example/sedge/laws.FnRangeFaults", spec := "fnRangeFaults", unfollowed := true, recurses := true, named := ["loop.example/sedge/impl.rangeNone", "loop.example/sedge/impl.rangeBelow0", "loop.example/sedge/impl.rangeAbove0", "loop.example/sedge/impl.rangeAll", "loop.example/sedge/impl.rangeShifts"], apart := false, laid := [("loop.example/sedge/impl.rangeNone", laid_loop_example_sedge_impl_rangeNone), ("loop.example/sedge/impl.rangeAll", laid_loop_example_sedge_impl_rangeAll), ("loop.example/sedge/impl.rangeBelow0", laid_loop_example_sedge_impl_rangeBelow0), ("loop.example/sedge/impl.rangeAbove0", laid_loop_example_sedge_impl_rangeAbove0), ("loop.example/sedge/impl.rangeShifts", laid_loop_example_sedge_impl_rangeShifts)] }
def FnRangeFaultsSaid : Prop := fnRangeFaultsRow.holds Tryd.pinned (OpenSpec.ofChange fnRangeFaultsSpec)

/-- ITS FALSE NEIGHBOUR: 'it returns false'. Refute it at one input. -/
def fnRangeFaultsWrong : ChangeSpec := { name := "fnRangeFaults", vars := ["loop.example/sedge/impl.rangeNone", "loop.example/sedge/impl.rangeBelow0", "loop.example/sedge/impl.rangeAbove0", "loop.example/sedge/impl.rangeAll", "loop.example/sedge/impl.rangeShifts"], fn := fun _ => fun
  | [d, g1, g2, g3, g4, g5] => { results := [.lit (.bool false)], args := [d], vars := [g1, g2, g3, g4, g5] }
  | _ => none }
def FnRangeFaultsWrongFalsely : Prop := fnRangeFaultsRow.holds Tryd.pinned (OpenSpec.ofChange fnRangeFaultsWrong)

/-- 'laws.FnRangeMore': WHATEVER THE INPUT: true; the input reads as it did. -/
def fnRangeMoreSpec : ChangeSpec := { name := "fnRangeMore", vars := ["loop.example/sedge/impl.rangeNone", "loop.example/sedge/impl.rangeBelow0", "loop.example/sedge/impl.rangeAbove0", "loop.example/sedge/impl.rangeAll", "loop.example/sedge/impl.rangeShifts"], fn := fun _ => fun
  | [d, g1, g2, g3, g4, g5] => { results := [.lit (.bool true)], args := [d], vars := [g1, g2, g3, g4, g5] }
  | _ => none }
def fnRangeMoreRow : OpenClaim := { program := "ythbbgkpkijlclaadoor", sum := "8c65e4fbb29bc51b761e8c4dc76cdfbb18b2095c14447c630c3b572ce41aeec6", func := "loop.example/sedge/laws.FnRangeMore", spec := "fnRangeMore", unfollowed := true, recurses := true, named := ["loop.example/sedge/impl.rangeNone", "loop.example/sedge/impl.rangeBelow0", "loop.example/sedge/impl.rangeAbove0", "loop.example/sedge/impl.rangeAll", "loop.example/sedge/impl.rangeShifts"], apart := false, laid := [("loop.example/sedge/impl.rangeNone", laid_loop_example_sedge_impl_rangeNone), ("loop.example/sedge/impl.rangeAll", laid_loop_example_sedge_impl_rangeAll), ("loop.example/sedge/impl.rangeBelow0", laid_loop_example_sedge_impl_rangeBelow0), ("loop.example/sedge/impl.rangeAbove0", laid_loop_example_sedge_impl_rangeAbove0), ("loop.example/sedge/impl.rangeShifts", laid_loop_example_sedge_impl_rangeShifts)] }
def FnRangeMoreSaid : Prop := fnRangeMoreRow.holds Tryd.pinned (OpenSpec.ofChange fnRangeMoreSpec)

/-- ITS FALSE NEIGHBOUR: 'it returns false'. Refute it at one input. -/
def fnRangeMoreWrong : ChangeSpec := { name := "fnRangeMore", vars := ["loop.example/sedge/impl.rangeNone", "loop.example/sedge/impl.rangeBelow0", "loop.example/sedge/impl.rangeAbove0", "loop.example/sedge/impl.rangeAll", "loop.example/sedge/impl.rangeShifts"], fn := fun _ => fun
  | [d, g1, g2, g3, g4, g5] => { results := [.lit (.bool false)], args := [d], vars := [g1, g2, g3, g4, g5] }
  | _ => none }
def FnRangeMoreWrongFalsely : Prop := fnRangeMoreRow.holds Tryd.pinned (OpenSpec.ofChange fnRangeMoreWrong)

/-- 'laws.FnRestLattice': WHATEVER THE INPUT: true; the input reads as it did. -/
def fnRestLatticeSpec : ChangeSpec := { name := "fnRestLattice", vars := ["loop.example/sedge/impl.restAll"], fn := fun _ => fun
  | [d, g1] => { results := [.lit (.bool true)], args := [d], vars := [g1] }
  | _ => none }
def fnRestLatticeRow : OpenClaim := { program := "ythbbgkpkijlclaadoor", sum := "8c65e4fbb29bc51b761e8c4dc76cdfbb18b2095c14447c630c3b572ce41aeec6", func := "loop.example/sedge/laws.FnRestLattice", spec := "fnRestLattice", recurses := true, named := ["loop.example/sedge/impl.restAll"], apart := false, laid := [("loop.example/sedge/impl.restAll", laid_loop_example_sedge_impl_restAll)] }
def FnRestLatticeSaid : Prop := fnRestLatticeRow.holds Tryd.pinned (OpenSpec.ofChange fnRestLatticeSpec)

/-- ITS FALSE NEIGHBOUR: 'it returns false'. Refute it at one input. -/
def fnRestLatticeWrong : ChangeSpec := { name := "fnRestLattice", vars := ["loop.example/sedge/impl.restAll"], fn := fun _ => fun
  | [d, g1] => { results := [.lit (.bool false)], args := [d], vars := [g1] }
  | _ => none }
def FnRestLatticeWrongFalsely : Prop := fnRestLatticeRow.holds Tryd.pinned (OpenSpec.ofChange fnRestLatticeWrong)

/-- 'laws.FnRestDo': WHATEVER THE INPUT: true; the input reads as it did. -/
def fnRestDoSpec : ChangeSpec := { name := "fnRestDo", vars := ["loop.example/sedge/impl.restAll", "loop.example/sedge/impl.rangeShifts"], fn := fun _ => fun
  | [d, g1, g2] => { results := [.lit (.bool true)], args := [d], vars := [g1, g2] }
  | _ => none }
def fnRestDoRow : OpenClaim := { program := "ythbbgkpkijlclaadoor", sum := "8c65e4fbb29bc51b761e8c4dc76cdfbb18b2095c14447c630c3b572ce41aeec6", func := "loop.example/sedge/laws.FnRestDo", spec := "fnRestDo", unfollowed := true, recurses := true, named := ["loop.example/sedge/impl.restAll", "loop.example/sedge/impl.rangeShifts"], apart := false, laid := [("loop.example/sedge/impl.rangeShifts", laid_loop_example_sedge_impl_rangeShifts), ("loop.example/sedge/impl.restAll", laid_loop_example_sedge_impl_restAll)] }
def FnRestDoSaid : Prop := fnRestDoRow.holds Tryd.pinned (OpenSpec.ofChange fnRestDoSpec)

/-- ITS FALSE NEIGHBOUR: 'it returns false'. Refute it at one input. -/
def fnRestDoWrong : ChangeSpec := { name := "fnRestDo", vars := ["loop.example/sedge/impl.restAll", "loop.example/sedge/impl.rangeShifts"], fn := fun _ => fun
  | [d, g1, g2] => { results := [.lit (.bool false)], args := [d], vars := [g1, g2] }
  | _ => none }
def FnRestDoWrongFalsely : Prop := fnRestDoRow.holds Tryd.pinned (OpenSpec.ofChange fnRestDoWrong)

/- THE SECOND FORM. 'bulk': how many values and letters a reading holds, each counted each time it is reached (what is shared counts as often as it is met; a slice's spare places count too). A statement '..UptoSaid' is the law's where the arguments, and the package variables that the reading takes, are together of bulk at most 1048576: NARROWER than '..Said'. Prove '..Said' where nothing that the law and all that it calls make is longer than what came in: it says more and counts as full. Else prove '..UptoSaid'. A law counts once. -/
mutual
def uptoBulk {H : Type} : DataW H → Nat
  | .lit (.string bytes) => bytes.length + 1
  | .lit _ => 1
  | .nil => 1
  | .ptr d => uptoBulk d + 1
  | .slice elems spare => uptoBulkAll elems + uptoBulkAll spare + 1
  | .agg parts => uptoBulkAll parts + 1
  | .iface _ d => uptoBulk d + 1
  | .map entries => uptoBulkEntries entries + 1
  | .held _ => 1
def uptoBulkAll {H : Type} : List (DataW H) → Nat
  | [] => 0
  | d :: r => uptoBulk d + uptoBulkAll r
def uptoBulkEntries {H : Type} : List (Lit × DataW H) → Nat
  | [] => 0
  | x :: r => uptoBulkEntry x + uptoBulkEntries r
def uptoBulkEntry {H : Type} : Lit × DataW H → Nat
  | (.string bytes, d) => bytes.length + uptoBulk d + 1
  | (_, d) => uptoBulk d + 1
 end
def uptoSmall : (H : Type) → List (DataW H) → Bool := fun _ ds => decide (uptoBulkAll ds ≤ 1048576)
def OpenSpec.upto (s : _root_.Go.ChangeSpec) : _root_.Go.OpenSpec := { _root_.Go.OpenSpec.ofChange s with cond := some uptoSmall }

/-- 'laws.FnValMake', WHERE WHAT IT READS IS OF BULK AT MOST 1048576: true; the input reads as it did. -/
def fnValMakeUptoRow : OpenClaim := { program := "ythbbgkpkijlclaadoor", sum := "8c65e4fbb29bc51b761e8c4dc76cdfbb18b2095c14447c630c3b572ce41aeec6", func := "loop.example/sedge/laws.FnValMake", spec := "fnValMake", unfollowed := true, recurses := true, named := ["loop.example/sedge/impl.valNone", "loop.example/sedge/impl.rangeNone"], apart := false, laid := [("loop.example/sedge/impl.valNone", laid_loop_example_sedge_impl_valNone), ("loop.example/sedge/impl.rangeNone", laid_loop_example_sedge_impl_rangeNone)], narrowed := true }
def FnValMakeUptoSaid : Prop := fnValMakeUptoRow.holds Tryd.pinned (OpenSpec.upto fnValMakeSpec)

/-- 'laws.FnValLattice', WHERE WHAT IT READS IS OF BULK AT MOST 1048576: true; the input reads as it did. -/
def fnValLatticeUptoRow : OpenClaim := { program := "ythbbgkpkijlclaadoor", sum := "8c65e4fbb29bc51b761e8c4dc76cdfbb18b2095c14447c630c3b572ce41aeec6", func := "loop.example/sedge/laws.FnValLattice", spec := "fnValLattice", unfollowed := true, recurses := true, named := ["loop.example/sedge/impl.valNone", "loop.example/sedge/impl.rangeNone", "loop.example/sedge/impl.restAll"], apart := false, laid := [("loop.example/sedge/impl.valNone", laid_loop_example_sedge_impl_valNone), ("loop.example/sedge/impl.rangeNone", laid_loop_example_sedge_impl_rangeNone), ("loop.example/sedge/impl.restAll", laid_loop_example_sedge_impl_restAll)], narrowed := true }
def FnValLatticeUptoSaid : Prop := fnValLatticeUptoRow.holds Tryd.pinned (OpenSpec.upto fnValLatticeSpec)

/-- 'laws.FnValCmp', WHERE WHAT IT READS IS OF BULK AT MOST 1048576: true; the input reads as it did. -/
def fnValCmpUptoRow : OpenClaim := { program := "ythbbgkpkijlclaadoor", sum := "8c65e4fbb29bc51b761e8c4dc76cdfbb18b2095c14447c630c3b572ce41aeec6", func := "loop.example/sedge/laws.FnValCmp", spec := "fnValCmp", unfollowed := true, recurses := true, named := ["loop.example/sedge/impl.valNone", "loop.example/sedge/impl.rangeNone", "loop.example/sedge/impl.cmpTurned"], apart := false, laid := [("loop.example/sedge/impl.valNone", laid_loop_example_sedge_impl_valNone), ("loop.example/sedge/impl.cmpTurned", laid_loop_example_sedge_impl_cmpTurned), ("loop.example/sedge/impl.rangeNone", laid_loop_example_sedge_impl_rangeNone)], narrowed := true }
def FnValCmpUptoSaid : Prop := fnValCmpUptoRow.holds Tryd.pinned (OpenSpec.upto fnValCmpSpec)

/-- 'laws.FnExactValMake', WHERE WHAT IT READS IS OF BULK AT MOST 1048576: true; the input reads as it did. -/
def fnExactValMakeUptoRow : OpenClaim := { program := "ythbbgkpkijlclaadoor", sum := "8c65e4fbb29bc51b761e8c4dc76cdfbb18b2095c14447c630c3b572ce41aeec6", func := "loop.example/sedge/laws.FnExactValMake", spec := "fnExactValMake", unfollowed := true, recurses := true, named := ["loop.example/sedge/impl.valNone", "loop.example/sedge/impl.rangeNone"], apart := false, laid := [("loop.example/sedge/impl.valNone", laid_loop_example_sedge_impl_valNone), ("loop.example/sedge/impl.rangeNone", laid_loop_example_sedge_impl_rangeNone)], narrowed := true }
def FnExactValMakeUptoSaid : Prop := fnExactValMakeUptoRow.holds Tryd.pinned (OpenSpec.upto fnExactValMakeSpec)

/-- 'laws.FnExactValOk', WHERE WHAT IT READS IS OF BULK AT MOST 1048576: true; the input reads as it did. -/
def fnExactValOkUptoRow : OpenClaim := { program := "ythbbgkpkijlclaadoor", sum := "8c65e4fbb29bc51b761e8c4dc76cdfbb18b2095c14447c630c3b572ce41aeec6", func := "loop.example/sedge/laws.FnExactValOk", spec := "fnExactValOk", unfollowed := true, recurses := true, named := ["loop.example/sedge/impl.valNone", "loop.example/sedge/impl.rangeNone"], apart := false, laid := [("loop.example/sedge/impl.valNone", laid_loop_example_sedge_impl_valNone), ("loop.example/sedge/impl.rangeNone", laid_loop_example_sedge_impl_rangeNone)], narrowed := true }
def FnExactValOkUptoSaid : Prop := fnExactValOkUptoRow.holds Tryd.pinned (OpenSpec.upto fnExactValOkSpec)

/-- 'laws.FnExactValHas', WHERE WHAT IT READS IS OF BULK AT MOST 1048576: true; the input reads as it did. -/
def fnExactValHasUptoRow : OpenClaim := { program := "ythbbgkpkijlclaadoor", sum := "8c65e4fbb29bc51b761e8c4dc76cdfbb18b2095c14447c630c3b572ce41aeec6", func := "loop.example/sedge/laws.FnExactValHas", spec := "fnExactValHas", unfollowed := true, recurses := true, named := ["loop.example/sedge/impl.valNone", "loop.example/sedge/impl.rangeNone"], apart := false, laid := [("loop.example/sedge/impl.valNone", laid_loop_example_sedge_impl_valNone), ("loop.example/sedge/impl.rangeNone", laid_loop_example_sedge_impl_rangeNone)], narrowed := true }
def FnExactValHasUptoSaid : Prop := fnExactValHasUptoRow.holds Tryd.pinned (OpenSpec.upto fnExactValHasSpec)

/-- 'laws.FnExactValIn', WHERE WHAT IT READS IS OF BULK AT MOST 1048576: true; the input reads as it did. -/
def fnExactValInUptoRow : OpenClaim := { program := "ythbbgkpkijlclaadoor", sum := "8c65e4fbb29bc51b761e8c4dc76cdfbb18b2095c14447c630c3b572ce41aeec6", func := "loop.example/sedge/laws.FnExactValIn", spec := "fnExactValIn", unfollowed := true, recurses := true, named := ["loop.example/sedge/impl.valNone", "loop.example/sedge/impl.rangeNone"], apart := false, laid := [("loop.example/sedge/impl.valNone", laid_loop_example_sedge_impl_valNone), ("loop.example/sedge/impl.rangeNone", laid_loop_example_sedge_impl_rangeNone)], narrowed := true }
def FnExactValInUptoSaid : Prop := fnExactValInUptoRow.holds Tryd.pinned (OpenSpec.upto fnExactValInSpec)

/-- 'laws.FnExactValJoin', WHERE WHAT IT READS IS OF BULK AT MOST 1048576: true; the input reads as it did. -/
def fnExactValJoinUptoRow : OpenClaim := { program := "ythbbgkpkijlclaadoor", sum := "8c65e4fbb29bc51b761e8c4dc76cdfbb18b2095c14447c630c3b572ce41aeec6", func := "loop.example/sedge/laws.FnExactValJoin", spec := "fnExactValJoin", unfollowed := true, recurses := true, named := ["loop.example/sedge/impl.valNone", "loop.example/sedge/impl.rangeNone", "loop.example/sedge/impl.restAll"], apart := false, laid := [("loop.example/sedge/impl.valNone", laid_loop_example_sedge_impl_valNone), ("loop.example/sedge/impl.rangeNone", laid_loop_example_sedge_impl_rangeNone), ("loop.example/sedge/impl.restAll", laid_loop_example_sedge_impl_restAll)], narrowed := true }
def FnExactValJoinUptoSaid : Prop := fnExactValJoinUptoRow.holds Tryd.pinned (OpenSpec.upto fnExactValJoinSpec)

/-- 'laws.FnExactValMeet', WHERE WHAT IT READS IS OF BULK AT MOST 1048576: true; the input reads as it did. -/
def fnExactValMeetUptoRow : OpenClaim := { program := "ythbbgkpkijlclaadoor", sum := "8c65e4fbb29bc51b761e8c4dc76cdfbb18b2095c14447c630c3b572ce41aeec6", func := "loop.example/sedge/laws.FnExactValMeet", spec := "fnExactValMeet", unfollowed := true, recurses := true, named := ["loop.example/sedge/impl.valNone", "loop.example/sedge/impl.rangeNone"], apart := false, laid := [("loop.example/sedge/impl.valNone", laid_loop_example_sedge_impl_valNone), ("loop.example/sedge/impl.rangeNone", laid_loop_example_sedge_impl_rangeNone)], narrowed := true }
def FnExactValMeetUptoSaid : Prop := fnExactValMeetUptoRow.holds Tryd.pinned (OpenSpec.upto fnExactValMeetSpec)

/-- 'laws.FnExactValWiden', WHERE WHAT IT READS IS OF BULK AT MOST 1048576: true; the input reads as it did. -/
def fnExactValWidenUptoRow : OpenClaim := { program := "ythbbgkpkijlclaadoor", sum := "8c65e4fbb29bc51b761e8c4dc76cdfbb18b2095c14447c630c3b572ce41aeec6", func := "loop.example/sedge/laws.FnExactValWiden", spec := "fnExactValWiden", unfollowed := true, recurses := true, named := ["loop.example/sedge/impl.valNone", "loop.example/sedge/impl.rangeNone", "loop.example/sedge/impl.restAll"], apart := false, laid := [("loop.example/sedge/impl.valNone", laid_loop_example_sedge_impl_valNone), ("loop.example/sedge/impl.rangeNone", laid_loop_example_sedge_impl_rangeNone), ("loop.example/sedge/impl.restAll", laid_loop_example_sedge_impl_restAll)], narrowed := true }
def FnExactValWidenUptoSaid : Prop := fnExactValWidenUptoRow.holds Tryd.pinned (OpenSpec.upto fnExactValWidenSpec)

/-- 'laws.FnExactValCmp', WHERE WHAT IT READS IS OF BULK AT MOST 1048576: true; the input reads as it did. -/
def fnExactValCmpUptoRow : OpenClaim := { program := "ythbbgkpkijlclaadoor", sum := "8c65e4fbb29bc51b761e8c4dc76cdfbb18b2095c14447c630c3b572ce41aeec6", func := "loop.example/sedge/laws.FnExactValCmp", spec := "fnExactValCmp", unfollowed := true, recurses := true, named := ["loop.example/sedge/impl.valNone", "loop.example/sedge/impl.rangeNone", "loop.example/sedge/impl.cmpTurned"], apart := false, laid := [("loop.example/sedge/impl.valNone", laid_loop_example_sedge_impl_valNone), ("loop.example/sedge/impl.cmpTurned", laid_loop_example_sedge_impl_cmpTurned), ("loop.example/sedge/impl.rangeNone", laid_loop_example_sedge_impl_rangeNone)], narrowed := true }
def FnExactValCmpUptoSaid : Prop := fnExactValCmpUptoRow.holds Tryd.pinned (OpenSpec.upto fnExactValCmpSpec)

/-- 'laws.FnExactRangeDo', WHERE WHAT IT READS IS OF BULK AT MOST 1048576: true; the input reads as it did. -/
def fnExactRangeDoUptoRow : OpenClaim := { program := "ythbbgkpkijlclaadoor", sum := "8c65e4fbb29bc51b761e8c4dc76cdfbb18b2095c14447c630c3b572ce41aeec6", func := "loop.example/sedge/laws.FnExactRangeDo", spec := "fnExactRangeDo", unfollowed := true, recurses := true, named := ["loop.example/sedge/impl.rangeNone", "loop.example/sedge/impl.rangeBelow0", "loop.example/sedge/impl.rangeAbove0", "loop.example/sedge/impl.rangeAll", "loop.example/sedge/impl.rangeShifts"], apart := false, laid := [("loop.example/sedge/impl.rangeNone", laid_loop_example_sedge_impl_rangeNone), ("loop.example/sedge/impl.rangeAll", laid_loop_example_sedge_impl_rangeAll), ("loop.example/sedge/impl.rangeBelow0", laid_loop_example_sedge_impl_rangeBelow0), ("loop.example/sedge/impl.rangeAbove0", laid_loop_example_sedge_impl_rangeAbove0), ("loop.example/sedge/impl.rangeShifts", laid_loop_example_sedge_impl_rangeShifts)], narrowed := true }
def FnExactRangeDoUptoSaid : Prop := fnExactRangeDoUptoRow.holds Tryd.pinned (OpenSpec.upto fnExactRangeDoSpec)

/-- 'laws.FnRangeDo', WHERE WHAT IT READS IS OF BULK AT MOST 1048576: true; the input reads as it did. -/
def fnRangeDoUptoRow : OpenClaim := { program := "ythbbgkpkijlclaadoor", sum := "8c65e4fbb29bc51b761e8c4dc76cdfbb18b2095c14447c630c3b572ce41aeec6", func := "loop.example/sedge/laws.FnRangeDo", spec := "fnRangeDo", unfollowed := true, recurses := true, named := ["loop.example/sedge/impl.rangeNone", "loop.example/sedge/impl.rangeBelow0", "loop.example/sedge/impl.rangeAbove0", "loop.example/sedge/impl.rangeAll", "loop.example/sedge/impl.rangeShifts"], apart := false, laid := [("loop.example/sedge/impl.rangeNone", laid_loop_example_sedge_impl_rangeNone), ("loop.example/sedge/impl.rangeAll", laid_loop_example_sedge_impl_rangeAll), ("loop.example/sedge/impl.rangeBelow0", laid_loop_example_sedge_impl_rangeBelow0), ("loop.example/sedge/impl.rangeAbove0", laid_loop_example_sedge_impl_rangeAbove0), ("loop.example/sedge/impl.rangeShifts", laid_loop_example_sedge_impl_rangeShifts)], narrowed := true }
def FnRangeDoUptoSaid : Prop := fnRangeDoUptoRow.holds Tryd.pinned (OpenSpec.upto fnRangeDoSpec)

/-- 'laws.FnRangeOne', WHERE WHAT IT READS IS OF BULK AT MOST 1048576: true; the input reads as it did. -/
def fnRangeOneUptoRow : OpenClaim := { program := "ythbbgkpkijlclaadoor", sum := "8c65e4fbb29bc51b761e8c4dc76cdfbb18b2095c14447c630c3b572ce41aeec6", func := "loop.example/sedge/laws.FnRangeOne", spec := "fnRangeOne", unfollowed := true, recurses := true, named := ["loop.example/sedge/impl.rangeNone", "loop.example/sedge/impl.rangeBelow0", "loop.example/sedge/impl.rangeAbove0", "loop.example/sedge/impl.rangeAll", "loop.example/sedge/impl.rangeShifts"], apart := false, laid := [("loop.example/sedge/impl.rangeNone", laid_loop_example_sedge_impl_rangeNone), ("loop.example/sedge/impl.rangeAll", laid_loop_example_sedge_impl_rangeAll), ("loop.example/sedge/impl.rangeBelow0", laid_loop_example_sedge_impl_rangeBelow0), ("loop.example/sedge/impl.rangeAbove0", laid_loop_example_sedge_impl_rangeAbove0), ("loop.example/sedge/impl.rangeShifts", laid_loop_example_sedge_impl_rangeShifts)], narrowed := true }
def FnRangeOneUptoSaid : Prop := fnRangeOneUptoRow.holds Tryd.pinned (OpenSpec.upto fnRangeOneSpec)

/-- 'laws.FnRangeFaults', WHERE WHAT IT READS IS OF BULK AT MOST 1048576: true; the input reads as it did. -/
def fnRangeFaultsUptoRow : OpenClaim := { program := "ythbbgkpkijlclaadoor", sum := "8c65e4fbb29bc51b761e8c4dc76cdfbb18b2095c14447c630c3b572ce41aeec6", func := "loop.example/sedge/laws.FnRangeFaults", spec := "fnRangeFaults", unfollowed := true, recurses := true, named := ["loop.example/sedge/impl.rangeNone", "loop.example/sedge/impl.rangeBelow0", "loop.example/sedge/impl.rangeAbove0", "loop.example/sedge/impl.rangeAll", "loop.example/sedge/impl.rangeShifts"], apart := false, laid := [("loop.example/sedge/impl.rangeNone", laid_loop_example_sedge_impl_rangeNone), ("loop.example/sedge/impl.rangeAll", laid_loop_example_sedge_impl_rangeAll), ("loop.example/sedge/impl.rangeBelow0", laid_loop_example_sedge_impl_rangeBelow0), ("loop.example/sedge/impl.rangeAbove0", laid_loop_example_sedge_impl_rangeAbove0), ("loop.example/sedge/impl.rangeShifts", laid_loop_example_sedge_impl_rangeShifts)], narrowed := true }
def FnRangeFaultsUptoSaid : Prop := fnRangeFaultsUptoRow.holds Tryd.pinned (OpenSpec.upto fnRangeFaultsSpec)

/-- 'laws.FnRangeMore', WHERE WHAT IT READS IS OF BULK AT MOST 1048576: true; the input reads as it did. -/
def fnRangeMoreUptoRow : OpenClaim := { program := "ythbbgkpkijlclaadoor", sum := "8c65e4fbb29bc51b761e8c4dc76cdfbb18b2095c14447c630c3b572ce41aeec6", func := "loop.example/sedge/laws.FnRangeMore", spec := "fnRangeMore", unfollowed := true, recurses := true, named := ["loop.example/sedge/impl.rangeNone", "loop.example/sedge/impl.rangeBelow0", "loop.example/sedge/impl.rangeAbove0", "loop.example/sedge/impl.rangeAll", "loop.example/sedge/impl.rangeShifts"], apart := false, laid := [("loop.example/sedge/impl.rangeNone", laid_loop_example_sedge_impl_rangeNone), ("loop.example/sedge/impl.rangeAll", laid_loop_example_sedge_impl_rangeAll), ("loop.example/sedge/impl.rangeBelow0", laid_loop_example_sedge_impl_rangeBelow0), ("loop.example/sedge/impl.rangeAbove0", laid_loop_example_sedge_impl_rangeAbove0), ("loop.example/sedge/impl.rangeShifts", laid_loop_example_sedge_impl_rangeShifts)], narrowed := true }
def FnRangeMoreUptoSaid : Prop := fnRangeMoreUptoRow.holds Tryd.pinned (OpenSpec.upto fnRangeMoreSpec)

/-- 'laws.FnRestLattice', WHERE WHAT IT READS IS OF BULK AT MOST 1048576: true; the input reads as it did. -/
def fnRestLatticeUptoRow : OpenClaim := { program := "ythbbgkpkijlclaadoor", sum := "8c65e4fbb29bc51b761e8c4dc76cdfbb18b2095c14447c630c3b572ce41aeec6", func := "loop.example/sedge/laws.FnRestLattice", spec := "fnRestLattice", recurses := true, named := ["loop.example/sedge/impl.restAll"], apart := false, laid := [("loop.example/sedge/impl.restAll", laid_loop_example_sedge_impl_restAll)], narrowed := true }
def FnRestLatticeUptoSaid : Prop := fnRestLatticeUptoRow.holds Tryd.pinned (OpenSpec.upto fnRestLatticeSpec)

/-- 'laws.FnRestDo', WHERE WHAT IT READS IS OF BULK AT MOST 1048576: true; the input reads as it did. -/
def fnRestDoUptoRow : OpenClaim := { program := "ythbbgkpkijlclaadoor", sum := "8c65e4fbb29bc51b761e8c4dc76cdfbb18b2095c14447c630c3b572ce41aeec6", func := "loop.example/sedge/laws.FnRestDo", spec := "fnRestDo", unfollowed := true, recurses := true, named := ["loop.example/sedge/impl.restAll", "loop.example/sedge/impl.rangeShifts"], apart := false, laid := [("loop.example/sedge/impl.rangeShifts", laid_loop_example_sedge_impl_rangeShifts), ("loop.example/sedge/impl.restAll", laid_loop_example_sedge_impl_restAll)], narrowed := true }
def FnRestDoUptoSaid : Prop := fnRestDoUptoRow.holds Tryd.pinned (OpenSpec.upto fnRestDoSpec)

end Rows
end Go.Proofs.YthbbgkpkijlclaaDoor
