/-
  NARROWER THAN 'FOR EVERY INPUT', by the rows' own cells (each row's printed sentence says how): FnRestDo: laid · FnRestLattice: laid · FnExactRestIn: laid · FnExactRestJoin: laid · FnExactRestDo: laid · FnExactRangeDo: laid · FnExactRangeCmp: laid · FnRangeDo: laid · FnRangeOne: laid · FnRangeFaults: laid · FnRangeMore: laid.
  DERIVED. THE GIVEN ROWS OF THIS SEAT. 11 by the template 'for every input the law returns true; each argument reads behind the call as it read before'; 0 by the template 'total and deterministic' (their statements: YtjpiihjgbllieaaDoorTotals.lean).
  GIVEN WITH THE SEED: the statements are not yours to turn. If you find one false, say at which input.
  Laid BY PROGRAM, IN A SANDBOX (cutbox-rows.mjs): the forced cells as the released guide's own fill.sh prints them over the translation 80b885ccf73d50b8… (all of the seat's roots in one cut). By AI agents, Wed Nov 11 2026. No macro, syntax, notation, axiom, sorry.
-/
import Derived.Test.YtjpiihjgbllieaaDoorChecked
import GoSem.Claim
import GoSem.ClaimJoined
import GoSem.ClaimMapViews
import Derived.JoinedTies
import Derived.KernelRfl
namespace Go.Proofs.YtjpiihjgbllieaaDoor
/- THE CELL 'sum', in the pinned program and in every row, IS THE sha256 OF THE DUMP (.gsa) THAT YtjpiihjgbllieaaDoorProg.lean LOADS. Nothing in Lean hashes anything: it is a label: what it is worth is what the hold of that sum in a sandbox is worth. -/
noncomputable def Tryd.pinned : Pinned := { name := "ytjpiihjgbllieaadoor", sum := "80b885ccf73d50b8eb8239b5a01b103dd25fea0532ac7a1dd71b69f809d5a0b1", checked := Tryd.checked }
namespace Rows
def none {H : Type} : Left H := { results := [], args := [] }

/- WHAT THE LISTED PACKAGE-LEVEL VARIABLES READ AS WHEN THE CALL BEGINS. Each datum BY PROGRAM (the guide's laid-datum.mjs) off the statement by which the dump's own 'gosem.cut.vars' lays the variable. In a bare row this is a premise. The card (YtjpiihjgbllieaaDoorCards.lean) ties it to the program's text. -/
def laid_loop_example_sedge_impl_rangeShifts {H : Type} : DataW H := .agg [.lit (.int .i64 0), .lit (.int .i64 31)]
def laid_loop_example_sedge_impl_restAll {H : Type} : DataW H := .agg [.lit (.int .i64 1), .lit (.int .i64 0)]
def laid_loop_example_sedge_impl_rangeNone {H : Type} : DataW H := .agg [.lit (.int .i64 1), .lit (.int .i64 0)]
def laid_loop_example_sedge_impl_rangeAll {H : Type} : DataW H := .agg [.lit (.int .i64 (-2147483648)), .lit (.int .i64 2147483647)]
def laid_loop_example_sedge_impl_rangeBelow0 {H : Type} : DataW H := .agg [.lit (.int .i64 (-2147483648)), .lit (.int .i64 (-1))]
def laid_loop_example_sedge_impl_rangeAbove0 {H : Type} : DataW H := .agg [.lit (.int .i64 1), .lit (.int .i64 2147483647)]
def laid_loop_example_sedge_impl_cmpTurned {H : Type} : DataW H := .agg [.lit (.int .i64 0), .lit (.int .i64 1), .lit (.int .i64 2), .lit (.int .i64 5), .lit (.int .i64 6), .lit (.int .i64 3), .lit (.int .i64 4)]

/-- 'laws.FnRestDo': WHATEVER THE INPUT: true; the input reads as it did. -/
def fnRestDoSpec : ChangeSpec := { name := "fnRestDo", vars := ["loop.example/sedge/impl.restAll", "loop.example/sedge/impl.rangeShifts"], fn := fun _ => fun
  | [d, g1, g2] => { results := [.lit (.bool true)], args := [d], vars := [g1, g2] }
  | _ => none }
def fnRestDoRow : OpenClaim := { program := "ytjpiihjgbllieaadoor", sum := "80b885ccf73d50b8eb8239b5a01b103dd25fea0532ac7a1dd71b69f809d5a0b1", func := "loop.example/sedge/laws.FnRestDo", spec := "fnRestDo", unfollowed := true, recurses := true, named := ["loop.example/sedge/impl.restAll", "loop.example/sedge/impl.rangeShifts"], apart := false, laid := [("loop.example/sedge/impl.rangeShifts", laid_loop_example_sedge_impl_rangeShifts), ("loop.example/sedge/impl.restAll", laid_loop_example_sedge_impl_restAll)] }
def FnRestDoSaid : Prop := fnRestDoRow.holds Tryd.pinned (OpenSpec.ofChange fnRestDoSpec)

/-- ITS FALSE NEIGHBOUR: 'it returns false'. Refute it at one input. -/
def fnRestDoWrong : ChangeSpec := { name := "fnRestDo", vars := ["loop.example/sedge/impl.restAll", "loop.example/sedge/impl.rangeShifts"], fn := fun _ => fun
  | [d, g1, g2] => { results := [.lit (.bool false)], args := [d], vars := [g1, g2] }
  | _ => none }
def FnRestDoWrongFalsely : Prop := fnRestDoRow.holds Tryd.pinned (OpenSpec.ofChange fnRestDoWrong)

/-- 'laws.FnRestLattice': WHATEVER THE INPUT: true; the input reads as it did. -/
def fnRestLatticeSpec : ChangeSpec := { name := "fnRestLattice", vars := ["loop.example/sedge/impl.restAll"], fn := fun _ => fun
  | [d, g1] => { results := [.lit (.bool true)], args := [d], vars := [g1] }
  | _ => none }
def fnRestLatticeRow : OpenClaim := { program := "ytjpiihjgbllieaadoor", sum := "80b885ccf73d50b8eb8239b5a01b103dd25fea0532ac7a1dd71b69f809d5a0b1", func := "loop.example/sedge/laws.FnRestLattice", spec := "fnRestLattice", recurses := true, named := ["loop.example/sedge/impl.restAll"], apart := false, laid := [("loop.example/sedge/impl.restAll", laid_loop_example_sedge_impl_restAll)] }
def FnRestLatticeSaid : Prop := fnRestLatticeRow.holds Tryd.pinned (OpenSpec.ofChange fnRestLatticeSpec)

/-- ITS FALSE NEIGHBOUR: 'it returns false'. Refute it at one input. -/
def fnRestLatticeWrong : ChangeSpec := { name := "fnRestLattice", vars := ["loop.example/sedge/impl.restAll"], fn := fun _ => fun
  | [d, g1] => { results := [.lit (.bool false)], args := [d], vars := [g1] }
  | _ => none }
def FnRestLatticeWrongFalsely : Prop := fnRestLatticeRow.holds Tryd.pinned (OpenSpec.ofChange fnRestLatticeWrong)

/-- 'laws.FnExactRestIn': WHATEVER THE INPUT: true; the input reads as it did. -/
def fnExactRestInSpec : ChangeSpec := { name := "fnExactRestIn", vars := ["loop.example/sedge/impl.restAll"], fn := fun _ => fun
  | [d1, d2, g1] => { results := [.lit (.bool true)], args := [d1, d2], vars := [g1] }
  | _ => none }
def fnExactRestInRow : OpenClaim := { program := "ytjpiihjgbllieaadoor", sum := "80b885ccf73d50b8eb8239b5a01b103dd25fea0532ac7a1dd71b69f809d5a0b1", func := "loop.example/sedge/laws.FnExactRestIn", spec := "fnExactRestIn", named := ["loop.example/sedge/impl.restAll"], apart := false, laid := [("loop.example/sedge/impl.restAll", laid_loop_example_sedge_impl_restAll)] }
def FnExactRestInSaid : Prop := fnExactRestInRow.holds Tryd.pinned (OpenSpec.ofChange fnExactRestInSpec)

/-- ITS FALSE NEIGHBOUR: 'it returns false'. Refute it at one input. -/
def fnExactRestInWrong : ChangeSpec := { name := "fnExactRestIn", vars := ["loop.example/sedge/impl.restAll"], fn := fun _ => fun
  | [d1, d2, g1] => { results := [.lit (.bool false)], args := [d1, d2], vars := [g1] }
  | _ => none }
def FnExactRestInWrongFalsely : Prop := fnExactRestInRow.holds Tryd.pinned (OpenSpec.ofChange fnExactRestInWrong)

/-- 'laws.FnExactRestJoin': WHATEVER THE INPUT: true; the input reads as it did. -/
def fnExactRestJoinSpec : ChangeSpec := { name := "fnExactRestJoin", vars := ["loop.example/sedge/impl.restAll"], fn := fun _ => fun
  | [d1, d2, g1] => { results := [.lit (.bool true)], args := [d1, d2], vars := [g1] }
  | _ => none }
def fnExactRestJoinRow : OpenClaim := { program := "ytjpiihjgbllieaadoor", sum := "80b885ccf73d50b8eb8239b5a01b103dd25fea0532ac7a1dd71b69f809d5a0b1", func := "loop.example/sedge/laws.FnExactRestJoin", spec := "fnExactRestJoin", named := ["loop.example/sedge/impl.restAll"], apart := false, laid := [("loop.example/sedge/impl.restAll", laid_loop_example_sedge_impl_restAll)] }
def FnExactRestJoinSaid : Prop := fnExactRestJoinRow.holds Tryd.pinned (OpenSpec.ofChange fnExactRestJoinSpec)

/-- ITS FALSE NEIGHBOUR: 'it returns false'. Refute it at one input. -/
def fnExactRestJoinWrong : ChangeSpec := { name := "fnExactRestJoin", vars := ["loop.example/sedge/impl.restAll"], fn := fun _ => fun
  | [d1, d2, g1] => { results := [.lit (.bool false)], args := [d1, d2], vars := [g1] }
  | _ => none }
def FnExactRestJoinWrongFalsely : Prop := fnExactRestJoinRow.holds Tryd.pinned (OpenSpec.ofChange fnExactRestJoinWrong)

/-- 'laws.FnExactRestDo': WHATEVER THE INPUT: true; the input reads as it did. -/
def fnExactRestDoSpec : ChangeSpec := { name := "fnExactRestDo", vars := ["loop.example/sedge/impl.restAll", "loop.example/sedge/impl.rangeShifts"], fn := fun _ => fun
  | [d1, d2, d3, g1, g2] => { results := [.lit (.bool true)], args := [d1, d2, d3], vars := [g1, g2] }
  | _ => none }
def fnExactRestDoRow : OpenClaim := { program := "ytjpiihjgbllieaadoor", sum := "80b885ccf73d50b8eb8239b5a01b103dd25fea0532ac7a1dd71b69f809d5a0b1", func := "loop.example/sedge/laws.FnExactRestDo", spec := "fnExactRestDo", unfollowed := true, recurses := true, named := ["loop.example/sedge/impl.restAll", "loop.example/sedge/impl.rangeShifts"], apart := false, laid := [("loop.example/sedge/impl.rangeShifts", laid_loop_example_sedge_impl_rangeShifts), ("loop.example/sedge/impl.restAll", laid_loop_example_sedge_impl_restAll)] }
def FnExactRestDoSaid : Prop := fnExactRestDoRow.holds Tryd.pinned (OpenSpec.ofChange fnExactRestDoSpec)

/-- ITS FALSE NEIGHBOUR: 'it returns false'. Refute it at one input. -/
def fnExactRestDoWrong : ChangeSpec := { name := "fnExactRestDo", vars := ["loop.example/sedge/impl.restAll", "loop.example/sedge/impl.rangeShifts"], fn := fun _ => fun
  | [d1, d2, d3, g1, g2] => { results := [.lit (.bool false)], args := [d1, d2, d3], vars := [g1, g2] }
  | _ => none }
def FnExactRestDoWrongFalsely : Prop := fnExactRestDoRow.holds Tryd.pinned (OpenSpec.ofChange fnExactRestDoWrong)

/-- 'laws.FnExactRangeDo': WHATEVER THE INPUT: true; the input reads as it did. -/
def fnExactRangeDoSpec : ChangeSpec := { name := "fnExactRangeDo", vars := ["loop.example/sedge/impl.rangeNone", "loop.example/sedge/impl.rangeBelow0", "loop.example/sedge/impl.rangeAbove0", "loop.example/sedge/impl.rangeAll", "loop.example/sedge/impl.rangeShifts"], fn := fun _ => fun
  | [d1, d2, d3, g1, g2, g3, g4, g5] => { results := [.lit (.bool true)], args := [d1, d2, d3], vars := [g1, g2, g3, g4, g5] }
  | _ => none }
def fnExactRangeDoRow : OpenClaim := { program := "ytjpiihjgbllieaadoor", sum := "80b885ccf73d50b8eb8239b5a01b103dd25fea0532ac7a1dd71b69f809d5a0b1", func := "loop.example/sedge/laws.FnExactRangeDo", spec := "fnExactRangeDo", unfollowed := true, recurses := true, named := ["loop.example/sedge/impl.rangeNone", "loop.example/sedge/impl.rangeBelow0", "loop.example/sedge/impl.rangeAbove0", "loop.example/sedge/impl.rangeAll", "loop.example/sedge/impl.rangeShifts"], apart := false, laid := [("loop.example/sedge/impl.rangeNone", laid_loop_example_sedge_impl_rangeNone), ("loop.example/sedge/impl.rangeAll", laid_loop_example_sedge_impl_rangeAll), ("loop.example/sedge/impl.rangeBelow0", laid_loop_example_sedge_impl_rangeBelow0), ("loop.example/sedge/impl.rangeAbove0", laid_loop_example_sedge_impl_rangeAbove0), ("loop.example/sedge/impl.rangeShifts", laid_loop_example_sedge_impl_rangeShifts)] }
def FnExactRangeDoSaid : Prop := fnExactRangeDoRow.holds Tryd.pinned (OpenSpec.ofChange fnExactRangeDoSpec)

/-- ITS FALSE NEIGHBOUR: 'it returns false'. Refute it at one input. -/
def fnExactRangeDoWrong : ChangeSpec := { name := "fnExactRangeDo", vars := ["loop.example/sedge/impl.rangeNone", "loop.example/sedge/impl.rangeBelow0", "loop.example/sedge/impl.rangeAbove0", "loop.example/sedge/impl.rangeAll", "loop.example/sedge/impl.rangeShifts"], fn := fun _ => fun
  | [d1, d2, d3, g1, g2, g3, g4, g5] => { results := [.lit (.bool false)], args := [d1, d2, d3], vars := [g1, g2, g3, g4, g5] }
  | _ => none }
def FnExactRangeDoWrongFalsely : Prop := fnExactRangeDoRow.holds Tryd.pinned (OpenSpec.ofChange fnExactRangeDoWrong)

/-- 'laws.FnExactRangeCmp': WHATEVER THE INPUT: true; the input reads as it did. -/
def fnExactRangeCmpSpec : ChangeSpec := { name := "fnExactRangeCmp", vars := ["loop.example/sedge/impl.rangeNone", "loop.example/sedge/impl.cmpTurned"], fn := fun _ => fun
  | [d1, d2, d3, g1, g2] => { results := [.lit (.bool true)], args := [d1, d2, d3], vars := [g1, g2] }
  | _ => none }
def fnExactRangeCmpRow : OpenClaim := { program := "ytjpiihjgbllieaadoor", sum := "80b885ccf73d50b8eb8239b5a01b103dd25fea0532ac7a1dd71b69f809d5a0b1", func := "loop.example/sedge/laws.FnExactRangeCmp", spec := "fnExactRangeCmp", unfollowed := true, recurses := true, named := ["loop.example/sedge/impl.rangeNone", "loop.example/sedge/impl.cmpTurned"], apart := false, laid := [("loop.example/sedge/impl.cmpTurned", laid_loop_example_sedge_impl_cmpTurned), ("loop.example/sedge/impl.rangeNone", laid_loop_example_sedge_impl_rangeNone)] }
def FnExactRangeCmpSaid : Prop := fnExactRangeCmpRow.holds Tryd.pinned (OpenSpec.ofChange fnExactRangeCmpSpec)

/-- ITS FALSE NEIGHBOUR: 'it returns false'. Refute it at one input. -/
def fnExactRangeCmpWrong : ChangeSpec := { name := "fnExactRangeCmp", vars := ["loop.example/sedge/impl.rangeNone", "loop.example/sedge/impl.cmpTurned"], fn := fun _ => fun
  | [d1, d2, d3, g1, g2] => { results := [.lit (.bool false)], args := [d1, d2, d3], vars := [g1, g2] }
  | _ => none }
def FnExactRangeCmpWrongFalsely : Prop := fnExactRangeCmpRow.holds Tryd.pinned (OpenSpec.ofChange fnExactRangeCmpWrong)

/-- 'laws.FnRangeDo': WHATEVER THE INPUT: true; the input reads as it did. -/
def fnRangeDoSpec : ChangeSpec := { name := "fnRangeDo", vars := ["loop.example/sedge/impl.rangeNone", "loop.example/sedge/impl.rangeBelow0", "loop.example/sedge/impl.rangeAbove0", "loop.example/sedge/impl.rangeAll", "loop.example/sedge/impl.rangeShifts"], fn := fun _ => fun
  | [d, g1, g2, g3, g4, g5] => { results := [.lit (.bool true)], args := [d], vars := [g1, g2, g3, g4, g5] }
  | _ => none }
def fnRangeDoRow : OpenClaim := { program := "ytjpiihjgbllieaadoor", sum := "80b885ccf73d50b8eb8239b5a01b103dd25fea0532ac7a1dd71b69f809d5a0b1", func := "loop.example/sedge/laws.FnRangeDo", spec := "fnRangeDo", unfollowed := true, recurses := true, named := ["loop.example/sedge/impl.rangeNone", "loop.example/sedge/impl.rangeBelow0", "loop.example/sedge/impl.rangeAbove0", "loop.example/sedge/impl.rangeAll", "loop.example/sedge/impl.rangeShifts"], apart := false, laid := [("loop.example/sedge/impl.rangeNone", laid_loop_example_sedge_impl_rangeNone), ("loop.example/sedge/impl.rangeAll", laid_loop_example_sedge_impl_rangeAll), ("loop.example/sedge/impl.rangeBelow0", laid_loop_example_sedge_impl_rangeBelow0), ("loop.example/sedge/impl.rangeAbove0", laid_loop_example_sedge_impl_rangeAbove0), ("loop.example/sedge/impl.rangeShifts", laid_loop_example_sedge_impl_rangeShifts)] }
def FnRangeDoSaid : Prop := fnRangeDoRow.holds Tryd.pinned (OpenSpec.ofChange fnRangeDoSpec)

/-- ITS FALSE NEIGHBOUR: 'it returns false'. Refute it at one input. -/
def fnRangeDoWrong : ChangeSpec := { name := "fnRangeDo", vars := ["loop.example/sedge/impl.rangeNone", "loop.example/sedge/impl.rangeBelow0", "loop.example/sedge/impl.rangeAbove0", "loop.example/sedge/impl.rangeAll", "loop.example/sedge/impl.rangeShifts"], fn := fun _ => fun
  | [d, g1, g2, g3, g4, g5] => { results := [.lit (.bool false)], args := [d], vars := [g1, g2, g3, g4, g5] }
  | _ => none }
def FnRangeDoWrongFalsely : Prop := fnRangeDoRow.holds Tryd.pinned (OpenSpec.ofChange fnRangeDoWrong)

/-- 'laws.FnRangeOne': WHATEVER THE INPUT: true; the input reads as it did. -/
def fnRangeOneSpec : ChangeSpec := { name := "fnRangeOne", vars := ["loop.example/sedge/impl.rangeNone", "loop.example/sedge/impl.rangeBelow0", "loop.example/sedge/impl.rangeAbove0", "loop.example/sedge/impl.rangeAll", "loop.example/sedge/impl.rangeShifts"], fn := fun _ => fun
  | [d, g1, g2, g3, g4, g5] => { results := [.lit (.bool true)], args := [d], vars := [g1, g2, g3, g4, g5] }
  | _ => none }
def fnRangeOneRow : OpenClaim := { program := "ytjpiihjgbllieaadoor", sum := "80b885ccf73d50b8eb8239b5a01b103dd25fea0532ac7a1dd71b69f809d5a0b1", func := "loop.example/sedge/laws.FnRangeOne", spec := "fnRangeOne", unfollowed := true, recurses := true, named := ["loop.example/sedge/impl.rangeNone", "loop.example/sedge/impl.rangeBelow0", "loop.example/sedge/impl.rangeAbove0", "loop.example/sedge/impl.rangeAll", "loop.example/sedge/impl.rangeShifts"], apart := false, laid := [("loop.example/sedge/impl.rangeNone", laid_loop_example_sedge_impl_rangeNone), ("loop.example/sedge/impl.rangeAll", laid_loop_example_sedge_impl_rangeAll), ("loop.example/sedge/impl.rangeBelow0", laid_loop_example_sedge_impl_rangeBelow0), ("loop.example/sedge/impl.rangeAbove0", laid_loop_example_sedge_impl_rangeAbove0), ("loop.example/sedge/impl.rangeShifts", laid_loop_example_sedge_impl_rangeShifts)] }
def FnRangeOneSaid : Prop := fnRangeOneRow.holds Tryd.pinned (OpenSpec.ofChange fnRangeOneSpec)

/-- ITS FALSE NEIGHBOUR: 'it returns false'. Refute it at one input. -/
def fnRangeOneWrong : ChangeSpec := { name := "fnRangeOne", vars := ["loop.example/sedge/impl.rangeNone", "loop.example/sedge/impl.rangeBelow0", "loop.example/sedge/impl.rangeAbove0", "loop.example/sedge/impl.rangeAll", "loop.example/sedge/impl.rangeShifts"], fn := fun _ => fun
  | [d, g1, g2, g3, g4, g5] => { results := [.lit (.bool false)], args := [d], vars := [g1, g2, g3, g4, g5] }
  | _ => none }
def FnRangeOneWrongFalsely : Prop := fnRangeOneRow.holds Tryd.pinned (OpenSpec.ofChange fnRangeOneWrong)

/-- 'laws.FnRangeFaults': WHATEVER THE INPUT: true; the input reads as it did. -/
def fnRangeFaultsSpec : ChangeSpec := { name := "fnRangeFaults", vars := ["loop.example/sedge/impl.rangeNone", "loop.example/sedge/impl.rangeBelow0", "loop.example/sedge/impl.rangeAbove0", "loop.example/sedge/impl.rangeAll", "loop.example/sedge/impl.rangeShifts"], fn := fun _ => fun
  | [d, g1, g2, g3, g4, g5] => { results := [.lit (.bool true)], args := [d], vars := [g1, g2, g3, g4, g5] }
  | _ => none }
def fnRangeFaultsRow : OpenClaim := { program := "ytjpiihjgbllieaadoor", sum := "80b885ccf73d50b8eb8239b5a01b103dd25fea0532ac7a1dd71b69f809d5a0b1", func := "loop.example/sedge/laws.FnRangeFaults", spec := "fnRangeFaults", unfollowed := true, recurses := true, named := ["loop.example/sedge/impl.rangeNone", "loop.example/sedge/impl.rangeBelow0", "loop.example/sedge/impl.rangeAbove0", "loop.example/sedge/impl.rangeAll", "loop.example/sedge/impl.rangeShifts"], apart := false, laid := [("loop.example/sedge/impl.rangeNone", laid_loop_example_sedge_impl_rangeNone), ("loop.example/sedge/impl.rangeAll", laid_loop_example_sedge_impl_rangeAll), ("loop.example/sedge/impl.rangeBelow0", laid_loop_example_sedge_impl_rangeBelow0), ("loop.example/sedge/impl.rangeAbove0", laid_loop_example_sedge_impl_rangeAbove0), ("loop.example/sedge/impl.rangeShifts", laid_loop_example_sedge_impl_rangeShifts)] }
def FnRangeFaultsSaid : Prop := fnRangeFaultsRow.holds Tryd.pinned (OpenSpec.ofChange fnRangeFaultsSpec)

/-- ITS FALSE NEIGHBOUR: 'it returns false'. Refute it at one input. -/
def fnRangeFaultsWrong : ChangeSpec := { name := "fnRangeFaults", vars := ["loop.example/sedge/impl.rangeNone", "loop.example/sedge/impl.rangeBelow0", "loop.example/sedge/impl.rangeAbove0", "loop.example/sedge/impl.rangeAll", "loop.example/sedge/impl.rangeShifts"], fn := fun _ => fun
  | [d, g1, g2, g3, g4, g5] => { results := [.lit (.bool false)], args := [d], vars := [g1, g2, g3, g4, g5] }
  | _ => none }
def FnRangeFaultsWrongFalsely : Prop := fnRangeFaultsRow.holds Tryd.pinned (OpenSpec.ofChange fnRangeFaultsWrong)

/-- 'laws.FnRangeMore': WHATEVER THE INPUT: true; the input reads as it did. -/
def fnRangeMoreSpec : ChangeSpec := { name := "fnRangeMore", vars := ["loop.example/sedge/impl.rangeNone", "loop.example/sedge/impl.rangeBelow0", "loop.example/sedge/impl.rangeAbove0", "loop.example/sedge/impl.rangeAll", "loop.example/sedge/impl.rangeShifts"], fn := fun _ => fun
  | [d, g1, g2, g3, g4, g5] => { results := [.lit (.bool true)], args := [d], vars := [g1, g2, g3, g4, g5] }
  | _ => none }
def fnRangeMoreRow : OpenClaim := { program := "ytjpiihjgbllieaadoor", sum := "80b885ccf73d50b8eb8239b5a01b103dd25fea0532ac7a1dd71b69f809d5a0b1", func := "loop.example/sedge/laws.FnRangeMore", spec := "fnRangeMore", unfollowed := true, recurses := true, named := ["loop.example/sedge/impl.rangeNone", "loop.example/sedge/impl.rangeBelow0", "loop.example/sedge/impl.rangeAbove0", "loop.example/sedge/impl.rangeAll", "loop.example/sedge/impl.rangeShifts"], apart := false, laid := [("loop.example/sedge/impl.rangeNone", laid_loop_example_sedge_impl_rangeNone), ("loop.example/sedge/impl.rangeAll", laid_loop_example_sedge_impl_rangeAll), ("loop.example/sedge/impl.rangeBelow0", laid_loop_example_sedge_impl_rangeBelow0), ("loop.example/sedge/impl.rangeAbove0", laid_loop_example_sedge_impl_rangeAbove0), ("loop.example/sedge/impl.rangeShifts", laid_loop_example_sedge_impl_rangeShifts)] }
def FnRangeMoreSaid : Prop := fnRangeMoreRow.holds Tryd.pinned (OpenSpec.ofChange fnRangeMoreSpec)

/-- ITS FALSE NEIGHBOUR: 'it returns false'. Refute it at one input. -/
def fnRangeMoreWrong : ChangeSpec := { name := "fnRangeMore", vars := ["loop.example/sedge/impl.rangeNone", "loop.example/sedge/impl.rangeBelow0", "loop.example/sedge/impl.rangeAbove0", "loop.example/sedge/impl.rangeAll", "loop.example/sedge/impl.rangeShifts"], fn := fun _ => fun
  | [d, g1, g2, g3, g4, g5] => { results := [.lit (.bool false)], args := [d], vars := [g1, g2, g3, g4, g5] }
  | _ => none }
def FnRangeMoreWrongFalsely : Prop := fnRangeMoreRow.holds Tryd.pinned (OpenSpec.ofChange fnRangeMoreWrong)

/- THE SECOND FORM. 'bulk': how many values and letters a reading holds, each counted each time it is reached (what is shared counts as often as it is met; a slice's spare places count too). A statement '..UptoSaid' is the law's where the arguments, and the package variables that the reading takes, are together of bulk at most 1048576: NARROWER than '..Said'. Prove '..Said' where nothing that the law and all that it calls make is longer than what came in: it says more and counts as full. Else prove '..UptoSaid'. A law counts once. -/
mutual
def uptoBulk {H : Type} : DataW H → Nat
  | .lit (.string bytes) => bytes.length + 1
  | .lit _ => 1
  | .nil => 1
  | .ptr d => uptoBulk d + 1
  | .slice elems spare => uptoBulkAll elems + uptoBulkAll spare + 1
  | .agg parts => uptoBulkAll parts + 1
  | .iface _ d => uptoBulk d + 1
  | .map entries => uptoBulkEntries entries + 1
  | .held _ => 1
def uptoBulkAll {H : Type} : List (DataW H) → Nat
  | [] => 0
  | d :: r => uptoBulk d + uptoBulkAll r
def uptoBulkEntries {H : Type} : List (Lit × DataW H) → Nat
  | [] => 0
  | x :: r => uptoBulkEntry x + uptoBulkEntries r
def uptoBulkEntry {H : Type} : Lit × DataW H → Nat
  | (.string bytes, d) => bytes.length + uptoBulk d + 1
  | (_, d) => uptoBulk d + 1
 end
def uptoSmall : (H : Type) → List (DataW H) → Bool := fun _ ds => decide (uptoBulkAll ds ≤ 1048576)
def OpenSpec.upto (s : _root_.Go.ChangeSpec) : _root_.Go.OpenSpec := { _root_.Go.OpenSpec.ofChange s with cond := some uptoSmall }

/-- 'laws.FnRestDo', WHERE WHAT IT READS IS OF BULK AT MOST 1048576: true; the input reads as it did. -/
def fnRestDoUptoRow : OpenClaim := { program := "ytjpiihjgbllieaadoor", sum := "80b885ccf73d50b8eb8239b5a01b103dd25fea0532ac7a1dd71b69f809d5a0b1", func := "loop.example/sedge/laws.FnRestDo", spec := "fnRestDo", unfollowed := true, recurses := true, named := ["loop.example/sedge/impl.restAll", "loop.example/sedge/impl.rangeShifts"], apart := false, laid := [("loop.example/sedge/impl.rangeShifts", laid_loop_example_sedge_impl_rangeShifts), ("loop.example/sedge/impl.restAll", laid_loop_example_sedge_impl_restAll)], narrowed := true }
def FnRestDoUptoSaid : Prop := fnRestDoUptoRow.holds Tryd.pinned (OpenSpec.upto fnRestDoSpec)

/-- 'laws.FnRestLattice', WHERE WHAT IT READS IS OF BULK AT MOST 1048576: true; the input reads as it did. -/
def fnRestLatticeUptoRow : OpenClaim := { program := "ytjpiihjgbllieaadoor", sum := "80b885ccf73d50b8eb8239b5a01b103dd25fea0532ac7a1dd71b69f809d5a0b1", func := "loop.example/sedge/laws.FnRestLattice", spec := "fnRestLattice", recurses := true, named := ["loop.example/sedge/impl.restAll"], apart := false, laid := [("loop.example/sedge/impl.restAll", laid_loop_example_sedge_impl_restAll)], narrowed := true }
def FnRestLatticeUptoSaid : Prop := fnRestLatticeUptoRow.holds Tryd.pinned (OpenSpec.upto fnRestLatticeSpec)

/-- 'laws.FnExactRestIn', WHERE WHAT IT READS IS OF BULK AT MOST 1048576: true; the input reads as it did. -/
def fnExactRestInUptoRow : OpenClaim := { program := "ytjpiihjgbllieaadoor", sum := "80b885ccf73d50b8eb8239b5a01b103dd25fea0532ac7a1dd71b69f809d5a0b1", func := "loop.example/sedge/laws.FnExactRestIn", spec := "fnExactRestIn", named := ["loop.example/sedge/impl.restAll"], apart := false, laid := [("loop.example/sedge/impl.restAll", laid_loop_example_sedge_impl_restAll)], narrowed := true }
def FnExactRestInUptoSaid : Prop := fnExactRestInUptoRow.holds Tryd.pinned (OpenSpec.upto fnExactRestInSpec)

/-- 'laws.FnExactRestJoin', WHERE WHAT IT READS IS OF BULK AT MOST 1048576: true; the input reads as it did. -/
def fnExactRestJoinUptoRow : OpenClaim := { program := "ytjpiihjgbllieaadoor", sum := "80b885ccf73d50b8eb8239b5a01b103dd25fea0532ac7a1dd71b69f809d5a0b1", func := "loop.example/sedge/laws.FnExactRestJoin", spec := "fnExactRestJoin", named := ["loop.example/sedge/impl.restAll"], apart := false, laid := [("loop.example/sedge/impl.restAll", laid_loop_example_sedge_impl_restAll)], narrowed := true }
def FnExactRestJoinUptoSaid : Prop := fnExactRestJoinUptoRow.holds Tryd.pinned (OpenSpec.upto fnExactRestJoinSpec)

/-- 'laws.FnExactRestDo', WHERE WHAT IT READS IS OF BULK AT MOST 1048576: true; the input reads as it did. -/
def fnExactRestDoUptoRow : OpenClaim := { program := "ytjpiihjgbllieaadoor", sum := "80b885ccf73d50b8eb8239b5a01b103dd25fea0532ac7a1dd71b69f809d5a0b1", func := "loop.example/sedge/laws.FnExactRestDo", spec := "fnExactRestDo", unfollowed := true, recurses := true, named := ["loop.example/sedge/impl.restAll", "loop.example/sedge/impl.rangeShifts"], apart := false, laid := [("loop.example/sedge/impl.rangeShifts", laid_loop_example_sedge_impl_rangeShifts), ("loop.example/sedge/impl.restAll", laid_loop_example_sedge_impl_restAll)], narrowed := true }
def FnExactRestDoUptoSaid : Prop := fnExactRestDoUptoRow.holds Tryd.pinned (OpenSpec.upto fnExactRestDoSpec)

/-- 'laws.FnExactRangeDo', WHERE WHAT IT READS IS OF BULK AT MOST 1048576: true; the input reads as it did. -/
def fnExactRangeDoUptoRow : OpenClaim := { program := "ytjpiihjgbllieaadoor", sum := "80b885ccf73d50b8eb8239b5a01b103dd25fea0532ac7a1dd71b69f809d5a0b1", func := "loop.example/sedge/laws.FnExactRangeDo", spec := "fnExactRangeDo", unfollowed := true, recurses := true, named := ["loop.example/sedge/impl.rangeNone", "loop.example/sedge/impl.rangeBelow0", "loop.example/sedge/impl.rangeAbove0", "loop.example/sedge/impl.rangeAll", "loop.example/sedge/impl.rangeShifts"], apart := false, laid := [("loop.example/sedge/impl.rangeNone", laid_loop_example_sedge_impl_rangeNone), ("loop.example/sedge/impl.rangeAll", laid_loop_example_sedge_impl_rangeAll), ("loop.example/sedge/impl.rangeBelow0", laid_loop_example_sedge_impl_rangeBelow0), ("loop.example/sedge/impl.rangeAbove0", laid_loop_example_sedge_impl_rangeAbove0), ("loop.example/sedge/impl.rangeShifts", laid_loop_example_sedge_impl_rangeShifts)], narrowed := true }
def FnExactRangeDoUptoSaid : Prop := fnExactRangeDoUptoRow.holds Tryd.pinned (OpenSpec.upto fnExactRangeDoSpec)

/-- 'laws.FnExactRangeCmp', WHERE WHAT IT READS IS OF BULK AT MOST 1048576: true; the input reads as it did. -/
def fnExactRangeCmpUptoRow : OpenClaim := { program := "ytjpiihjgbllieaadoor", sum := "80b885ccf73d50b8eb8239b5a01b103dd25fea0532ac7a1dd71b69f809d5a0b1", func := "loop.example/sedge/laws.FnExactRangeCmp", spec := "fnExactRangeCmp", unfollowed := true, recurses := true, named := ["loop.example/sedge/impl.rangeNone", "loop.example/sedge/impl.cmpTurned"], apart := false, laid := [("loop.example/sedge/impl.cmpTurned", laid_loop_example_sedge_impl_cmpTurned), ("loop.example/sedge/impl.rangeNone", laid_loop_example_sedge_impl_rangeNone)], narrowed := true }
def FnExactRangeCmpUptoSaid : Prop := fnExactRangeCmpUptoRow.holds Tryd.pinned (OpenSpec.upto fnExactRangeCmpSpec)

/-- 'laws.FnRangeDo', WHERE WHAT IT READS IS OF BULK AT MOST 1048576: true; the input reads as it did. -/
def fnRangeDoUptoRow : OpenClaim := { program := "ytjpiihjgbllieaadoor", sum := "80b885ccf73d50b8eb8239b5a01b103dd25fea0532ac7a1dd71b69f809d5a0b1", func := "loop.example/sedge/laws.FnRangeDo", spec := "fnRangeDo", unfollowed := true, recurses := true, named := ["loop.example/sedge/impl.rangeNone", "loop.example/sedge/impl.rangeBelow0", "loop.example/sedge/impl.rangeAbove0", "loop.example/sedge/impl.rangeAll", "loop.example/sedge/impl.rangeShifts"], apart := false, laid := [("loop.example/sedge/impl.rangeNone", laid_loop_example_sedge_impl_rangeNone), ("loop.example/sedge/impl.rangeAll", laid_loop_example_sedge_impl_rangeAll), ("loop.example/sedge/impl.rangeBelow0", laid_loop_example_sedge_impl_rangeBelow0), ("loop.example/sedge/impl.rangeAbove0", laid_loop_example_sedge_impl_rangeAbove0), ("loop.example/sedge/impl.rangeShifts", laid_loop_example_sedge_impl_rangeShifts)], narrowed := true }
def FnRangeDoUptoSaid : Prop := fnRangeDoUptoRow.holds Tryd.pinned (OpenSpec.upto fnRangeDoSpec)

/-- 'laws.FnRangeOne', WHERE WHAT IT READS IS OF BULK AT MOST 1048576: true; the input reads as it did. -/
def fnRangeOneUptoRow : OpenClaim := { program := "ytjpiihjgbllieaadoor", sum := "80b885ccf73d50b8eb8239b5a01b103dd25fea0532ac7a1dd71b69f809d5a0b1", func := "loop.example/sedge/laws.FnRangeOne", spec := "fnRangeOne", unfollowed := true, recurses := true, named := ["loop.example/sedge/impl.rangeNone", "loop.example/sedge/impl.rangeBelow0", "loop.example/sedge/impl.rangeAbove0", "loop.example/sedge/impl.rangeAll", "loop.example/sedge/impl.rangeShifts"], apart := false, laid := [("loop.example/sedge/impl.rangeNone", laid_loop_example_sedge_impl_rangeNone), ("loop.example/sedge/impl.rangeAll", laid_loop_example_sedge_impl_rangeAll), ("loop.example/sedge/impl.rangeBelow0", laid_loop_example_sedge_impl_rangeBelow0), ("loop.example/sedge/impl.rangeAbove0", laid_loop_example_sedge_impl_rangeAbove0), ("loop.example/sedge/impl.rangeShifts", laid_loop_example_sedge_impl_rangeShifts)], narrowed := true }
def FnRangeOneUptoSaid : Prop := fnRangeOneUptoRow.holds Tryd.pinned (OpenSpec.upto fnRangeOneSpec)

/-- 'laws.FnRangeFaults', WHERE WHAT IT READS IS OF BULK AT MOST 1048576: true; the input reads as it did. -/
def fnRangeFaultsUptoRow : OpenClaim := { program := "ytjpiihjgbllieaadoor", sum := "80b885ccf73d50b8eb8239b5a01b103dd25fea0532ac7a1dd71b69f809d5a0b1", func := "loop.example/sedge/laws.FnRangeFaults", spec := "fnRangeFaults", unfollowed := true, recurses := true, named := ["loop.example/sedge/impl.rangeNone", "loop.example/sedge/impl.rangeBelow0", "loop.example/sedge/impl.rangeAbove0", "loop.example/sedge/impl.rangeAll", "loop.example/sedge/impl.rangeShifts"], apart := false, laid := [("loop.example/sedge/impl.rangeNone", laid_loop_example_sedge_impl_rangeNone), ("loop.example/sedge/impl.rangeAll", laid_loop_example_sedge_impl_rangeAll), ("loop.example/sedge/impl.rangeBelow0", laid_loop_example_sedge_impl_rangeBelow0), ("loop.example/sedge/impl.rangeAbove0", laid_loop_example_sedge_impl_rangeAbove0), ("loop.example/sedge/impl.rangeShifts", laid_loop_example_sedge_impl_rangeShifts)], narrowed := true }
def FnRangeFaultsUptoSaid : Prop := fnRangeFaultsUptoRow.holds Tryd.pinned (OpenSpec.upto fnRangeFaultsSpec)

/-- 'laws.FnRangeMore', WHERE WHAT IT READS IS OF BULK AT MOST 1048576: true; the input reads as it did. -/
def fnRangeMoreUptoRow : OpenClaim := { program := "ytjpiihjgbllieaadoor", sum := "80b885ccf73d50b8eb8239b5a01b103dd25fea0532ac7a1dd71b69f809d5a0b1", func := "loop.example/sedge/laws.FnRangeMore", spec := "fnRangeMore", unfollowed := true, recurses := true, named := ["loop.example/sedge/impl.rangeNone", "loop.example/sedge/impl.rangeBelow0", "loop.example/sedge/impl.rangeAbove0", "loop.example/sedge/impl.rangeAll", "loop.example/sedge/impl.rangeShifts"], apart := false, laid := [("loop.example/sedge/impl.rangeNone", laid_loop_example_sedge_impl_rangeNone), ("loop.example/sedge/impl.rangeAll", laid_loop_example_sedge_impl_rangeAll), ("loop.example/sedge/impl.rangeBelow0", laid_loop_example_sedge_impl_rangeBelow0), ("loop.example/sedge/impl.rangeAbove0", laid_loop_example_sedge_impl_rangeAbove0), ("loop.example/sedge/impl.rangeShifts", laid_loop_example_sedge_impl_rangeShifts)], narrowed := true }
def FnRangeMoreUptoSaid : Prop := fnRangeMoreUptoRow.holds Tryd.pinned (OpenSpec.upto fnRangeMoreSpec)

end Rows
end Go.Proofs.YtjpiihjgbllieaaDoor
