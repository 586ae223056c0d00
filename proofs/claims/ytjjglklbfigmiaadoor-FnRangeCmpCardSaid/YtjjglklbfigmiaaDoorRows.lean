/-
  NARROWER THAN 'FOR EVERY INPUT', by the rows' own cells (each row's printed sentence says how): FnExactRangeOk: laid · FnExactRangeHas: laid · FnExactRangeIn: laid · FnExactRangeJoin: laid · FnExactRangeMeet: laid · FnExactRangeWiden: laid · FnExactRangeDo: laid · FnExactRangeCmp: laid · FnRangeDo: laid · FnRangeOne: laid · FnRangeFaults: laid · FnRangeLattice: laid · FnRangeCmp: laid · FnRangeMore: laid · FnRangeStill: laid.
  DERIVED. THE GIVEN ROWS OF THIS SEAT. 15 by the template 'for every input the law returns true; each argument reads behind the call as it read before'; 0 by the template 'total and deterministic' (their statements: YtjjglklbfigmiaaDoorTotals.lean).
  GIVEN WITH THE SEED: the statements are not yours to turn. If you find one false, say at which input.
  Laid BY PROGRAM, IN A SANDBOX (cutbox-rows.mjs): the forced cells as the released guide's own fill.sh prints them over the translation c9f6e35e60263d8f… (all of the seat's roots in one cut). By AI agents, Wed Nov 11 2026. No macro, syntax, notation, axiom, sorry.
-/
import Derived.Test.YtjjglklbfigmiaaDoorChecked
import GoSem.Claim
import GoSem.ClaimJoined
import GoSem.ClaimMapViews
import Derived.JoinedTies
import Derived.KernelRfl
namespace Go.Proofs.YtjjglklbfigmiaaDoor
/- THE CELL 'sum', in the pinned program and in every row, IS THE sha256 OF THE DUMP (.gsa) THAT YtjjglklbfigmiaaDoorProg.lean LOADS. Nothing in Lean hashes anything: it is a label: what it is worth is what the hold of that sum in a sandbox is worth. -/
noncomputable def Tryd.pinned : Pinned := { name := "ytjjglklbfigmiaadoor", sum := "c9f6e35e60263d8ffa66013c28478dd08ddf38ccbaf50cbbb21dd7536c476ef0", checked := Tryd.checked }
namespace Rows
def none {H : Type} : Left H := { results := [], args := [] }

/- WHAT THE LISTED PACKAGE-LEVEL VARIABLES READ AS WHEN THE CALL BEGINS. Each datum BY PROGRAM (the guide's laid-datum.mjs) off the statement by which the dump's own 'gosem.cut.vars' lays the variable. In a bare row this is a premise. The card (YtjjglklbfigmiaaDoorCards.lean) ties it to the program's text. -/
def laid_loop_example_sedge_impl_rangeNone {H : Type} : DataW H := .agg [.lit (.int .i64 1), .lit (.int .i64 0)]
def laid_loop_example_sedge_impl_rangeAll {H : Type} : DataW H := .agg [.lit (.int .i64 (-2147483648)), .lit (.int .i64 2147483647)]
def laid_loop_example_sedge_impl_rangeBelow0 {H : Type} : DataW H := .agg [.lit (.int .i64 (-2147483648)), .lit (.int .i64 (-1))]
def laid_loop_example_sedge_impl_rangeAbove0 {H : Type} : DataW H := .agg [.lit (.int .i64 1), .lit (.int .i64 2147483647)]
def laid_loop_example_sedge_impl_rangeShifts {H : Type} : DataW H := .agg [.lit (.int .i64 0), .lit (.int .i64 31)]
def laid_loop_example_sedge_impl_cmpTurned {H : Type} : DataW H := .agg [.lit (.int .i64 0), .lit (.int .i64 1), .lit (.int .i64 2), .lit (.int .i64 5), .lit (.int .i64 6), .lit (.int .i64 3), .lit (.int .i64 4)]

/-- 'laws.FnExactRangeOk': WHATEVER THE INPUT: true; the input reads as it did. -/
def fnExactRangeOkSpec : ChangeSpec := { name := "fnExactRangeOk", vars := ["loop.example/sedge/impl.rangeNone"], fn := fun _ => fun
  | [d, g1] => { results := [.lit (.bool true)], args := [d], vars := [g1] }
  | _ => none }
def fnExactRangeOkRow : OpenClaim := { program := "ytjjglklbfigmiaadoor", sum := "c9f6e35e60263d8ffa66013c28478dd08ddf38ccbaf50cbbb21dd7536c476ef0", func := "loop.example/sedge/laws.FnExactRangeOk", spec := "fnExactRangeOk", unfollowed := true, recurses := true, named := ["loop.example/sedge/impl.rangeNone"], apart := false, laid := [("loop.example/sedge/impl.rangeNone", laid_loop_example_sedge_impl_rangeNone)] }
def FnExactRangeOkSaid : Prop := fnExactRangeOkRow.holds Tryd.pinned (OpenSpec.ofChange fnExactRangeOkSpec)

/-- ITS FALSE NEIGHBOUR: 'it returns false'. Refute it at one input. -/
def fnExactRangeOkWrong : ChangeSpec := { name := "fnExactRangeOk", vars := ["loop.example/sedge/impl.rangeNone"], fn := fun _ => fun
  | [d, g1] => { results := [.lit (.bool false)], args := [d], vars := [g1] }
  | _ => none }
def FnExactRangeOkWrongFalsely : Prop := fnExactRangeOkRow.holds Tryd.pinned (OpenSpec.ofChange fnExactRangeOkWrong)

/-- 'laws.FnExactRangeHas': WHATEVER THE INPUT: true; the input reads as it did. -/
def fnExactRangeHasSpec : ChangeSpec := { name := "fnExactRangeHas", vars := ["loop.example/sedge/impl.rangeNone"], fn := fun _ => fun
  | [d1, d2, g1] => { results := [.lit (.bool true)], args := [d1, d2], vars := [g1] }
  | _ => none }
def fnExactRangeHasRow : OpenClaim := { program := "ytjjglklbfigmiaadoor", sum := "c9f6e35e60263d8ffa66013c28478dd08ddf38ccbaf50cbbb21dd7536c476ef0", func := "loop.example/sedge/laws.FnExactRangeHas", spec := "fnExactRangeHas", unfollowed := true, recurses := true, named := ["loop.example/sedge/impl.rangeNone"], apart := false, laid := [("loop.example/sedge/impl.rangeNone", laid_loop_example_sedge_impl_rangeNone)] }
def FnExactRangeHasSaid : Prop := fnExactRangeHasRow.holds Tryd.pinned (OpenSpec.ofChange fnExactRangeHasSpec)

/-- ITS FALSE NEIGHBOUR: 'it returns false'. Refute it at one input. -/
def fnExactRangeHasWrong : ChangeSpec := { name := "fnExactRangeHas", vars := ["loop.example/sedge/impl.rangeNone"], fn := fun _ => fun
  | [d1, d2, g1] => { results := [.lit (.bool false)], args := [d1, d2], vars := [g1] }
  | _ => none }
def FnExactRangeHasWrongFalsely : Prop := fnExactRangeHasRow.holds Tryd.pinned (OpenSpec.ofChange fnExactRangeHasWrong)

/-- 'laws.FnExactRangeIn': WHATEVER THE INPUT: true; the input reads as it did. -/
def fnExactRangeInSpec : ChangeSpec := { name := "fnExactRangeIn", vars := ["loop.example/sedge/impl.rangeNone"], fn := fun _ => fun
  | [d1, d2, g1] => { results := [.lit (.bool true)], args := [d1, d2], vars := [g1] }
  | _ => none }
def fnExactRangeInRow : OpenClaim := { program := "ytjjglklbfigmiaadoor", sum := "c9f6e35e60263d8ffa66013c28478dd08ddf38ccbaf50cbbb21dd7536c476ef0", func := "loop.example/sedge/laws.FnExactRangeIn", spec := "fnExactRangeIn", unfollowed := true, recurses := true, named := ["loop.example/sedge/impl.rangeNone"], apart := false, laid := [("loop.example/sedge/impl.rangeNone", laid_loop_example_sedge_impl_rangeNone)] }
def FnExactRangeInSaid : Prop := fnExactRangeInRow.holds Tryd.pinned (OpenSpec.ofChange fnExactRangeInSpec)

/-- ITS FALSE NEIGHBOUR: 'it returns false'. Refute it at one input. -/
def fnExactRangeInWrong : ChangeSpec := { name := "fnExactRangeIn", vars := ["loop.example/sedge/impl.rangeNone"], fn := fun _ => fun
  | [d1, d2, g1] => { results := [.lit (.bool false)], args := [d1, d2], vars := [g1] }
  | _ => none }
def FnExactRangeInWrongFalsely : Prop := fnExactRangeInRow.holds Tryd.pinned (OpenSpec.ofChange fnExactRangeInWrong)

/-- 'laws.FnExactRangeJoin': WHATEVER THE INPUT: true; the input reads as it did. -/
def fnExactRangeJoinSpec : ChangeSpec := { name := "fnExactRangeJoin", vars := ["loop.example/sedge/impl.rangeNone"], fn := fun _ => fun
  | [d1, d2, g1] => { results := [.lit (.bool true)], args := [d1, d2], vars := [g1] }
  | _ => none }
def fnExactRangeJoinRow : OpenClaim := { program := "ytjjglklbfigmiaadoor", sum := "c9f6e35e60263d8ffa66013c28478dd08ddf38ccbaf50cbbb21dd7536c476ef0", func := "loop.example/sedge/laws.FnExactRangeJoin", spec := "fnExactRangeJoin", unfollowed := true, recurses := true, named := ["loop.example/sedge/impl.rangeNone"], apart := false, laid := [("loop.example/sedge/impl.rangeNone", laid_loop_example_sedge_impl_rangeNone)] }
def FnExactRangeJoinSaid : Prop := fnExactRangeJoinRow.holds Tryd.pinned (OpenSpec.ofChange fnExactRangeJoinSpec)

/-- ITS FALSE NEIGHBOUR: 'it returns false'. Refute it at one input. -/
def fnExactRangeJoinWrong : ChangeSpec := { name := "fnExactRangeJoin", vars := ["loop.example/sedge/impl.rangeNone"], fn := fun _ => fun
  | [d1, d2, g1] => { results := [.lit (.bool false)], args := [d1, d2], vars := [g1] }
  | _ => none }
def FnExactRangeJoinWrongFalsely : Prop := fnExactRangeJoinRow.holds Tryd.pinned (OpenSpec.ofChange fnExactRangeJoinWrong)

/-- 'laws.FnExactRangeMeet': WHATEVER THE INPUT: true; the input reads as it did. -/
def fnExactRangeMeetSpec : ChangeSpec := { name := "fnExactRangeMeet", vars := ["loop.example/sedge/impl.rangeNone"], fn := fun _ => fun
  | [d1, d2, g1] => { results := [.lit (.bool true)], args := [d1, d2], vars := [g1] }
  | _ => none }
def fnExactRangeMeetRow : OpenClaim := { program := "ytjjglklbfigmiaadoor", sum := "c9f6e35e60263d8ffa66013c28478dd08ddf38ccbaf50cbbb21dd7536c476ef0", func := "loop.example/sedge/laws.FnExactRangeMeet", spec := "fnExactRangeMeet", unfollowed := true, recurses := true, named := ["loop.example/sedge/impl.rangeNone"], apart := false, laid := [("loop.example/sedge/impl.rangeNone", laid_loop_example_sedge_impl_rangeNone)] }
def FnExactRangeMeetSaid : Prop := fnExactRangeMeetRow.holds Tryd.pinned (OpenSpec.ofChange fnExactRangeMeetSpec)

/-- ITS FALSE NEIGHBOUR: 'it returns false'. Refute it at one input. -/
def fnExactRangeMeetWrong : ChangeSpec := { name := "fnExactRangeMeet", vars := ["loop.example/sedge/impl.rangeNone"], fn := fun _ => fun
  | [d1, d2, g1] => { results := [.lit (.bool false)], args := [d1, d2], vars := [g1] }
  | _ => none }
def FnExactRangeMeetWrongFalsely : Prop := fnExactRangeMeetRow.holds Tryd.pinned (OpenSpec.ofChange fnExactRangeMeetWrong)

/-- 'laws.FnExactRangeWiden': WHATEVER THE INPUT: true; the input reads as it did. -/
def fnExactRangeWidenSpec : ChangeSpec := { name := "fnExactRangeWiden", vars := ["loop.example/sedge/impl.rangeNone"], fn := fun _ => fun
  | [d1, d2, d3, g1] => { results := [.lit (.bool true)], args := [d1, d2, d3], vars := [g1] }
  | _ => none }
def fnExactRangeWidenRow : OpenClaim := { program := "ytjjglklbfigmiaadoor", sum := "c9f6e35e60263d8ffa66013c28478dd08ddf38ccbaf50cbbb21dd7536c476ef0", func := "loop.example/sedge/laws.FnExactRangeWiden", spec := "fnExactRangeWiden", unfollowed := true, recurses := true, named := ["loop.example/sedge/impl.rangeNone"], apart := false, laid := [("loop.example/sedge/impl.rangeNone", laid_loop_example_sedge_impl_rangeNone)] }
def FnExactRangeWidenSaid : Prop := fnExactRangeWidenRow.holds Tryd.pinned (OpenSpec.ofChange fnExactRangeWidenSpec)

/-- ITS FALSE NEIGHBOUR: 'it returns false'. Refute it at one input. -/
def fnExactRangeWidenWrong : ChangeSpec := { name := "fnExactRangeWiden", vars := ["loop.example/sedge/impl.rangeNone"], fn := fun _ => fun
  | [d1, d2, d3, g1] => { results := [.lit (.bool false)], args := [d1, d2, d3], vars := [g1] }
  | _ => none }
def FnExactRangeWidenWrongFalsely : Prop := fnExactRangeWidenRow.holds Tryd.pinned (OpenSpec.ofChange fnExactRangeWidenWrong)

/-- 'laws.FnExactRangeDo': WHATEVER THE INPUT: true; the input reads as it did. -/
def fnExactRangeDoSpec : ChangeSpec := { name := "fnExactRangeDo", vars := ["loop.example/sedge/impl.rangeNone", "loop.example/sedge/impl.rangeBelow0", "loop.example/sedge/impl.rangeAbove0", "loop.example/sedge/impl.rangeAll", "loop.example/sedge/impl.rangeShifts"], fn := fun _ => fun
  | [d1, d2, d3, g1, g2, g3, g4, g5] => { results := [.lit (.bool true)], args := [d1, d2, d3], vars := [g1, g2, g3, g4, g5] }
  | _ => none }
def fnExactRangeDoRow : OpenClaim := { program := "ytjjglklbfigmiaadoor", sum := "c9f6e35e60263d8ffa66013c28478dd08ddf38ccbaf50cbbb21dd7536c476ef0", func := "loop.example/sedge/laws.FnExactRangeDo", spec := "fnExactRangeDo", unfollowed := true, recurses := true, named := ["loop.example/sedge/impl.rangeNone", "loop.example/sedge/impl.rangeBelow0", "loop.example/sedge/impl.rangeAbove0", "loop.example/sedge/impl.rangeAll", "loop.example/sedge/impl.rangeShifts"], apart := false, laid := [("loop.example/sedge/impl.rangeNone", laid_loop_example_sedge_impl_rangeNone), ("loop.example/sedge/impl.rangeAll", laid_loop_example_sedge_impl_rangeAll), ("loop.example/sedge/impl.rangeBelow0", laid_loop_example_sedge_impl_rangeBelow0), ("loop.example/sedge/impl.rangeAbove0", laid_loop_example_sedge_impl_rangeAbove0), ("loop.example/sedge/impl.rangeShifts", laid_loop_example_sedge_impl_rangeShifts)] }
def FnExactRangeDoSaid : Prop := fnExactRangeDoRow.holds Tryd.pinned (OpenSpec.ofChange fnExactRangeDoSpec)

/-- ITS FALSE NEIGHBOUR: 'it returns false'. Refute it at one input. -/
def fnExactRangeDoWrong : ChangeSpec := { name := "fnExactRangeDo", vars := ["loop.example/sedge/impl.rangeNone", "loop.example/sedge/impl.rangeBelow0", "loop.example/sedge/impl.rangeAbove0", "loop.example/sedge/impl.rangeAll", "loop.example/sedge/impl.rangeShifts"], fn := fun _ => fun
  | [d1, d2, d3, g1, g2, g3, g4, g5] => { results := [.lit (.bool false)], args := [d1, d2, d3], vars := [g1, g2, g3, g4, g5] }
  | _ => none }
def FnExactRangeDoWrongFalsely : Prop := fnExactRangeDoRow.holds Tryd.pinned (OpenSpec.ofChange fnExactRangeDoWrong)

/-- 'laws.FnExactRangeCmp': WHATEVER THE INPUT: true; the input reads as it did. -/
def fnExactRangeCmpSpec : ChangeSpec := { name := "fnExactRangeCmp", vars := ["loop.example/sedge/impl.rangeNone", "loop.example/sedge/impl.cmpTurned"], fn := fun _ => fun
  | [d1, d2, d3, g1, g2] => { results := [.lit (.bool true)], args := [d1, d2, d3], vars := [g1, g2] }
  | _ => none }
def fnExactRangeCmpRow : OpenClaim := { program := "ytjjglklbfigmiaadoor", sum := "c9f6e35e60263d8ffa66013c28478dd08ddf38ccbaf50cbbb21dd7536c476ef0", func := "loop.example/sedge/laws.FnExactRangeCmp", spec := "fnExactRangeCmp", unfollowed := true, recurses := true, named := ["loop.example/sedge/impl.rangeNone", "loop.example/sedge/impl.cmpTurned"], apart := false, laid := [("loop.example/sedge/impl.cmpTurned", laid_loop_example_sedge_impl_cmpTurned), ("loop.example/sedge/impl.rangeNone", laid_loop_example_sedge_impl_rangeNone)] }
def FnExactRangeCmpSaid : Prop := fnExactRangeCmpRow.holds Tryd.pinned (OpenSpec.ofChange fnExactRangeCmpSpec)

/-- ITS FALSE NEIGHBOUR: 'it returns false'. Refute it at one input. -/
def fnExactRangeCmpWrong : ChangeSpec := { name := "fnExactRangeCmp", vars := ["loop.example/sedge/impl.rangeNone", "loop.example/sedge/impl.cmpTurned"], fn := fun _ => fun
  | [d1, d2, d3, g1, g2] => { results := [.lit (.bool false)], args := [d1, d2, d3], vars := [g1, g2] }
  | _ => none }
def FnExactRangeCmpWrongFalsely : Prop := fnExactRangeCmpRow.holds Tryd.pinned (OpenSpec.ofChange fnExactRangeCmpWrong)

/-- 'laws.FnRangeDo': WHATEVER THE INPUT: true; the input reads as it did. -/
def fnRangeDoSpec : ChangeSpec := { name := "fnRangeDo", vars := ["loop.example/sedge/impl.rangeNone", "loop.example/sedge/impl.rangeBelow0", "loop.example/sedge/impl.rangeAbove0", "loop.example/sedge/impl.rangeAll", "loop.example/sedge/impl.rangeShifts"], fn := fun _ => fun
  | [d, g1, g2, g3, g4, g5] => { results := [.lit (.bool true)], args := [d], vars := [g1, g2, g3, g4, g5] }
  | _ => none }
def fnRangeDoRow : OpenClaim := { program := "ytjjglklbfigmiaadoor", sum := "c9f6e35e60263d8ffa66013c28478dd08ddf38ccbaf50cbbb21dd7536c476ef0", func := "loop.example/sedge/laws.FnRangeDo", spec := "fnRangeDo", unfollowed := true, recurses := true, named := ["loop.example/sedge/impl.rangeNone", "loop.example/sedge/impl.rangeBelow0", "loop.example/sedge/impl.rangeAbove0", "loop.example/sedge/impl.rangeAll", "loop.example/sedge/impl.rangeShifts"], apart := false, laid := [("loop.example/sedge/impl.rangeNone", laid_loop_example_sedge_impl_rangeNone), ("loop.example/sedge/impl.rangeAll", laid_loop_example_sedge_impl_rangeAll), ("loop.example/sedge/impl.rangeBelow0", laid_loop_example_sedge_impl_rangeBelow0), ("loop.example/sedge/impl.rangeAbove0", laid_loop_example_sedge_impl_rangeAbove0), ("loop.example/sedge/impl.rangeShifts", laid_loop_example_sedge_impl_rangeShifts)] }
def FnRangeDoSaid : Prop := fnRangeDoRow.holds Tryd.pinned (OpenSpec.ofChange fnRangeDoSpec)

/-- ITS FALSE NEIGHBOUR: 'it returns false'. Refute it at one input. -/
def fnRangeDoWrong : ChangeSpec := { name := "fnRangeDo", vars := ["loop.example/sedge/impl.rangeNone", "loop.example/sedge/impl.rangeBelow0", "loop.example/sedge/impl.rangeAbove0", "loop.example/sedge/impl.rangeAll", "loop.example/sedge/impl.rangeShifts"], fn := fun _ => fun
  | [d, g1, g2, g3, g4, g5] => { results := [.lit (.bool false)], args := [d], vars := [g1, g2, g3, g4, g5] }
  | _ => none }
def FnRangeDoWrongFalsely : Prop := fnRangeDoRow.holds Tryd.pinned (OpenSpec.ofChange fnRangeDoWrong)

/-- 'laws.FnRangeOne': WHATEVER THE INPUT: true; the input reads as it did. -/
def fnRangeOneSpec : ChangeSpec := { name := "fnRangeOne", vars := ["loop.example/sedge/impl.rangeNone", "loop.example/sedge/impl.rangeBelow0", "loop.example/sedge/impl.rangeAbove0", "loop.example/sedge/impl.rangeAll", "loop.example/sedge/impl.rangeShifts"], fn := fun _ => fun
  | [d, g1, g2, g3, g4, g5] => { results := [.lit (.bool true)], args := [d], vars := [g1, g2, g3, g4, g5] }
  | _ => none }
def fnRangeOneRow : OpenClaim := { program := "ytjjglklbfigmiaadoor", sum := "c9f6e35e60263d8ffa66013c28478dd08ddf38ccbaf50cbbb21dd7536c476ef0", func := "loop.example/sedge/laws.FnRangeOne", spec := "fnRangeOne", unfollowed := true, recurses := true, named := ["loop.example/sedge/impl.rangeNone", "loop.example/sedge/impl.rangeBelow0", "loop.example/sedge/impl.rangeAbove0", "loop.example/sedge/impl.rangeAll", "loop.example/sedge/impl.rangeShifts"], apart := false, laid := [("loop.example/sedge/impl.rangeNone", laid_loop_example_sedge_impl_rangeNone), ("loop.example/sedge/impl.rangeAll", laid_loop_example_sedge_impl_rangeAll), ("loop.example/sedge/impl.rangeBelow0", laid_loop_example_sedge_impl_rangeBelow0), ("loop.example/sedge/impl.rangeAbove0", laid_loop_example_sedge_impl_rangeAbove0), ("loop.example/sedge/impl.rangeShifts", laid_loop_example_sedge_impl_rangeShifts)] }
def FnRangeOneSaid : Prop := fnRangeOneRow.holds Tryd.pinned (OpenSpec.ofChange fnRangeOneSpec)

/-- ITS FALSE NEIGHBOUR: 'it returns false'. Refute it at one input. -/
def fnRangeOneWrong : ChangeSpec := { name := "fnRangeOne", vars := ["loop.example/sedge/impl.rangeNone", "loop.example/sedge/impl.rangeBelow0", "loop.example/sedge/impl.rangeAbove0", "loop.example/sedge/impl.rangeAll", "loop.example/sedge/impl.rangeShifts"], fn := fun _ => fun
  | [d, g1, g2, g3, g4, g5] => { results := [.lit (.bool false)], args := [d], vars := [g1, g2, g3, g4, g5] }
  | _ => none }
def FnRangeOneWrongFalsely : Prop := fnRangeOneRow.holds Tryd.pinned (OpenSpec.ofChange fnRangeOneWrong)

/-- 'laws.FnRangeFaults': WHATEVER THE INPUT: true; the input reads as it did. -/
def fnRangeFaultsSpec : ChangeSpec := { name := "fnRangeFaults", vars := ["loop.example/sedge/impl.rangeNone", "loop.example/sedge/impl.rangeBelow0", "loop.example/sedge/impl.rangeAbove0", "loop.example/sedge/impl.rangeAll", "loop.example/sedge/impl.rangeShifts"], fn := fun _ => fun
  | [d, g1, g2, g3, g4, g5] => { results := [.lit (.bool true)], args := [d], vars := [g1, g2, g3, g4, g5] }
  | _ => none }
def fnRangeFaultsRow : OpenClaim := { program := "ytjjglklbfigmiaadoor", sum := "c9f6e35e60263d8ffa66013c28478dd08ddf38ccbaf50cbbb21dd7536c476ef0", func := "loop.example/sedge/laws.FnRangeFaults", spec := "fnRangeFaults", unfollowed := true, recurses := true, named := ["loop.example/sedge/impl.rangeNone", "loop.example/sedge/impl.rangeBelow0", "loop.example/sedge/impl.rangeAbove0", "loop.example/sedge/impl.rangeAll", "loop.example/sedge/impl.rangeShifts"], apart := false, laid := [("loop.example/sedge/impl.rangeNone", laid_loop_example_sedge_impl_rangeNone), ("loop.example/sedge/impl.rangeAll", laid_loop_example_sedge_impl_rangeAll), ("loop.example/sedge/impl.rangeBelow0", laid_loop_example_sedge_impl_rangeBelow0), ("loop.example/sedge/impl.rangeAbove0", laid_loop_example_sedge_impl_rangeAbove0), ("loop.example/sedge/impl.rangeShifts", laid_loop_example_sedge_impl_rangeShifts)] }
def FnRangeFaultsSaid : Prop := fnRangeFaultsRow.holds Tryd.pinned (OpenSpec.ofChange fnRangeFaultsSpec)

/-- ITS FALSE NEIGHBOUR: 'it returns false'. Refute it at one input. -/
def fnRangeFaultsWrong : ChangeSpec := { name := "fnRangeFaults", vars := ["loop.example/sedge/impl.rangeNone", "loop.example/sedge/impl.rangeBelow0", "loop.example/sedge/impl.rangeAbove0", "loop.example/sedge/impl.rangeAll", "loop.example/sedge/impl.rangeShifts"], fn := fun _ => fun
  | [d, g1, g2, g3, g4, g5] => { results := [.lit (.bool false)], args := [d], vars := [g1, g2, g3, g4, g5] }
  | _ => none }
def FnRangeFaultsWrongFalsely : Prop := fnRangeFaultsRow.holds Tryd.pinned (OpenSpec.ofChange fnRangeFaultsWrong)

/-- 'laws.FnRangeLattice': WHATEVER THE INPUT: true; the input reads as it did. -/
def fnRangeLatticeSpec : ChangeSpec := { name := "fnRangeLattice", vars := ["loop.example/sedge/impl.rangeNone"], fn := fun _ => fun
  | [d, g1] => { results := [.lit (.bool true)], args := [d], vars := [g1] }
  | _ => none }
def fnRangeLatticeRow : OpenClaim := { program := "ytjjglklbfigmiaadoor", sum := "c9f6e35e60263d8ffa66013c28478dd08ddf38ccbaf50cbbb21dd7536c476ef0", func := "loop.example/sedge/laws.FnRangeLattice", spec := "fnRangeLattice", unfollowed := true, recurses := true, named := ["loop.example/sedge/impl.rangeNone"], apart := false, laid := [("loop.example/sedge/impl.rangeNone", laid_loop_example_sedge_impl_rangeNone)] }
def FnRangeLatticeSaid : Prop := fnRangeLatticeRow.holds Tryd.pinned (OpenSpec.ofChange fnRangeLatticeSpec)

/-- ITS FALSE NEIGHBOUR: 'it returns false'. Refute it at one input. -/
def fnRangeLatticeWrong : ChangeSpec := { name := "fnRangeLattice", vars := ["loop.example/sedge/impl.rangeNone"], fn := fun _ => fun
  | [d, g1] => { results := [.lit (.bool false)], args := [d], vars := [g1] }
  | _ => none }
def FnRangeLatticeWrongFalsely : Prop := fnRangeLatticeRow.holds Tryd.pinned (OpenSpec.ofChange fnRangeLatticeWrong)

/-- 'laws.FnRangeCmp': WHATEVER THE INPUT: true; the input reads as it did. -/
def fnRangeCmpSpec : ChangeSpec := { name := "fnRangeCmp", vars := ["loop.example/sedge/impl.rangeNone", "loop.example/sedge/impl.cmpTurned"], fn := fun _ => fun
  | [d, g1, g2] => { results := [.lit (.bool true)], args := [d], vars := [g1, g2] }
  | _ => none }
def fnRangeCmpRow : OpenClaim := { program := "ytjjglklbfigmiaadoor", sum := "c9f6e35e60263d8ffa66013c28478dd08ddf38ccbaf50cbbb21dd7536c476ef0", func := "loop.example/sedge/laws.FnRangeCmp", spec := "fnRangeCmp", unfollowed := true, recurses := true, named := ["loop.example/sedge/impl.rangeNone", "loop.example/sedge/impl.cmpTurned"], apart := false, laid := [("loop.example/sedge/impl.cmpTurned", laid_loop_example_sedge_impl_cmpTurned), ("loop.example/sedge/impl.rangeNone", laid_loop_example_sedge_impl_rangeNone)] }
def FnRangeCmpSaid : Prop := fnRangeCmpRow.holds Tryd.pinned (OpenSpec.ofChange fnRangeCmpSpec)

/-- ITS FALSE NEIGHBOUR: 'it returns false'. Refute it at one input. -/
def fnRangeCmpWrong : ChangeSpec := { name := "fnRangeCmp", vars := ["loop.example/sedge/impl.rangeNone", "loop.example/sedge/impl.cmpTurned"], fn := fun _ => fun
  | [d, g1, g2] => { results := [.lit (.bool false)], args := [d], vars := [g1, g2] }
  | _ => none }
def FnRangeCmpWrongFalsely : Prop := fnRangeCmpRow.holds Tryd.pinned (OpenSpec.ofChange fnRangeCmpWrong)

/-- 'laws.FnRangeMore': WHATEVER THE INPUT: true; the input reads as it did. -/
def fnRangeMoreSpec : ChangeSpec := { name := "fnRangeMore", vars := ["loop.example/sedge/impl.rangeNone", "loop.example/sedge/impl.rangeBelow0", "loop.example/sedge/impl.rangeAbove0", "loop.example/sedge/impl.rangeAll", "loop.example/sedge/impl.rangeShifts"], fn := fun _ => fun
  | [d, g1, g2, g3, g4, g5] => { results := [.lit (.bool true)], args := [d], vars := [g1, g2, g3, g4, g5] }
  | _ => none }
def fnRangeMoreRow : OpenClaim := { program := "ytjjglklbfigmiaadoor", sum := "c9f6e35e60263d8ffa66013c28478dd08ddf38ccbaf50cbbb21dd7536c476ef0", func := "loop.example/sedge/laws.FnRangeMore", spec := "fnRangeMore", unfollowed := true, recurses := true, named := ["loop.example/sedge/impl.rangeNone", "loop.example/sedge/impl.rangeBelow0", "loop.example/sedge/impl.rangeAbove0", "loop.example/sedge/impl.rangeAll", "loop.example/sedge/impl.rangeShifts"], apart := false, laid := [("loop.example/sedge/impl.rangeNone", laid_loop_example_sedge_impl_rangeNone), ("loop.example/sedge/impl.rangeAll", laid_loop_example_sedge_impl_rangeAll), ("loop.example/sedge/impl.rangeBelow0", laid_loop_example_sedge_impl_rangeBelow0), ("loop.example/sedge/impl.rangeAbove0", laid_loop_example_sedge_impl_rangeAbove0), ("loop.example/sedge/impl.rangeShifts", laid_loop_example_sedge_impl_rangeShifts)] }
def FnRangeMoreSaid : Prop := fnRangeMoreRow.holds Tryd.pinned (OpenSpec.ofChange fnRangeMoreSpec)

/-- ITS FALSE NEIGHBOUR: 'it returns false'. Refute it at one input. -/
def fnRangeMoreWrong : ChangeSpec := { name := "fnRangeMore", vars := ["loop.example/sedge/impl.rangeNone", "loop.example/sedge/impl.rangeBelow0", "loop.example/sedge/impl.rangeAbove0", "loop.example/sedge/impl.rangeAll", "loop.example/sedge/impl.rangeShifts"], fn := fun _ => fun
  | [d, g1, g2, g3, g4, g5] => { results := [.lit (.bool false)], args := [d], vars := [g1, g2, g3, g4, g5] }
  | _ => none }
def FnRangeMoreWrongFalsely : Prop := fnRangeMoreRow.holds Tryd.pinned (OpenSpec.ofChange fnRangeMoreWrong)

/-- 'laws.FnRangeStill': WHATEVER THE INPUT: true; the input reads as it did. -/
def fnRangeStillSpec : ChangeSpec := { name := "fnRangeStill", vars := ["loop.example/sedge/impl.rangeNone"], fn := fun _ => fun
  | [d, g1] => { results := [.lit (.bool true)], args := [d], vars := [g1] }
  | _ => none }
def fnRangeStillRow : OpenClaim := { program := "ytjjglklbfigmiaadoor", sum := "c9f6e35e60263d8ffa66013c28478dd08ddf38ccbaf50cbbb21dd7536c476ef0", func := "loop.example/sedge/laws.FnRangeStill", spec := "fnRangeStill", unfollowed := true, recurses := true, named := ["loop.example/sedge/impl.rangeNone"], apart := false, laid := [("loop.example/sedge/impl.rangeNone", laid_loop_example_sedge_impl_rangeNone)] }
def FnRangeStillSaid : Prop := fnRangeStillRow.holds Tryd.pinned (OpenSpec.ofChange fnRangeStillSpec)

/-- ITS FALSE NEIGHBOUR: 'it returns false'. Refute it at one input. -/
def fnRangeStillWrong : ChangeSpec := { name := "fnRangeStill", vars := ["loop.example/sedge/impl.rangeNone"], fn := fun _ => fun
  | [d, g1] => { results := [.lit (.bool false)], args := [d], vars := [g1] }
  | _ => none }
def FnRangeStillWrongFalsely : Prop := fnRangeStillRow.holds Tryd.pinned (OpenSpec.ofChange fnRangeStillWrong)

/- THE SECOND FORM. 'bulk': how many values and letters a reading holds, each counted each time it is reached (what is shared counts as often as it is met; a slice's spare places count too). A statement '..UptoSaid' is the law's where the arguments, and the package variables that the reading takes, are together of bulk at most 1048576: NARROWER than '..Said'. Prove '..Said' where nothing that the law and all that it calls make is longer than what came in: it says more and counts as full. Else prove '..UptoSaid'. A law counts once. -/
mutual
def uptoBulk {H : Type} : DataW H → Nat
  | .lit (.string bytes) => bytes.length + 1
  | .lit _ => 1
  | .nil => 1
  | .ptr d => uptoBulk d + 1
  | .slice elems spare => uptoBulkAll elems + uptoBulkAll spare + 1
  | .agg parts => uptoBulkAll parts + 1
  | .iface _ d => uptoBulk d + 1
  | .map entries => uptoBulkEntries entries + 1
  | .held _ => 1
def uptoBulkAll {H : Type} : List (DataW H) → Nat
  | [] => 0
  | d :: r => uptoBulk d + uptoBulkAll r
def uptoBulkEntries {H : Type} : List (Lit × DataW H) → Nat
  | [] => 0
  | x :: r => uptoBulkEntry x + uptoBulkEntries r
def uptoBulkEntry {H : Type} : Lit × DataW H → Nat
  | (.string bytes, d) => bytes.length + uptoBulk d + 1
  | (_, d) => uptoBulk d + 1
 end
def uptoSmall : (H : Type) → List (DataW H) → Bool := fun _ ds => decide (uptoBulkAll ds ≤ 1048576)
def OpenSpec.upto (s : _root_.Go.ChangeSpec) : _root_.Go.OpenSpec := { _root_.Go.OpenSpec.ofChange s with cond := some uptoSmall }

/-- 'laws.FnExactRangeOk', WHERE WHAT IT READS IS OF BULK AT MOST 1048576: true; the input reads as it did. -/
def fnExactRangeOkUptoRow : OpenClaim := { program := "ytjjglklbfigmiaadoor", sum := "c9f6e35e60263d8ffa66013c28478dd08ddf38ccbaf50cbbb21dd7536c476ef0", func := "loop.example/sedge/laws.FnExactRangeOk", spec := "fnExactRangeOk", unfollowed := true, recurses := true, named := ["loop.example/sedge/impl.rangeNone"], apart := false, laid := [("loop.example/sedge/impl.rangeNone", laid_loop_example_sedge_impl_rangeNone)], narrowed := true }
def FnExactRangeOkUptoSaid : Prop := fnExactRangeOkUptoRow.holds Tryd.pinned (OpenSpec.upto fnExactRangeOkSpec)

/-- 'laws.FnExactRangeHas', WHERE WHAT IT READS IS OF BULK AT MOST 1048576: true; the input reads as it did. -/
def fnExactRangeHasUptoRow : OpenClaim := { program := "ytjjglklbfigmiaadoor", sum := "c9f6e35e60263d8ffa66013c28478dd08ddf38ccbaf50cbbb21dd7536c476ef0", func := "loop.example/sedge/laws.FnExactRangeHas", spec := "fnExactRangeHas", unfollowed := true, recurses := true, named := ["loop.example/sedge/impl.rangeNone"], apart := false, laid := [("loop.example/sedge/impl.rangeNone", laid_loop_example_sedge_impl_rangeNone)], narrowed := true }
def FnExactRangeHasUptoSaid : Prop := fnExactRangeHasUptoRow.holds Tryd.pinned (OpenSpec.upto fnExactRangeHasSpec)

/-- 'laws.FnExactRangeIn', WHERE WHAT IT READS IS OF BULK AT MOST 1048576: true; the input reads as it did. -/
def fnExactRangeInUptoRow : OpenClaim := { program := "ytjjglklbfigmiaadoor", sum := "c9f6e35e60263d8ffa66013c28478dd08ddf38ccbaf50cbbb21dd7536c476ef0", func := "loop.example/sedge/laws.FnExactRangeIn", spec := "fnExactRangeIn", unfollowed := true, recurses := true, named := ["loop.example/sedge/impl.rangeNone"], apart := false, laid := [("loop.example/sedge/impl.rangeNone", laid_loop_example_sedge_impl_rangeNone)], narrowed := true }
def FnExactRangeInUptoSaid : Prop := fnExactRangeInUptoRow.holds Tryd.pinned (OpenSpec.upto fnExactRangeInSpec)

/-- 'laws.FnExactRangeJoin', WHERE WHAT IT READS IS OF BULK AT MOST 1048576: true; the input reads as it did. -/
def fnExactRangeJoinUptoRow : OpenClaim := { program := "ytjjglklbfigmiaadoor", sum := "c9f6e35e60263d8ffa66013c28478dd08ddf38ccbaf50cbbb21dd7536c476ef0", func := "loop.example/sedge/laws.FnExactRangeJoin", spec := "fnExactRangeJoin", unfollowed := true, recurses := true, named := ["loop.example/sedge/impl.rangeNone"], apart := false, laid := [("loop.example/sedge/impl.rangeNone", laid_loop_example_sedge_impl_rangeNone)], narrowed := true }
def FnExactRangeJoinUptoSaid : Prop := fnExactRangeJoinUptoRow.holds Tryd.pinned (OpenSpec.upto fnExactRangeJoinSpec)

/-- 'laws.FnExactRangeMeet', WHERE WHAT IT READS IS OF BULK AT MOST 1048576: true; the input reads as it did. -/
def fnExactRangeMeetUptoRow : OpenClaim := { program := "ytjjglklbfigmiaadoor", sum := "c9f6e35e60263d8ffa66013c28478dd08ddf38ccbaf50cbbb21dd7536c476ef0", func := "loop.example/sedge/laws.FnExactRangeMeet", spec := "fnExactRangeMeet", unfollowed := true, recurses := true, named := ["loop.example/sedge/impl.rangeNone"], apart := false, laid := [("loop.example/sedge/impl.rangeNone", laid_loop_example_sedge_impl_rangeNone)], narrowed := true }
def FnExactRangeMeetUptoSaid : Prop := fnExactRangeMeetUptoRow.holds Tryd.pinned (OpenSpec.upto fnExactRangeMeetSpec)

/-- 'laws.FnExactRangeWiden', WHERE WHAT IT READS IS OF BULK AT MOST 1048576: true; the input reads as it did. -/
def fnExactRangeWidenUptoRow : OpenClaim := { program := "ytjjglklbfigmiaadoor", sum := "c9f6e35e60263d8ffa66013c28478dd08ddf38ccbaf50cbbb21dd7536c476ef0", func := "loop.example/sedge/laws.FnExactRangeWiden", spec := "fnExactRangeWiden", unfollowed := true, recurses := true, named := ["loop.example/sedge/impl.rangeNone"], apart := false, laid := [("loop.example/sedge/impl.rangeNone", laid_loop_example_sedge_impl_rangeNone)], narrowed := true }
def FnExactRangeWidenUptoSaid : Prop := fnExactRangeWidenUptoRow.holds Tryd.pinned (OpenSpec.upto fnExactRangeWidenSpec)

/-- 'laws.FnExactRangeDo', WHERE WHAT IT READS IS OF BULK AT MOST 1048576: true; the input reads as it did. -/
def fnExactRangeDoUptoRow : OpenClaim := { program := "ytjjglklbfigmiaadoor", sum := "c9f6e35e60263d8ffa66013c28478dd08ddf38ccbaf50cbbb21dd7536c476ef0", func := "loop.example/sedge/laws.FnExactRangeDo", spec := "fnExactRangeDo", unfollowed := true, recurses := true, named := ["loop.example/sedge/impl.rangeNone", "loop.example/sedge/impl.rangeBelow0", "loop.example/sedge/impl.rangeAbove0", "loop.example/sedge/impl.rangeAll", "loop.example/sedge/impl.rangeShifts"], apart := false, laid := [("loop.example/sedge/impl.rangeNone", laid_loop_example_sedge_impl_rangeNone), ("loop.example/sedge/impl.rangeAll", laid_loop_example_sedge_impl_rangeAll), ("loop.example/sedge/impl.rangeBelow0", laid_loop_example_sedge_impl_rangeBelow0), ("loop.example/sedge/impl.rangeAbove0", laid_loop_example_sedge_impl_rangeAbove0), ("loop.example/sedge/impl.rangeShifts", laid_loop_example_sedge_impl_rangeShifts)], narrowed := true }
def FnExactRangeDoUptoSaid : Prop := fnExactRangeDoUptoRow.holds Tryd.pinned (OpenSpec.upto fnExactRangeDoSpec)

/-- 'laws.FnExactRangeCmp', WHERE WHAT IT READS IS OF BULK AT MOST 1048576: true; the input reads as it did. -/
def fnExactRangeCmpUptoRow : OpenClaim := { program := "ytjjglklbfigmiaadoor", sum := "c9f6e35e60263d8ffa66013c28478dd08ddf38ccbaf50cbbb21dd7536c476ef0", func := "loop.example/sedge/laws.FnExactRangeCmp", spec := "fnExactRangeCmp", unfollowed := true, recurses := true, named := ["loop.example/sedge/impl.rangeNone", "loop.example/sedge/impl.cmpTurned"], apart := false, laid := [("loop.example/sedge/impl.cmpTurned", laid_loop_example_sedge_impl_cmpTurned), ("loop.example/sedge/impl.rangeNone", laid_loop_example_sedge_impl_rangeNone)], narrowed := true }
def FnExactRangeCmpUptoSaid : Prop := fnExactRangeCmpUptoRow.holds Tryd.pinned (OpenSpec.upto fnExactRangeCmpSpec)

/-- 'laws.FnRangeDo', WHERE WHAT IT READS IS OF BULK AT MOST 1048576: true; the input reads as it did. -/
def fnRangeDoUptoRow : OpenClaim := { program := "ytjjglklbfigmiaadoor", sum := "c9f6e35e60263d8ffa66013c28478dd08ddf38ccbaf50cbbb21dd7536c476ef0", func := "loop.example/sedge/laws.FnRangeDo", spec := "fnRangeDo", unfollowed := true, recurses := true, named := ["loop.example/sedge/impl.rangeNone", "loop.example/sedge/impl.rangeBelow0", "loop.example/sedge/impl.rangeAbove0", "loop.example/sedge/impl.rangeAll", "loop.example/sedge/impl.rangeShifts"], apart := false, laid := [("loop.example/sedge/impl.rangeNone", laid_loop_example_sedge_impl_rangeNone), ("loop.example/sedge/impl.rangeAll", laid_loop_example_sedge_impl_rangeAll), ("loop.example/sedge/impl.rangeBelow0", laid_loop_example_sedge_impl_rangeBelow0), ("loop.example/sedge/impl.rangeAbove0", laid_loop_example_sedge_impl_rangeAbove0), ("loop.example/sedge/impl.rangeShifts", laid_loop_example_sedge_impl_rangeShifts)], narrowed := true }
def FnRangeDoUptoSaid : Prop := fnRangeDoUptoRow.holds Tryd.pinned (OpenSpec.upto fnRangeDoSpec)

/-- 'laws.FnRangeOne', WHERE WHAT IT READS IS OF BULK AT MOST 1048576: true; the input reads as it did. -/
def fnRangeOneUptoRow : OpenClaim := { program := "ytjjglklbfigmiaadoor", sum := "c9f6e35e60263d8ffa66013c28478dd08ddf38ccbaf50cbbb21dd7536c476ef0", func := "loop.example/sedge/laws.FnRangeOne", spec := "fnRangeOne", unfollowed := true, recurses := true, named := ["loop.example/sedge/impl.rangeNone", "loop.example/sedge/impl.rangeBelow0", "loop.example/sedge/impl.rangeAbove0", "loop.example/sedge/impl.rangeAll", "loop.example/sedge/impl.rangeShifts"], apart := false, laid := [("loop.example/sedge/impl.rangeNone", laid_loop_example_sedge_impl_rangeNone), ("loop.example/sedge/impl.rangeAll", laid_loop_example_sedge_impl_rangeAll), ("loop.example/sedge/impl.rangeBelow0", laid_loop_example_sedge_impl_rangeBelow0), ("loop.example/sedge/impl.rangeAbove0", laid_loop_example_sedge_impl_rangeAbove0), ("loop.example/sedge/impl.rangeShifts", laid_loop_example_sedge_impl_rangeShifts)], narrowed := true }
def FnRangeOneUptoSaid : Prop := fnRangeOneUptoRow.holds Tryd.pinned (OpenSpec.upto fnRangeOneSpec)

/-- 'laws.FnRangeFaults', WHERE WHAT IT READS IS OF BULK AT MOST 1048576: true; the input reads as it did. -/
def fnRangeFaultsUptoRow : OpenClaim := { program := "ytjjglklbfigmiaadoor", sum := "c9f6e35e60263d8ffa66013c28478dd08ddf38ccbaf50cbbb21dd7536c476ef0", func := "loop.example/sedge/laws.FnRangeFaults", spec := "fnRangeFaults", unfollowed := true, recurses := true, named := ["loop.example/sedge/impl.rangeNone", "loop.example/sedge/impl.rangeBelow0", "loop.example/sedge/impl.rangeAbove0", "loop.example/sedge/impl.rangeAll", "loop.example/sedge/impl.rangeShifts"], apart := false, laid := [("loop.example/sedge/impl.rangeNone", laid_loop_example_sedge_impl_rangeNone), ("loop.example/sedge/impl.rangeAll", laid_loop_example_sedge_impl_rangeAll), ("loop.example/sedge/impl.rangeBelow0", laid_loop_example_sedge_impl_rangeBelow0), ("loop.example/sedge/impl.rangeAbove0", laid_loop_example_sedge_impl_rangeAbove0), ("loop.example/sedge/impl.rangeShifts", laid_loop_example_sedge_impl_rangeShifts)], narrowed := true }
def FnRangeFaultsUptoSaid : Prop := fnRangeFaultsUptoRow.holds Tryd.pinned (OpenSpec.upto fnRangeFaultsSpec)

/-- 'laws.FnRangeLattice', WHERE WHAT IT READS IS OF BULK AT MOST 1048576: true; the input reads as it did. -/
def fnRangeLatticeUptoRow : OpenClaim := { program := "ytjjglklbfigmiaadoor", sum := "c9f6e35e60263d8ffa66013c28478dd08ddf38ccbaf50cbbb21dd7536c476ef0", func := "loop.example/sedge/laws.FnRangeLattice", spec := "fnRangeLattice", unfollowed := true, recurses := true, named := ["loop.example/sedge/impl.rangeNone"], apart := false, laid := [("loop.example/sedge/impl.rangeNone", laid_loop_example_sedge_impl_rangeNone)], narrowed := true }
def FnRangeLatticeUptoSaid : Prop := fnRangeLatticeUptoRow.holds Tryd.pinned (OpenSpec.upto fnRangeLatticeSpec)

/-- 'laws.FnRangeCmp', WHERE WHAT IT READS IS OF BULK AT MOST 1048576: true; the input reads as it did. -/
def fnRangeCmpUptoRow : OpenClaim := { program := "ytjjglklbfigmiaadoor", sum := "c9f6e35e60263d8ffa66013c28478dd08ddf38ccbaf50cbbb21dd7536c476ef0", func := "loop.example/sedge/laws.FnRangeCmp", spec := "fnRangeCmp", unfollowed := true, recurses := true, named := ["loop.example/sedge/impl.rangeNone", "loop.example/sedge/impl.cmpTurned"], apart := false, laid := [("loop.example/sedge/impl.cmpTurned", laid_loop_example_sedge_impl_cmpTurned), ("loop.example/sedge/impl.rangeNone", laid_loop_example_sedge_impl_rangeNone)], narrowed := true }
def FnRangeCmpUptoSaid : Prop := fnRangeCmpUptoRow.holds Tryd.pinned (OpenSpec.upto fnRangeCmpSpec)

/-- 'laws.FnRangeMore', WHERE WHAT IT READS IS OF BULK AT MOST 1048576: true; the input reads as it did. -/
def fnRangeMoreUptoRow : OpenClaim := { program := "ytjjglklbfigmiaadoor", sum := "c9f6e35e60263d8ffa66013c28478dd08ddf38ccbaf50cbbb21dd7536c476ef0", func := "loop.example/sedge/laws.FnRangeMore", spec := "fnRangeMore", unfollowed := true, recurses := true, named := ["loop.example/sedge/impl.rangeNone", "loop.example/sedge/impl.rangeBelow0", "loop.example/sedge/impl.rangeAbove0", "loop.example/sedge/impl.rangeAll", "loop.example/sedge/impl.rangeShifts"], apart := false, laid := [("loop.example/sedge/impl.rangeNone", laid_loop_example_sedge_impl_rangeNone), ("loop.example/sedge/impl.rangeAll", laid_loop_example_sedge_impl_rangeAll), ("loop.example/sedge/impl.rangeBelow0", laid_loop_example_sedge_impl_rangeBelow0), ("loop.example/sedge/impl.rangeAbove0", laid_loop_example_sedge_impl_rangeAbove0), ("loop.example/sedge/impl.rangeShifts", laid_loop_example_sedge_impl_rangeShifts)], narrowed := true }
def FnRangeMoreUptoSaid : Prop := fnRangeMoreUptoRow.holds Tryd.pinned (OpenSpec.upto fnRangeMoreSpec)

/-- 'laws.FnRangeStill', WHERE WHAT IT READS IS OF BULK AT MOST 1048576: true; the input reads as it did. -/
def fnRangeStillUptoRow : OpenClaim := { program := "ytjjglklbfigmiaadoor", sum := "c9f6e35e60263d8ffa66013c28478dd08ddf38ccbaf50cbbb21dd7536c476ef0", func := "loop.example/sedge/laws.FnRangeStill", spec := "fnRangeStill", unfollowed := true, recurses := true, named := ["loop.example/sedge/impl.rangeNone"], apart := false, laid := [("loop.example/sedge/impl.rangeNone", laid_loop_example_sedge_impl_rangeNone)], narrowed := true }
def FnRangeStillUptoSaid : Prop := fnRangeStillUptoRow.holds Tryd.pinned (OpenSpec.upto fnRangeStillSpec)

end Rows
end Go.Proofs.YtjjglklbfigmiaaDoor
