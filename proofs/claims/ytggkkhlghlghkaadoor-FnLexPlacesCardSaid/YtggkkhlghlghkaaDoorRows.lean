/-
  NARROWER THAN 'FOR EVERY INPUT', by the rows' own cells (each row's printed sentence says how): FnLexBack: laid · FnLexPlaces: laid · FnLexBlanks: laid · FnExactSignAt: laid · FnExactLexTokens: laid · FnExactLexJoin: laid.
  DERIVED. THE GIVEN ROWS OF THIS SEAT. 6 by the template 'for every input the law returns true; each argument reads behind the call as it read before'; 0 by the template 'total and deterministic' (their statements: YtggkkhlghlghkaaDoorTotals.lean).
  GIVEN WITH THE SEED: the statements are not yours to turn. If you find one false, say at which input.
  Laid BY PROGRAM, IN A SANDBOX (cutbox-rows.mjs): the forced cells as the released guide's own fill.sh prints them over the translation 5deb6c56229bfeca… (all of the seat's roots in one cut). By AI agents, Wed Nov 11 2026. No macro, syntax, notation, axiom, sorry.
-/
import Derived.Test.YtggkkhlghlghkaaDoorChecked
import GoSem.Claim
import GoSem.ClaimJoined
import GoSem.ClaimMapViews
import Derived.JoinedTies
import Derived.KernelRfl
namespace Go.Proofs.YtggkkhlghlghkaaDoor
/- THE CELL 'sum', in the pinned program and in every row, IS THE sha256 OF THE DUMP (.gsa) THAT YtggkkhlghlghkaaDoorProg.lean LOADS. Nothing in Lean hashes anything: it is a label: what it is worth is what the hold of that sum in a sandbox is worth. -/
noncomputable def Tryd.pinned : Pinned := { name := "ytggkkhlghlghkaadoor", sum := "5deb6c56229bfeca73df01c5437f0793484092a7e066bc4a59b7ae82f986c68e", checked := Tryd.checked }
namespace Rows
def none {H : Type} : Left H := { results := [], args := [] }

/- WHAT THE LISTED PACKAGE-LEVEL VARIABLES READ AS WHEN THE CALL BEGINS. Each datum BY PROGRAM (the guide's laid-datum.mjs) off the statement by which the dump's own 'gosem.cut.vars' lays the variable. In a bare row this is a premise. The card (YtggkkhlghlghkaaDoorCards.lean) ties it to the program's text. -/
def laid_loop_example_sedge_impl_lexSigns {H : Type} : DataW H := .agg [.lit (.string [43, 37]), .lit (.string [45, 37]), .lit (.string [42, 37]), .lit (.string [60, 60]), .lit (.string [62, 62]), .lit (.string [61, 61]), .lit (.string [33, 61]), .lit (.string [60, 61]), .lit (.string [62, 61]), .lit (.string [46, 46]), .lit (.string [43, 61]), .lit (.string [43]), .lit (.string [45]), .lit (.string [42]), .lit (.string [47]), .lit (.string [37]), .lit (.string [38]), .lit (.string [124]), .lit (.string [94]), .lit (.string [60]), .lit (.string [62]), .lit (.string [61]), .lit (.string [40]), .lit (.string [41]), .lit (.string [123]), .lit (.string [125]), .lit (.string [91]), .lit (.string [93]), .lit (.string [44]), .lit (.string [59])]

/-- 'laws.FnLexBack': WHATEVER THE INPUT: true; the input reads as it did. -/
def fnLexBackSpec : ChangeSpec := { name := "fnLexBack", vars := ["loop.example/sedge/impl.lexSigns"], fn := fun _ => fun
  | [d, g1] => { results := [.lit (.bool true)], args := [d], vars := [g1] }
  | _ => none }
def fnLexBackRow : OpenClaim := { program := "ytggkkhlghlghkaadoor", sum := "5deb6c56229bfeca73df01c5437f0793484092a7e066bc4a59b7ae82f986c68e", func := "loop.example/sedge/laws.FnLexBack", spec := "fnLexBack", inPlace := ["internal/abi.NoEscape"], unfollowed := true, recurses := true, named := ["loop.example/sedge/impl.lexSigns"], apart := false, laid := [("loop.example/sedge/impl.lexSigns", laid_loop_example_sedge_impl_lexSigns)] }
def FnLexBackSaid : Prop := fnLexBackRow.holds Tryd.pinned (OpenSpec.ofChange fnLexBackSpec)

/-- ITS FALSE NEIGHBOUR: 'it returns false'. Refute it at one input. -/
def fnLexBackWrong : ChangeSpec := { name := "fnLexBack", vars := ["loop.example/sedge/impl.lexSigns"], fn := fun _ => fun
  | [d, g1] => { results := [.lit (.bool false)], args := [d], vars := [g1] }
  | _ => none }
def FnLexBackWrongFalsely : Prop := fnLexBackRow.holds Tryd.pinned (OpenSpec.ofChange fnLexBackWrong)

/-- 'laws.FnLexPlaces': WHATEVER THE INPUT: true; the input reads as it did. -/
def fnLexPlacesSpec : ChangeSpec := { name := "fnLexPlaces", vars := ["loop.example/sedge/impl.lexSigns"], fn := fun _ => fun
  | [d, g1] => { results := [.lit (.bool true)], args := [d], vars := [g1] }
  | _ => none }
def fnLexPlacesRow : OpenClaim := { program := "ytggkkhlghlghkaadoor", sum := "5deb6c56229bfeca73df01c5437f0793484092a7e066bc4a59b7ae82f986c68e", func := "loop.example/sedge/laws.FnLexPlaces", spec := "fnLexPlaces", named := ["loop.example/sedge/impl.lexSigns"], apart := false, laid := [("loop.example/sedge/impl.lexSigns", laid_loop_example_sedge_impl_lexSigns)] }
def FnLexPlacesSaid : Prop := fnLexPlacesRow.holds Tryd.pinned (OpenSpec.ofChange fnLexPlacesSpec)

/-- ITS FALSE NEIGHBOUR: 'it returns false'. Refute it at one input. -/
def fnLexPlacesWrong : ChangeSpec := { name := "fnLexPlaces", vars := ["loop.example/sedge/impl.lexSigns"], fn := fun _ => fun
  | [d, g1] => { results := [.lit (.bool false)], args := [d], vars := [g1] }
  | _ => none }
def FnLexPlacesWrongFalsely : Prop := fnLexPlacesRow.holds Tryd.pinned (OpenSpec.ofChange fnLexPlacesWrong)

/-- 'laws.FnLexBlanks': WHATEVER THE INPUT: true; the input reads as it did. -/
def fnLexBlanksSpec : ChangeSpec := { name := "fnLexBlanks", vars := ["loop.example/sedge/impl.lexSigns"], fn := fun _ => fun
  | [d, g1] => { results := [.lit (.bool true)], args := [d], vars := [g1] }
  | _ => none }
def fnLexBlanksRow : OpenClaim := { program := "ytggkkhlghlghkaadoor", sum := "5deb6c56229bfeca73df01c5437f0793484092a7e066bc4a59b7ae82f986c68e", func := "loop.example/sedge/laws.FnLexBlanks", spec := "fnLexBlanks", named := ["loop.example/sedge/impl.lexSigns"], apart := false, laid := [("loop.example/sedge/impl.lexSigns", laid_loop_example_sedge_impl_lexSigns)] }
def FnLexBlanksSaid : Prop := fnLexBlanksRow.holds Tryd.pinned (OpenSpec.ofChange fnLexBlanksSpec)

/-- ITS FALSE NEIGHBOUR: 'it returns false'. Refute it at one input. -/
def fnLexBlanksWrong : ChangeSpec := { name := "fnLexBlanks", vars := ["loop.example/sedge/impl.lexSigns"], fn := fun _ => fun
  | [d, g1] => { results := [.lit (.bool false)], args := [d], vars := [g1] }
  | _ => none }
def FnLexBlanksWrongFalsely : Prop := fnLexBlanksRow.holds Tryd.pinned (OpenSpec.ofChange fnLexBlanksWrong)

/-- 'laws.FnExactSignAt': WHATEVER THE INPUT: true; the input reads as it did. -/
def fnExactSignAtSpec : ChangeSpec := { name := "fnExactSignAt", vars := ["loop.example/sedge/impl.lexSigns"], fn := fun _ => fun
  | [d1, d2, g1] => { results := [.lit (.bool true)], args := [d1, d2], vars := [g1] }
  | _ => none }
def fnExactSignAtRow : OpenClaim := { program := "ytggkkhlghlghkaadoor", sum := "5deb6c56229bfeca73df01c5437f0793484092a7e066bc4a59b7ae82f986c68e", func := "loop.example/sedge/laws.FnExactSignAt", spec := "fnExactSignAt", named := ["loop.example/sedge/impl.lexSigns"], apart := false, laid := [("loop.example/sedge/impl.lexSigns", laid_loop_example_sedge_impl_lexSigns)] }
def FnExactSignAtSaid : Prop := fnExactSignAtRow.holds Tryd.pinned (OpenSpec.ofChange fnExactSignAtSpec)

/-- ITS FALSE NEIGHBOUR: 'it returns false'. Refute it at one input. -/
def fnExactSignAtWrong : ChangeSpec := { name := "fnExactSignAt", vars := ["loop.example/sedge/impl.lexSigns"], fn := fun _ => fun
  | [d1, d2, g1] => { results := [.lit (.bool false)], args := [d1, d2], vars := [g1] }
  | _ => none }
def FnExactSignAtWrongFalsely : Prop := fnExactSignAtRow.holds Tryd.pinned (OpenSpec.ofChange fnExactSignAtWrong)

/-- 'laws.FnExactLexTokens': WHATEVER THE INPUT: true; the input reads as it did. -/
def fnExactLexTokensSpec : ChangeSpec := { name := "fnExactLexTokens", vars := ["loop.example/sedge/impl.lexSigns"], fn := fun _ => fun
  | [d, g1] => { results := [.lit (.bool true)], args := [d], vars := [g1] }
  | _ => none }
def fnExactLexTokensRow : OpenClaim := { program := "ytggkkhlghlghkaadoor", sum := "5deb6c56229bfeca73df01c5437f0793484092a7e066bc4a59b7ae82f986c68e", func := "loop.example/sedge/laws.FnExactLexTokens", spec := "fnExactLexTokens", named := ["loop.example/sedge/impl.lexSigns"], apart := false, laid := [("loop.example/sedge/impl.lexSigns", laid_loop_example_sedge_impl_lexSigns)] }
def FnExactLexTokensSaid : Prop := fnExactLexTokensRow.holds Tryd.pinned (OpenSpec.ofChange fnExactLexTokensSpec)

/-- ITS FALSE NEIGHBOUR: 'it returns false'. Refute it at one input. -/
def fnExactLexTokensWrong : ChangeSpec := { name := "fnExactLexTokens", vars := ["loop.example/sedge/impl.lexSigns"], fn := fun _ => fun
  | [d, g1] => { results := [.lit (.bool false)], args := [d], vars := [g1] }
  | _ => none }
def FnExactLexTokensWrongFalsely : Prop := fnExactLexTokensRow.holds Tryd.pinned (OpenSpec.ofChange fnExactLexTokensWrong)

/-- 'laws.FnExactLexJoin': WHATEVER THE INPUT: true; the input reads as it did. -/
def fnExactLexJoinSpec : ChangeSpec := { name := "fnExactLexJoin", vars := ["loop.example/sedge/impl.lexSigns"], fn := fun _ => fun
  | [d, g1] => { results := [.lit (.bool true)], args := [d], vars := [g1] }
  | _ => none }
def fnExactLexJoinRow : OpenClaim := { program := "ytggkkhlghlghkaadoor", sum := "5deb6c56229bfeca73df01c5437f0793484092a7e066bc4a59b7ae82f986c68e", func := "loop.example/sedge/laws.FnExactLexJoin", spec := "fnExactLexJoin", inPlace := ["internal/abi.NoEscape"], unfollowed := true, recurses := true, named := ["loop.example/sedge/impl.lexSigns"], apart := false, laid := [("loop.example/sedge/impl.lexSigns", laid_loop_example_sedge_impl_lexSigns)] }
def FnExactLexJoinSaid : Prop := fnExactLexJoinRow.holds Tryd.pinned (OpenSpec.ofChange fnExactLexJoinSpec)

/-- ITS FALSE NEIGHBOUR: 'it returns false'. Refute it at one input. -/
def fnExactLexJoinWrong : ChangeSpec := { name := "fnExactLexJoin", vars := ["loop.example/sedge/impl.lexSigns"], fn := fun _ => fun
  | [d, g1] => { results := [.lit (.bool false)], args := [d], vars := [g1] }
  | _ => none }
def FnExactLexJoinWrongFalsely : Prop := fnExactLexJoinRow.holds Tryd.pinned (OpenSpec.ofChange fnExactLexJoinWrong)

/- THE SECOND FORM. 'bulk': how many values and letters a reading holds, each counted each time it is reached (what is shared counts as often as it is met; a slice's spare places count too). A statement '..UptoSaid' is the law's where the arguments, and the package variables that the reading takes, are together of bulk at most 1048576: NARROWER than '..Said'. Prove '..Said' where nothing that the law and all that it calls make is longer than what came in: it says more and counts as full. Else prove '..UptoSaid'. A law counts once. -/
mutual
def uptoBulk {H : Type} : DataW H → Nat
  | .lit (.string bytes) => bytes.length + 1
  | .lit _ => 1
  | .nil => 1
  | .ptr d => uptoBulk d + 1
  | .slice elems spare => uptoBulkAll elems + uptoBulkAll spare + 1
  | .agg parts => uptoBulkAll parts + 1
  | .iface _ d => uptoBulk d + 1
  | .map entries => uptoBulkEntries entries + 1
  | .held _ => 1
def uptoBulkAll {H : Type} : List (DataW H) → Nat
  | [] => 0
  | d :: r => uptoBulk d + uptoBulkAll r
def uptoBulkEntries {H : Type} : List (Lit × DataW H) → Nat
  | [] => 0
  | x :: r => uptoBulkEntry x + uptoBulkEntries r
def uptoBulkEntry {H : Type} : Lit × DataW H → Nat
  | (.string bytes, d) => bytes.length + uptoBulk d + 1
  | (_, d) => uptoBulk d + 1
 end
def uptoSmall : (H : Type) → List (DataW H) → Bool := fun _ ds => decide (uptoBulkAll ds ≤ 1048576)
def OpenSpec.upto (s : _root_.Go.ChangeSpec) : _root_.Go.OpenSpec := { _root_.Go.OpenSpec.ofChange s with cond := some uptoSmall }

/-- 'laws.FnLexBack', WHERE WHAT IT READS IS OF BULK AT MOST 1048576: true; the input reads as it did. -/
def fnLexBackUptoRow : OpenClaim := { program := "ytggkkhlghlghkaadoor", sum := "5deb6c56229bfeca73df01c5437f0793484092a7e066bc4a59b7ae82f986c68e", func := "loop.example/sedge/laws.FnLexBack", spec := "fnLexBack", inPlace := ["internal/abi.NoEscape"], unfollowed := true, recurses := true, named := ["loop.example/sedge/impl.lexSigns"], apart := false, laid := [("loop.example/sedge/impl.lexSigns", laid_loop_example_sedge_impl_lexSigns)], narrowed := true }
def FnLexBackUptoSaid : Prop := fnLexBackUptoRow.holds Tryd.pinned (OpenSpec.upto fnLexBackSpec)

/-- 'laws.FnLexPlaces', WHERE WHAT IT READS IS OF BULK AT MOST 1048576: true; the input reads as it did. -/
def fnLexPlacesUptoRow : OpenClaim := { program := "ytggkkhlghlghkaadoor", sum := "5deb6c56229bfeca73df01c5437f0793484092a7e066bc4a59b7ae82f986c68e", func := "loop.example/sedge/laws.FnLexPlaces", spec := "fnLexPlaces", named := ["loop.example/sedge/impl.lexSigns"], apart := false, laid := [("loop.example/sedge/impl.lexSigns", laid_loop_example_sedge_impl_lexSigns)], narrowed := true }
def FnLexPlacesUptoSaid : Prop := fnLexPlacesUptoRow.holds Tryd.pinned (OpenSpec.upto fnLexPlacesSpec)

/-- 'laws.FnLexBlanks', WHERE WHAT IT READS IS OF BULK AT MOST 1048576: true; the input reads as it did. -/
def fnLexBlanksUptoRow : OpenClaim := { program := "ytggkkhlghlghkaadoor", sum := "5deb6c56229bfeca73df01c5437f0793484092a7e066bc4a59b7ae82f986c68e", func := "loop.example/sedge/laws.FnLexBlanks", spec := "fnLexBlanks", named := ["loop.example/sedge/impl.lexSigns"], apart := false, laid := [("loop.example/sedge/impl.lexSigns", laid_loop_example_sedge_impl_lexSigns)], narrowed := true }
def FnLexBlanksUptoSaid : Prop := fnLexBlanksUptoRow.holds Tryd.pinned (OpenSpec.upto fnLexBlanksSpec)

/-- 'laws.FnExactSignAt', WHERE WHAT IT READS IS OF BULK AT MOST 1048576: true; the input reads as it did. -/
def fnExactSignAtUptoRow : OpenClaim := { program := "ytggkkhlghlghkaadoor", sum := "5deb6c56229bfeca73df01c5437f0793484092a7e066bc4a59b7ae82f986c68e", func := "loop.example/sedge/laws.FnExactSignAt", spec := "fnExactSignAt", named := ["loop.example/sedge/impl.lexSigns"], apart := false, laid := [("loop.example/sedge/impl.lexSigns", laid_loop_example_sedge_impl_lexSigns)], narrowed := true }
def FnExactSignAtUptoSaid : Prop := fnExactSignAtUptoRow.holds Tryd.pinned (OpenSpec.upto fnExactSignAtSpec)

/-- 'laws.FnExactLexTokens', WHERE WHAT IT READS IS OF BULK AT MOST 1048576: true; the input reads as it did. -/
def fnExactLexTokensUptoRow : OpenClaim := { program := "ytggkkhlghlghkaadoor", sum := "5deb6c56229bfeca73df01c5437f0793484092a7e066bc4a59b7ae82f986c68e", func := "loop.example/sedge/laws.FnExactLexTokens", spec := "fnExactLexTokens", named := ["loop.example/sedge/impl.lexSigns"], apart := false, laid := [("loop.example/sedge/impl.lexSigns", laid_loop_example_sedge_impl_lexSigns)], narrowed := true }
def FnExactLexTokensUptoSaid : Prop := fnExactLexTokensUptoRow.holds Tryd.pinned (OpenSpec.upto fnExactLexTokensSpec)

/-- 'laws.FnExactLexJoin', WHERE WHAT IT READS IS OF BULK AT MOST 1048576: true; the input reads as it did. -/
def fnExactLexJoinUptoRow : OpenClaim := { program := "ytggkkhlghlghkaadoor", sum := "5deb6c56229bfeca73df01c5437f0793484092a7e066bc4a59b7ae82f986c68e", func := "loop.example/sedge/laws.FnExactLexJoin", spec := "fnExactLexJoin", inPlace := ["internal/abi.NoEscape"], unfollowed := true, recurses := true, named := ["loop.example/sedge/impl.lexSigns"], apart := false, laid := [("loop.example/sedge/impl.lexSigns", laid_loop_example_sedge_impl_lexSigns)], narrowed := true }
def FnExactLexJoinUptoSaid : Prop := fnExactLexJoinUptoRow.holds Tryd.pinned (OpenSpec.upto fnExactLexJoinSpec)

end Rows
end Go.Proofs.YtggkkhlghlghkaaDoor
