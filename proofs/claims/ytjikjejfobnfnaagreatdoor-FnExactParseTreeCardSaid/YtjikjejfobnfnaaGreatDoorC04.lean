/-
  The words of the language as a map that the call makes, and as one comparison behind the other: the same answer of every text.
-/
import Derived.Test.YtjikjejfobnfnaaGreatDoorC01
import Derived.Maps.OwnSet
import Derived.WalkKit
import Derived.WalkSpells
namespace Go.Proofs.YtjikjejfobnfnaaGreatDoor.lex
open Go.RowKit Go.Maps Go.WideAt Go.WideShapes Go.ChangeMaps Go.Proofs.YtjikjejfobnfnaaGreatDoor.num
set_option linter.unusedVariables false
section
theorem strKey : Keyed Tryz.prog 9 := string_keyed Tryz.underlying9
theorem zeroUnit (w : World) : (zeroValue 224).run Tryz.prog w = .ok (.agg #[]) w := by kernel_rfl

/-- The words, one behind the other. -/
def words : List (List UInt8) :=
  [[97, 114, 114, 97, 121], [118, 97, 114], [114, 101, 102], [102, 117, 110, 99], [105, 102], [101, 108, 115, 101], [119, 104, 105, 108, 101], [102, 111, 114], [114, 101, 97, 100], [112, 114, 105, 110, 116], [97, 115, 115, 101, 114, 116], [115, 116, 111, 112], [114, 101, 116, 117, 114, 110], [97, 110, 100], [111, 114], [110, 111, 116], [110, 117, 108, 108]]

def wordD (n : Nat) : DataW Unit := setOf (.agg []) ((words.take n).map Lit.string)
def isWord (l : List UInt8) : Bool := words.contains l

theorem wordD_zero : wordD 0 = .map [] := rfl
theorem wordD_step (n : Nat) (l : List UInt8) (h : words[n]? = some l) : wordD (n + 1) = (wordD n).put (.string l) (.agg []) := by
  unfold wordD
  rw [List.take_add_one, h]
  simp [setOf_snoc]

theorem has_word (l : List UInt8) : Maps.has (wordD 17) (.string l) = isWord l := by
  unfold wordD
  rw [has_setOf]
  · have e : ∀ ws : List (List UInt8), ((ws.map Lit.string).any fun x => x.sameKey (.string l)) = ws.contains l := by
      intro ws
      induction ws with
      | nil => rfl
      | cons a r ih =>
        rw [List.map_cons, List.any_cons, ih, List.contains_cons]
        congr 1
        simp only [Lit.sameKey]
        exact Bool.beq_comm
    exact e words
  · intro x hx
    obtain ⟨a, _, rfl⟩ := List.mem_map.1 hx
    trivial

section
variable {H : Type} {P : Program} (w : World) {ops : Array Oper} {rest : List Oper} {o : Oper} {a : Act} {Q : Exit → Act → World → Prop}
/-- A literal's entry: the law of a store, at a literal's own operation. -/
theorem wpList_insert_own (hg : o.guard = none) (m x v : Operand) (t : TypeId) (hop : o.op = Op.insert t m x v)
    (k e : TypeId) (K : Keyed P k) (ht : P.underlying t = some (.map k e)) (R : Value → Option (DataW H × List MemPlace)) (b n : Nat) (D : DataW H)
    (hm : a.eval m = .map (some b)) (hown : w.ownsMap P k R b n D) (hn : n < maxLen) (key val : Value) (kl : Lit) (hx : a.eval x = key) (hv : a.eval v = val) (hkey : keyOf P k key = some kl)
    (d : DataW H) (ps : List MemPlace) (hval : R val = some (d, ps))
    (hK : ∀ w', w'.ownsMap P k R b (n + 1) (D.put kl d) → w.mapTurned w' b → wpList P ops Q rest (a.put o.dst undef) w') :
    wpList P ops Q (o :: rest) a w := by
  refine wpList_plain hg fun K' hK' => ?_
  obtain ⟨w', hrun, r1, r2⟩ := hown.store K ht hn hkey hval
  unfold Oper.wp
  simp [execOp, hop, hm, hx, hv, hrun, Result.andThen]
  exact hK' _ _ (hK w' r1 r2)
end

set_option maxHeartbeats 1000000 in
set_option maxRecDepth 100000 in
theorem lexWords_any (w : World) : Calls Tryz.prog 89 #[] w fun e w' => e = .returned (.map (some w.heap.size)) ∧ w'.ownsMap Tryz.prog 9 (unitElem (H := Unit)) w.heap.size 17 (wordD 17) ∧ Below w.heap.size w w' ∧ w.heap.size < w'.heap.size := by
  have hmm := @run_makeMap Tryz.prog
  have hown : (w.alloc (.map #[] 0)).ownsMap Tryz.prog 9 (unitElem (H := Unit)) w.heap.size 0 (.map []) := World.ownsMap_made _ _ _ _
  have hb : Below w.heap.size w (w.alloc (.map #[] 0)) := (Below.refl _ _).alloc (Nat.le_refl _) _
  have hs : w.heap.size + 1 ≤ (w.alloc (.map #[] 0)).heap.size := by simp
  go_enter Tryz.func89, Tryz.ntmps89
  go_wp2_with (guard_target =~ wpList _ _ _ (Oper.mk _ (Op.insert _ _ _ _) _ _ _ _ :: _) _ _; go_must (refine wpList_insert_own _ rfl _ _ _ 153 rfl 9 224 strKey Tryz.underlying153 (unitElem (H := Unit)) w.heap.size _ _ rfl hown (by decide) _ _ _ rfl rfl (Go.WideMaps.keyOf_string_mk Tryz.underlying9 (by decide)) _ [] unitElem_mk ?_); clear hown; intro w1 hown ht; replace hb := hb.grown ht.grown hb.size (fun j hj => by cases hj; exact Nat.le_refl _); replace hs := Nat.le_trans hs ht.grown.size; clear ht)
  go_ret
  exact ⟨rfl, hown, hb, hs⟩

end
end Go.Proofs.YtjikjejfobnfnaaGreatDoor.lex
