/-
  A map literal from numbers to function values, made by the call and asked once: the program's restOperator.
-/
import Derived.Test.YtjpiihjgbllieaaDoorNc
import Derived.Test.YtjpiihjgbllieaaDoorGc
import Derived.Maps.OwnSet
import Derived.WalkSpells
namespace Go.Proofs.YtjpiihjgbllieaaDoor.num
open Go.ChangeShapes Go.WideShapes Go.ChangeAt Go.RowKit Go.Maps
set_option linter.unusedVariables false

theorem intKey : Keyed Tryd.prog 3 := int_keyed Tryd.underlying3
/-- A function value as a datum: its number, and the block that it has caught, if any. -/
def fnD (K c : Nat) : DataW Unit := .agg [.lit (.int .i64 K), .lit (.int .i64 c)]
theorem fnD_inj {K c K' c' : Nat} (h : fnD K c = fnD K' c') : K = K' ∧ c = c' := by
  simp [fnD] at h
  omega
def fnElem : Value → Option (DataW Unit × List MemPlace)
  | .func (Fn.func K) f c => match f.toList, c.toList with
    | [], [] => some (fnD K 0, [])
    | [], [.pointer (some ⟨b, 0, none⟩)] => some (fnD K (b + 1), [])
    | _, _ => none
  | .nilFunc => some (.agg [], [])
  | _ => none
theorem fnElem_plain (K : Nat) : fnElem (.func (Fn.func K) #[] #[]) = some (fnD K 0, []) := rfl
theorem fnElem_held (K b : Nat) : fnElem (.func (Fn.func K) #[] #[.pointer (some ⟨b, 0, none⟩)]) = some (fnD K (b + 1), []) := rfl
theorem fnElem_nil : fnElem .nilFunc = some (.agg [], []) := rfl
/-- The value that reads so. -/
def fnV (K c : Nat) : Value := .func (Fn.func K) #[] (match c with | 0 => #[] | b + 1 => #[.pointer (some ⟨b, 0, none⟩)])
theorem fnElem_inv {v : Value} {K c : Nat} {ps : List MemPlace} (h : fnElem v = some (fnD K c, ps)) : v = fnV K c := by
  unfold fnElem at h
  split at h
  · rename_i K' f cc
    rcases f with ⟨f⟩
    rcases cc with ⟨cc⟩
    simp only at h
    split at h
    · simp at h
      obtain ⟨h1, h2⟩ := fnD_inj h.1
      subst h1 h2
      rfl
    · simp at h
      obtain ⟨h1, h2⟩ := fnD_inj h.1
      subst h1 h2
      rfl
    · cases h
  · simp [fnD] at h
  · cases h
theorem fnElem_inv_nil {v : Value} {ps : List MemPlace} (h : fnElem v = some (.agg [], ps)) : v = .nilFunc := by
  unfold fnElem at h
  split at h
  · split at h
    · simp [fnD] at h
    · simp [fnD] at h
    · cases h
  · rfl
  · cases h
section
variable {P : Program} (w : World) {ops : Array Oper} {rest : List Oper} {o : Oper} {a : Act} {Q : Exit → Act → World → Prop}
/-- A literal's entry. -/
theorem wpList_insert_fn (hg : o.guard = none) (m x v : Operand) (t : TypeId) (hop : o.op = Op.insert t m x v)
    (k e : TypeId) (K : Keyed P k) (ht : P.underlying t = some (.map k e)) (R : Value → Option (DataW Unit × List MemPlace)) (b n : Nat) (D : DataW Unit)
    (hm : a.eval m = .map (some b)) (hown : w.ownsMap P k R b n D) (hn : n < maxLen) (key val : Value) (kl : Lit) (hx : a.eval x = key) (hv : a.eval v = val) (hkey : keyOf P k key = some kl)
    (d : DataW Unit) (ps : List MemPlace) (hval : R val = some (d, ps))
    (hK : ∀ w', w'.ownsMap P k R b (n + 1) (D.put kl d) → w.mapTurned w' b → wpList P ops Q rest (a.put o.dst undef) w') :
    wpList P ops Q (o :: rest) a w := by
  refine wpList_plain hg fun K' hK' => ?_
  obtain ⟨w', hrun, r1, r2⟩ := hown.store K ht hn hkey hval
  unfold Oper.wp
  simp [execOp, hop, hm, hx, hv, hrun, Result.andThen]
  exact hK' _ _ (hK w' r1 r2)
/-- 'm[k]' at function values. -/
theorem wpList_lookup_fn (hg : o.guard = none) (m x : Operand) (t : TypeId) (hop : o.op = Op.lookup t m x false)
    (k e : TypeId) (K : Keyed P k) (ht : P.underlying t = some (.map k e)) (hz : (zeroValue e).run P w = .ok .nilFunc w) (b n : Nat) (D : DataW Unit)
    (hm : a.eval m = .map (some b)) (hown : w.ownsMap P k fnElem b n D) (key : Value) (kl : Lit) (hx : a.eval x = key) (hkey : keyOf P k key = some kl) (u : Value)
    (hu : (∃ Kf c, D.atKey kl (.agg []) = fnD Kf c ∧ u = fnV Kf c) ∨ (D.atKey kl (.agg []) = .agg [] ∧ u = .nilFunc))
    (hK : wpList P ops Q rest (a.put o.dst u) w) :
    wpList P ops Q (o :: rest) a w := by
  refine wpList_plain hg fun K' hK' => ?_
  obtain ⟨v, ps, hrun, hv⟩ := hown.lookup K ht hz fnElem_nil hkey
  have hvu : v = u := by
    rcases hu with ⟨Kf, c, h1, h2⟩ | ⟨h1, h2⟩
    · rw [h1] at hv
      rw [h2]; exact fnElem_inv hv
    · rw [h1] at hv
      rw [h2]; exact fnElem_inv_nil hv
  subst hvu
  unfold Oper.wp
  simp [execOp, hop, hm, hx, hrun, Result.andThen]
  exact hK' _ _ hK
end
theorem zeroFn (w : World) : (zeroValue 36).run Tryd.prog w = .ok .nilFunc w := by kernel_rfl
theorem keyInt (n : Int) (h : (Lit.int .i64 n).wf = true) : keyOf Tryd.prog 3 (.int .i64 n) = some (.int .i64 n) := by
  exact keyOf_int_mk Tryd.underlying3 h
end Go.Proofs.YtjpiihjgbllieaaDoor.num
