/-
  A region that draws its order, whose operations only read (its callees may lay new blocks), but for the last one, which waits for all the others: one walk of the others in the order of the text, then the last one.
-/
import Derived.Test.YthbbgkpkijlclaaDoorRows
import Derived.WalkKit
import Derived.ProofKit
import Derived.OpenShut
import Derived.Deep.QuietTactic
import Derived.BigQuiet
namespace Go.Proofs.YthbbgkpkijlclaaDoor.num
open Go.ChangeShapes Go.WideShapes Go.ChangeAt Go.RowKit
set_option linter.unusedVariables false
section
variable {P : Program} {C : World → Prop}

/-- In the place of the last operation: nothing is done. -/
def tv (o : Oper) : Oper := ⟨o.dst, .assign (.const undef), o.type, o.pos, o.after, o.guard⟩
/-- The last operation waits for all the others; each waits for earlier ones alone. -/
def tailB (ops : Array Oper) (n : Nat) : Bool :=
  ((List.range n).all fun i => match ops[n]? with | some o => o.after.any fun e => Region.binds .any e && e.on == i | none => false) &&
  (List.range ops.size).all fun j => match ops[j]? with | some o => o.after.all fun e => decide (e.on < j) | none => false
theorem tailB_all {ops : Array Oper} {n : Nat} (h : tailB ops n = true) {o : Oper} (ho : ops[n]? = some o) : ∀ i, i < n → ∃ e ∈ o.after, Region.binds .any e = true ∧ e.on = i := by
  intro i hi
  unfold tailB at h
  rw [Bool.and_eq_true] at h
  have h1 := List.all_eq_true.1 h.1 i (List.mem_range.2 hi)
  simp only [ho] at h1
  obtain ⟨e, he, hb⟩ := Array.any_eq_true'.1 h1
  simp only [Bool.and_eq_true, beq_iff_eq] at hb
  exact ⟨e, he, hb.1, hb.2⟩
theorem tailB_back {ops : Array Oper} {n : Nat} (h : tailB ops n = true) {j : Nat} {o : Oper} (ho : ops[j]? = some o) : ∀ e ∈ o.after, e.on < j := by
  intro e he
  unfold tailB at h
  rw [Bool.and_eq_true] at h
  have h1 := List.all_eq_true.1 h.2 j (List.mem_range.2 (Array.getElem?_eq_some_iff.1 ho).1)
  simp only [ho] at h1
  have := Array.all_eq_true_iff_forall_mem.1 h1 e he
  simpa using this
/-- As long as something is not listed, something may come up. -/
theorem ready_some {ops : Array Oper} {listed : Array Bool} (hback : ∀ (j : Nat) (o : Oper), ops[j]? = some o → ∀ e ∈ o.after, e.on < j) (hs : listed.size = ops.size) :
    ∀ (k j : Nat), j < k → j < ops.size → listed.getD j true = false → ∃ i, i ∈ Region.ready .any ops listed := by
  intro k
  induction k with
  | zero => intro j hj; omega
  | succ k ih =>
    intro j hj hlt hun
    obtain ⟨o, ho⟩ : ∃ o, ops[j]? = some o := ⟨_, Array.getElem?_eq_getElem hlt⟩
    by_cases hall : ∀ e ∈ o.after, Region.binds .any e = true → listed.getD e.on false = true
    · exact ⟨j, mem_ready.2 ⟨hun, o, ho, hall⟩⟩
    · simp only [Classical.not_forall] at hall
      obtain ⟨e, he, hb, hn⟩ := hall
      have hej := hback j o ho e he
      have hlt' : e.on < listed.size := by omega
      refine ih e.on (by omega) (by omega) ?_
      have : listed.getD e.on false = false := by simpa using hn
      simpa [hlt'] using this
theorem ready_last {ops : Array Oper} {listed : Array Bool} {n : Nat} {o : Oper} (hsz : ops.size = n + 1) (hs : listed.size = ops.size) (ho : ops[n]? = some o)
    (hall : ∀ i, i < n → ∃ e ∈ o.after, Region.binds .any e = true ∧ e.on = i) (h : n ∈ Region.ready .any ops listed) : Region.ready .any ops (listed.setIfInBounds n true) = [] := by
  obtain ⟨h0, o', ho', hl⟩ := mem_ready.1 h
  rw [ho] at ho'
  cases ho'
  rw [List.eq_nil_iff_forall_not_mem]
  intro j hj
  obtain ⟨h1, oj, hoj, -⟩ := mem_ready.1 hj
  have hjlt := (Array.getElem?_eq_some_iff.1 hoj).1
  by_cases hjn : j = n
  · subst hjn
    have hlt : j < listed.size := by omega
    simp [hlt] at h1
  · rw [getD_set_ne true (Ne.symm hjn)] at h1
    obtain ⟨e, he, hb, heq⟩ := hall j (by omega)
    have := hl e he hb
    rw [heq] at this
    have hlt : j < listed.size := by omega
    simp [hlt] at h1 this
    rw [h1] at this
    cases this
theorem wpAny_tail {ops ops' : Array Oper} {n : Nat} {o : Oper} {Q : Act → Prop} {Q' : Exit → Act → World → Prop} (hsz : ops.size = n + 1) (hsz' : ops'.size = n + 1)
    (hsame : ∀ i, i ≠ n → ops'[i]? = ops[i]?) (ho : ops[n]? = some o) (ho' : ops'[n]? = some (tv o)) (hd : o.dst = none) (hg : o.guard = none) (hT : tailB ops n = true)
    (hQ : ∀ a w, C w → Q a → o.wp P a w (fun a w => Q' .normal a w) Q') : ∀ (fuel : Nat) (listed : Array Bool) (a : Act) (w : World), C w → listed.size = ops.size → listed.getD n true = false →
    wpAnyQ P .any ops' C Q fuel listed a → wpAny P .any ops Q' fuel listed a w := by
  have hrdy : ∀ listed i, i ∈ Region.ready .any ops listed → i ∈ Region.ready .any ops' listed := by
    intro listed i hi
    obtain ⟨h0, oi, hoi, hl⟩ := mem_ready.1 hi
    by_cases hin : i = n
    · subst hin
      rw [ho] at hoi
      cases hoi
      exact mem_ready.2 ⟨h0, tv o, ho', hl⟩
    · exact mem_ready.2 ⟨h0, oi, by rw [hsame i hin]; exact hoi, hl⟩
  have hrdy' : ∀ listed i, i ∈ Region.ready .any ops' listed → i ∈ Region.ready .any ops listed := by
    intro listed i hi
    obtain ⟨h0, oi, hoi, hl⟩ := mem_ready.1 hi
    by_cases hin : i = n
    · subst hin
      rw [ho'] at hoi
      cases hoi
      exact mem_ready.2 ⟨h0, o, ho, hl⟩
    · exact mem_ready.2 ⟨h0, oi, by rw [← hsame i hin]; exact hoi, hl⟩
  have hy : ∀ t, yielded ops' t = yielded ops t := by
    intro t
    funext j
    have : (ops'[j]?.bind fun x => x.dst) = (ops[j]?.bind fun x => x.dst) := by
      by_cases hjn : j = n
      · subst hjn; rw [ho, ho']; rfl
      · rw [hsame j hjn]
    unfold yielded
    rw [this]
  have hback := fun j oj h => tailB_back hT (j := j) (o := oj) h
  intro fuel
  induction fuel with
  | zero =>
    intro listed a w hw hs hun h
    obtain ⟨i, hi⟩ := ready_some (ops := ops) hback hs (n + 1) n (by omega) (by omega) hun
    have hh := h.1
    have := hrdy _ _ hi
    rw [hh] at this
    cases this
  | succ fuel ih =>
    intro listed a w hw hs hun h
    obtain ⟨h0, h1⟩ := h
    refine ⟨fun he => ?_, fun i hi => ?_⟩
    · obtain ⟨i, hi⟩ := ready_some (ops := ops) hback hs (n + 1) n (by omega) (by omega) hun
      rw [he] at hi
      cases hi
    · have hq := h1 i (hrdy _ _ hi)
      by_cases hin : i = n
      · subst hin
        have hnil := ready_last hsz hs ho (tailB_all hT ho) hi
        have hnil' : Region.ready .any ops' (listed.setIfInBounds i true) = [] := by
          rw [List.eq_nil_iff_forall_not_mem]
          intro j hj
          have := hrdy' _ _ hj
          rw [hnil] at this
          cases this
        have hK : Q a := by
          unfold qOp at hq
          simp only [ho'] at hq
          have hwt : Region.wanted (tv o) (yielded ops' a.tmps) = true := by simp [Region.wanted, tv, hg]
          simp only [hwt, if_true] at hq
          obtain ⟨v, -, hk⟩ := hq
          have e : a.put (tv o).dst v = a := by simp [tv, hd, Act.put]
          rw [e] at hk
          cases fuel with
          | zero => exact hk.2
          | succ f => exact hk.1 hnil'
        have hwt : Region.wanted o (yielded ops a.tmps) = true := by simp [Region.wanted, hg]
        unfold wpOp
        simp only [ho, hwt, if_true]
        refine .inl (Oper.wp_mono (fun a'' w'' hfin => ?_) (hQ a w hw hK))
        cases fuel with
        | zero => exact ⟨hnil, hfin⟩
        | succ f => exact ⟨fun _ => hfin, fun j hj => by rw [hnil] at hj; cases hj⟩
      · have hi' : ops'[i]? = ops[i]? := hsame i hin
        have hq' : qOp P ops C i (wpAnyQ P .any ops' C Q fuel (listed.setIfInBounds i true)) a := by
          unfold qOp at hq ⊢
          rw [hi'] at hq
          rw [hy] at hq
          exact hq
        exact wpOp_of_qOp hw (fun a' w' hw' hk => ih (listed.setIfInBounds i true) a' w' hw' (by simpa using hs) (by rw [getD_set_ne true hin]; exact hun) hk) hq'
theorem wpQuiet_last {ops : Array Oper} {Q : Act → Prop} {o : Oper} (hd : o.dst = none) (hg : o.guard = none) : ∀ (l : List Oper) (a : Act), wpQuiet P ops C Q l a → wpQuiet P ops C Q (l ++ [tv o]) a
  | [], a, h => by
    refine wpQuiet_step fun K hK => ?_
    have hwt : Region.wanted (tv o) (yielded ops a.tmps) = true := by simp [Region.wanted, tv, hg]
    rw [if_pos hwt]
    have e : a.put (tv o).dst undef = a := by simp [tv, hd, Act.put]
    refine ⟨undef, fun w _ => ?_, ?_⟩
    · unfold Oper.quietAt tv
      simp [execOp, Oper.quietUpon, go_sem]
    · rw [e]; exact hK _ (wpQuiet_nil h)
  | x :: l, a, h => by
    unfold wpQuiet at h
    show wpQuiet P ops C Q (x :: (l ++ [tv o])) a
    unfold wpQuiet
    split
    · rename_i hw
      rw [if_pos hw] at h
      exact Oper.quiet_mono (fun a h => wpQuiet_last hd hg l a h) h
    · rename_i hw
      rw [if_neg hw] at h
      exact wpQuiet_last hd hg l _ h
theorem wp_region_tail {id n : Nat} {Q : Exit → Act → World → Prop} {a : Act} {w : World} {l : List Oper} {o : Oper} (hl : l = l.dropLast ++ [o]) (hn : l.dropLast.length = n) (hd : o.dst = none) (hg : o.guard = none)
    (hm : P.follows .mixedOrders = true) (hB : Region.lexB .any (l.dropLast ++ [tv o]).toArray = true) (hT : tailB l.toArray n = true) (hC : C { w with drawn := w.drawn + 1 })
    (h : wpQuiet P (l.dropLast ++ [tv o]).toArray C (fun a' => ∀ w', C w' → o.wp P a' w' (fun a w => Q .normal a w) Q) l.dropLast a) : (Code.region id l.toArray true).wp P Q a w := by
  generalize l.dropLast = pre at *
  subst hl
  simp only [Region.lexB, Bool.and_eq_true] at hB
  refine wp_region_any hm ?_
  have hw := wpQuiet_last hd hg pre a h
  have hx := wpAnyQ_lex (C := C) (md := .any) hB.1 (pre ++ [tv o]) 0 (Array.replicate (pre ++ [tv o]).toArray.size false) a (by simp) (by simpa using hB.2) hw
  have hz : (pre ++ [o]).toArray.size = n + 1 := by simp [hn]
  have hz' : (pre ++ [tv o]).toArray.size = n + 1 := by simp [hn]
  have hlen : (pre ++ [tv o]).length = n + 1 := by simp [hn]
  rw [hlen, hz'] at hx
  rw [hz]
  refine wpAny_tail (ops := (pre ++ [o]).toArray) (ops' := (pre ++ [tv o]).toArray) hz hz' ?_ (by simp [← hn]) (by simp [← hn]) hd hg hT (fun a w hw h => h w hw) (n + 1) _ a _ hC (by simp [hn]) (by simp [← hn]) hx
  intro i hi
  subst hn
  rcases Nat.lt_or_ge i pre.length with h' | h'
  · simp [List.getElem?_append_left h']
  · simp [List.getElem?_eq_none (show (pre ++ [o]).length ≤ i by simp; omega), List.getElem?_eq_none (show (pre ++ [tv o]).length ≤ i by simp; omega)]
end
end Go.Proofs.YthbbgkpkijlclaaDoor.num
