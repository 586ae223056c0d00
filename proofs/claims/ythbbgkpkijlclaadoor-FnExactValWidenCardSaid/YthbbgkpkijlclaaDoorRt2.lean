/-
  A region that draws its order, whose operations only read (its callees may lay new blocks), but for the last few, each of which waits for all that stand ahead of it: one walk of the others in the order of the text, then the last ones, in order, as a plain list.
-/
import Derived.Test.YthbbgkpkijlclaaDoorRt
namespace Go.Proofs.YthbbgkpkijlclaaDoor.num
open Go.ChangeShapes Go.WideShapes Go.ChangeAt Go.RowKit
set_option linter.unusedVariables false
section
variable {P : Program} {C : World → Prop}

/-- In the place of one of the last operations: nothing is done. -/
def tw (o : Oper) : Oper := ⟨none, .assign (.const undef), o.type, o.pos, o.after, none⟩
/-- The operations from the n-th on wait for all ahead of them; each waits for earlier ones alone; guards of those ahead look at those ahead. -/
def tailsB (ops : Array Oper) (n : Nat) : Bool :=
  (List.range ops.size).all fun j => match ops[j]? with
    | some o => (o.after.all fun e => decide (e.on < j)) && (if n ≤ j then (List.range j).all fun i => o.after.any fun e => Region.binds .any e && e.on == i else match o.guard with | some (k, _) => decide (k < n) | none => true)
    | none => false
theorem tailsB_at {ops : Array Oper} {n : Nat} (h : tailsB ops n = true) {j : Nat} {o : Oper} (ho : ops[j]? = some o) :
    (∀ e ∈ o.after, e.on < j) ∧ (n ≤ j → ∀ i, i < j → ∃ e ∈ o.after, Region.binds .any e = true ∧ e.on = i) ∧ (j < n → ∀ k b, o.guard = some (k, b) → k < n) := by
  have h1 := List.all_eq_true.1 h j (List.mem_range.2 (Array.getElem?_eq_some_iff.1 ho).1)
  simp only [ho, Bool.and_eq_true] at h1
  refine ⟨fun e he => ?_, fun hn i hi => ?_, fun hn k b hg => ?_⟩
  · have := Array.all_eq_true_iff_forall_mem.1 h1.1 e he
    simpa using this
  · have h2 := h1.2
    rw [if_pos hn] at h2
    have h3 := List.all_eq_true.1 h2 i (List.mem_range.2 hi)
    obtain ⟨e, he, hb⟩ := Array.any_eq_true'.1 h3
    simp only [Bool.and_eq_true, beq_iff_eq] at hb
    exact ⟨e, he, hb.1, hb.2⟩
  · have h2 := h1.2
    rw [if_neg (by omega), hg] at h2
    simpa using h2
/-- All ahead of m are listed, and none from m on. -/
def Upto (N m : Nat) (listed : Array Bool) : Prop := listed.size = N ∧ ∀ i, i < N → listed.getD i true = decide (i < m)
theorem Upto.next {N m : Nat} {listed : Array Bool} (h : Upto N m listed) (hm : m < N) : Upto N (m + 1) (listed.setIfInBounds m true) := by
  refine ⟨by simpa using h.1, fun i hi => ?_⟩
  by_cases hij : m = i
  · subst hij
    have hlt : m < listed.size := by rw [h.1]; exact hm
    simp [hlt]
  · rw [getD_set_ne true hij, h.2 i hi]
    have : (i < m) = (i < m + 1) := by apply propext; omega
    simp [this]
theorem Upto.ready {ops : Array Oper} {n m : Nat} {listed : Array Bool} (hT : tailsB ops n = true) (hn : n ≤ m) (h : Upto ops.size m listed) (i : Nat) : i ∈ Region.ready .any ops listed ↔ i = m ∧ m < ops.size := by
  rw [mem_ready]
  constructor
  · rintro ⟨h0, o, ho, hall⟩
    have hlt := (Array.getElem?_eq_some_iff.1 ho).1
    rw [h.2 i hlt, decide_eq_false_iff_not] at h0
    by_cases him : i = m
    · exact ⟨him, by omega⟩
    · exfalso
      obtain ⟨e, he, hb, heq⟩ := (tailsB_at hT ho).2.1 (by omega) m (by omega)
      have h1 := hall e he hb
      rw [heq] at h1
      have h2 := h.2 m (by omega)
      have hls : m < listed.size := by rw [h.1]; omega
      simp [hls] at h1 h2
      rw [h1] at h2
      cases h2
  · rintro ⟨rfl, hlt⟩
    obtain ⟨o, ho⟩ : ∃ o, ops[i]? = some o := ⟨_, Array.getElem?_eq_getElem hlt⟩
    refine ⟨by rw [h.2 i hlt]; simp, o, ho, fun e he hb => ?_⟩
    have h1 := (tailsB_at hT ho).1 e he
    have h2 := h.2 e.on (by omega)
    have hls : e.on < listed.size := by rw [h.1]; omega
    simp [hls, h1] at h2 ⊢
    exact h2
theorem tails_any {ops : Array Oper} {n : Nat} {Q' : Exit → Act → World → Prop} (hT : tailsB ops n = true) : ∀ (fuel m : Nat) (listed : Array Bool) (a : Act) (w : World), n ≤ m → m ≤ ops.size → Upto ops.size m listed → ops.size - m ≤ fuel →
    wpList P ops Q' (ops.toList.drop m) a w → wpAny P .any ops Q' fuel listed a w := by
  intro fuel
  induction fuel with
  | zero =>
    intro m listed a w hn hm hU hf h
    have hm2 : m = ops.size := by omega
    subst hm2
    have hd : ops.toList.drop ops.size = [] := by simp
    rw [hd] at h
    refine ⟨?_, h⟩
    rw [List.eq_nil_iff_forall_not_mem]
    intro i hi
    have := (hU.ready hT hn i).1 hi
    omega
  | succ fuel ih =>
    intro m listed a w hn hm hU hf h
    refine ⟨fun he => ?_, fun i hi => ?_⟩
    · by_cases hlt : m < ops.size
      · have := (hU.ready hT hn m).2 ⟨rfl, hlt⟩
        rw [he] at this
        cases this
      · have hm2 : m = ops.size := by omega
        subst hm2
        have hd : ops.toList.drop ops.size = [] := by simp
        rw [hd] at h
        exact h
    · obtain ⟨rfl, hlt⟩ := (hU.ready hT hn i).1 hi
      obtain ⟨o, ho⟩ : ∃ o, ops[i]? = some o := ⟨_, Array.getElem?_eq_getElem hlt⟩
      have hd : ops.toList.drop i = o :: ops.toList.drop (i + 1) := by
        have hl : i < ops.toList.length := by simpa using hlt
        rw [List.drop_eq_getElem_cons hl]
        congr 1
        rw [Array.getElem_toList]
        have := Array.getElem?_eq_some_iff.1 ho
        exact this.2
      rw [hd] at h
      unfold wpList at h
      unfold wpOp
      simp only [ho]
      split
      · rename_i hw
        rw [if_pos hw] at h
        exact h.imp (Oper.wp_mono (fun a' w' h' => ih (i + 1) _ a' w' (by omega) (by omega) (hU.next hlt) (by omega) h')) id
      · rename_i hw
        rw [if_neg hw] at h
        exact ih (i + 1) _ _ w (by omega) (by omega) (hU.next hlt) (by omega) h
theorem tails_Q {ops ops' : Array Oper} {n : Nat} {Q : Act → Prop} (hsz : ops'.size = ops.size) (htl : ∀ i, n ≤ i → ∀ o, ops[i]? = some o → ops'[i]? = some (tw o)) (hT : tailsB ops n = true)
    (hrdy : ∀ listed i, i ∈ Region.ready .any ops' listed ↔ i ∈ Region.ready .any ops listed) : ∀ (fuel m : Nat) (listed : Array Bool) (a : Act), n ≤ m → m ≤ ops.size → Upto ops.size m listed → wpAnyQ P .any ops' C Q fuel listed a → ops.size - m ≤ fuel ∧ Q a := by
  intro fuel
  induction fuel with
  | zero =>
    intro m listed a hn hm hU h
    refine ⟨?_, h.2⟩
    by_cases hlt : m < ops.size
    · have := (hrdy _ _).2 ((hU.ready hT hn m).2 ⟨rfl, hlt⟩)
      rw [h.1] at this
      cases this
    · omega
  | succ fuel ih =>
    intro m listed a hn hm hU h
    by_cases hlt : m < ops.size
    · obtain ⟨o, ho⟩ : ∃ o, ops[m]? = some o := ⟨_, Array.getElem?_eq_getElem hlt⟩
      have hq := h.2 m ((hrdy _ _).2 ((hU.ready hT hn m).2 ⟨rfl, hlt⟩))
      unfold qOp at hq
      simp only [htl m hn o ho] at hq
      have hwt : Region.wanted (tw o) (yielded ops' a.tmps) = true := by simp [Region.wanted, tw]
      simp only [hwt, if_true] at hq
      obtain ⟨v, -, hk⟩ := hq
      have e : a.put (tw o).dst v = a := by simp [tw, Act.put]
      rw [e] at hk
      have := ih (m + 1) _ a (by omega) (by omega) (hU.next hlt) hk
      exact ⟨by omega, this.2⟩
    · refine ⟨by omega, h.1 ?_⟩
      rw [List.eq_nil_iff_forall_not_mem]
      intro i hi
      have := (hU.ready hT hn i).1 ((hrdy _ _).1 hi)
      omega
theorem wpAny_tails {ops ops' : Array Oper} {n : Nat} {Q : Act → Prop} {Q' : Exit → Act → World → Prop} (hsz : ops'.size = ops.size) (hns : n ≤ ops.size) (hsame : ∀ i, i < n → ops'[i]? = ops[i]?)
    (htl : ∀ i, n ≤ i → ∀ o, ops[i]? = some o → ops'[i]? = some (tw o)) (hT : tailsB ops n = true) (hQ : ∀ a w, C w → Q a → wpList P ops Q' (ops.toList.drop n) a w) : ∀ (fuel : Nat) (listed : Array Bool) (a : Act) (w : World),
    C w → listed.size = ops.size → (∀ j, n ≤ j → j < ops.size → listed.getD j true = false) → wpAnyQ P .any ops' C Q fuel listed a → wpAny P .any ops Q' fuel listed a w := by
  have hrdy : ∀ listed i, i ∈ Region.ready .any ops' listed ↔ i ∈ Region.ready .any ops listed := by
    intro listed i
    rw [mem_ready, mem_ready]
    by_cases hin : i < n
    · rw [hsame i hin]
    · constructor
      · rintro ⟨h0, o', ho', hl⟩
        have hlt := (Array.getElem?_eq_some_iff.1 ho').1
        obtain ⟨o, ho⟩ : ∃ o, ops[i]? = some o := ⟨_, Array.getElem?_eq_getElem (by omega)⟩
        rw [htl i (by omega) o ho] at ho'
        cases ho'
        exact ⟨h0, o, ho, hl⟩
      · rintro ⟨h0, o, ho, hl⟩
        exact ⟨h0, tw o, htl i (by omega) o ho, hl⟩
  have hwant : ∀ i, i < n → ∀ o, ops[i]? = some o → ∀ t, Region.wanted o (yielded ops' t) = Region.wanted o (yielded ops t) := by
    intro i hi o ho t
    unfold Region.wanted
    cases hg : o.guard with
    | none => rfl
    | some p =>
      obtain ⟨k, b⟩ := p
      have hk := (tailsB_at hT ho).2.2 hi k b hg
      have : yielded ops' t k = yielded ops t k := by unfold yielded; rw [hsame k hk]
      simp only [this]
  intro fuel
  induction fuel with
  | zero =>
    intro listed a w hw hs hun h
    by_cases hall : ∀ i, i < n → listed.getD i true = true
    · have hU : Upto ops.size n listed := ⟨hs, fun i hi => by
        by_cases hin : i < n
        · rw [hall i hin]; simp [hin]
        · rw [hun i (by omega) hi]; simp [hin]⟩
      obtain ⟨hf, hq⟩ := tails_Q (P := P) (C := C) hsz htl hT hrdy 0 n listed a (Nat.le_refl _) hns hU h
      exact tails_any hT 0 n listed a w (Nat.le_refl _) hns hU hf (hQ a w hw hq)
    · exfalso
      simp only [Classical.not_forall] at hall
      obtain ⟨i, hi, hn⟩ := hall
      obtain ⟨j, hj⟩ := ready_some (ops := ops) (fun j o h => (tailsB_at hT h).1) hs (i + 1) i (by omega) (by omega) (by simpa using hn)
      have := (hrdy _ _).2 hj
      rw [h.1] at this
      cases this
  | succ fuel ih =>
    intro listed a w hw hs hun h
    by_cases hall : ∀ i, i < n → listed.getD i true = true
    · have hU : Upto ops.size n listed := ⟨hs, fun i hi => by
        by_cases hin : i < n
        · rw [hall i hin]; simp [hin]
        · rw [hun i (by omega) hi]; simp [hin]⟩
      obtain ⟨hf, hq⟩ := tails_Q (P := P) (C := C) hsz htl hT hrdy (fuel + 1) n listed a (Nat.le_refl _) hns hU h
      exact tails_any hT (fuel + 1) n listed a w (Nat.le_refl _) hns hU hf (hQ a w hw hq)
    · simp only [Classical.not_forall] at hall
      obtain ⟨i0, hi0, hn0⟩ := hall
      refine ⟨fun he => ?_, fun i hi => ?_⟩
      · obtain ⟨j, hj⟩ := ready_some (ops := ops) (fun j o h => (tailsB_at hT h).1) hs (i0 + 1) i0 (by omega) (by omega) (by simpa using hn0)
        rw [he] at hj
        cases hj
      · have hq := h.2 i ((hrdy _ _).2 hi)
        obtain ⟨h0, o, ho, hl⟩ := mem_ready.1 hi
        have hin : i < n := by
          rcases Nat.lt_or_ge i n with h' | h'
          · exact h'
          · exfalso
            obtain ⟨e, he, hb, heq⟩ := (tailsB_at hT ho).2.1 h' i0 (by omega)
            have h1 := hl e he hb
            rw [heq] at h1
            have hls : i0 < listed.size := by omega
            simp [hls] at h1 hn0
            rw [h1] at hn0
            cases hn0
        have hq' : qOp P ops C i (wpAnyQ P .any ops' C Q fuel (listed.setIfInBounds i true)) a := by
          unfold qOp at hq ⊢
          rw [hsame i hin] at hq
          simp only [ho] at hq ⊢
          rw [hwant i hin o ho] at hq
          exact hq
        exact wpOp_of_qOp hw (fun a' w' hw' hk => ih (listed.setIfInBounds i true) a' w' hw' (by simpa using hs) (fun j hj1 hj2 => by rw [getD_set_ne true (by omega)]; exact hun j hj1 hj2) hk) hq'
theorem wpQuiet_tails {ops : Array Oper} {Q : Act → Prop} : ∀ (tl l : List Oper) (a : Act), wpQuiet P ops C Q l a → wpQuiet P ops C Q (l ++ tl.map tw) a
  | [], l, a, h => by simpa using h
  | o :: tl, [], a, h => by
    show wpQuiet P ops C Q (tw o :: tl.map tw) a
    refine wpQuiet_step fun K hK => ?_
    have hwt : Region.wanted (tw o) (yielded ops a.tmps) = true := by simp [Region.wanted, tw]
    rw [if_pos hwt]
    have e : a.put (tw o).dst undef = a := by simp [tw, Act.put]
    refine ⟨undef, fun w _ => ?_, ?_⟩
    · unfold Oper.quietAt tw
      simp [execOp, Oper.quietUpon, go_sem]
    · rw [e]
      exact hK _ (by have := wpQuiet_tails tl [] a h; simpa using this)
  | o :: tl, x :: l, a, h => by
    unfold wpQuiet at h
    show wpQuiet P ops C Q (x :: (l ++ (o :: tl).map tw)) a
    unfold wpQuiet
    split
    · rename_i hw
      rw [if_pos hw] at h
      exact Oper.quiet_mono (fun a h => wpQuiet_tails (o :: tl) l a h) h
    · rename_i hw
      rw [if_neg hw] at h
      exact wpQuiet_tails (o :: tl) l _ h
/-- The law: 'n' is how many operations stand ahead of the last ones. -/
theorem wp_region_tails {id : Nat} (n : Nat) {Q : Exit → Act → World → Prop} {a : Act} {w : World} {l : List Oper} (hn : n ≤ l.length)
    (hm : P.follows .mixedOrders = true) (hB : Region.lexB .any (l.take n ++ (l.drop n).map tw).toArray = true) (hT : tailsB l.toArray n = true) (hC : C { w with drawn := w.drawn + 1 })
    (h : wpQuiet P (l.take n ++ (l.drop n).map tw).toArray C (fun a' => ∀ w', C w' → wpList P l.toArray Q (l.drop n) a' w') (l.take n) a) : (Code.region id l.toArray true).wp P Q a w := by
  have hB' := hB
  simp only [Region.lexB, Bool.and_eq_true] at hB
  refine wp_region_any hm ?_
  have hw := wpQuiet_tails (l.drop n) (l.take n) a h
  have hx := wpAnyQ_lex (C := C) (md := .any) hB.1 (l.take n ++ (l.drop n).map tw) 0 (Array.replicate (l.take n ++ (l.drop n).map tw).toArray.size false) a (by simp) (by simpa using hB.2) hw
  have hlen : (l.take n ++ (l.drop n).map tw).length = l.length := by simp; omega
  have hz' : (l.take n ++ (l.drop n).map tw).toArray.size = l.length := by simpa using hlen
  have hz : l.toArray.size = l.length := by simp
  rw [hlen, hz'] at hx
  rw [hz]
  refine wpAny_tails (ops := l.toArray) (ops' := (l.take n ++ (l.drop n).map tw).toArray) (n := n) (by rw [hz', hz]) (by simpa using hn) ?_ ?_ hT (fun a w hw h => h w hw) l.length _ a _ hC (by simp) (fun j h1 h2 => by
    simp at h2
    simp [h2]) hx
  · intro i hi
    simp [List.getElem?_append_left (show i < (l.take n).length by simp; omega), hi]
  · intro i hi o ho
    have ho' : l[i]? = some o := by simpa using ho
    have : (l.take n).length = n := by simp; omega
    simp [List.getElem?_append_right (show (l.take n).length ≤ i by omega), this, ho', show n + (i - n) = i by omega]
end
end Go.Proofs.YthbbgkpkijlclaaDoor.num
