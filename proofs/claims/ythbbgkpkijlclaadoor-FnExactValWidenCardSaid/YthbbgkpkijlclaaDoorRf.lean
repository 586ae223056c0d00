/-
  A region that draws its order and lays blocks of its own at free places in that order, whose other operations read or call (callees lay new blocks), and whose last operations wait for all: one walk of the others, whatever world it begins in, then the last ones, the new blocks told by what they hold.
-/
import Derived.Test.YthbbgkpkijlclaaDoorRt2
import Derived.Test.YthbbgkpkijlclaaDoorSa
namespace Go.Proofs.YthbbgkpkijlclaaDoor.num
open Go.ChangeShapes Go.WideShapes Go.ChangeAt Go.RowKit
set_option linter.unusedVariables false
section
variable {P : Program}

/-- The free operations: number, slot, the block that is laid. -/
abbrev Fr := List (Nat × Tmp × Obj)
def ptr0 (b : Nat) : Value := .pointer (some ⟨b, 0, none⟩)
/-- The frame of the run against that of the walk: slots of free operations hold pointers, once these have come up. -/
structure RelF (fr : Fr) (listed : Array Bool) (g : Nat → Nat) (aq ar : Act) : Prop where
  defers : ar.defers = aq.defers
  size : ar.tmps.size = aq.tmps.size
  same : ∀ s, (∀ e ∈ fr, e.2.1 ≠ s) → ar.tmps[s]? = aq.tmps[s]?
  ptr : ∀ e ∈ fr, listed.getD e.1 true = true → ar.tmps[e.2.1]? = some (ptr0 (g e.1))
structure FxF (fr : Fr) (listed : Array Bool) (g : Nat → Nat) (w0 w : World) : Prop where
  at' : ∀ e ∈ fr, listed.getD e.1 true = true → w0.heap.size ≤ g e.1 ∧ g e.1 < w.heap.size ∧ w.heap[g e.1]? = some e.2.2
  apart : ∀ e ∈ fr, ∀ e' ∈ fr, listed.getD e.1 true = true → listed.getD e'.1 true = true → e.1 ≠ e'.1 → g e.1 ≠ g e'.1
theorem put_slot_ne {a : Act} {dst : Option Tmp} {v : Value} {d : Tmp} (h : dst ≠ some d) : (a.put dst v).tmps[d]? = a.tmps[d]? := by
  cases dst with
  | none => rfl
  | some e =>
    have hne : e ≠ d := fun k => h (by rw [k])
    simp [Act.put, Array.getElem?_setIfInBounds_ne hne]
theorem put_size (a : Act) (dst : Option Tmp) (v : Value) : (a.put dst v).tmps.size = a.tmps.size := by
  cases dst with
  | none => rfl
  | some e => simp [Act.put]
theorem put_defers (a : Act) (dst : Option Tmp) (v : Value) : (a.put dst v).defers = a.defers := by
  cases dst <;> rfl
theorem put_slot (a : Act) (d : Tmp) (v : Value) (h : d < a.tmps.size) : (a.put (some d) v).tmps[d]? = some v := by
  simp [Act.put, h]
theorem put_out (a : Act) (d : Tmp) (v : Value) (h : ¬ d < a.tmps.size) : a.put (some d) v = a := by
  simp [Act.put, Array.setIfInBounds, h]
theorem getD_set_of {listed : Array Bool} {i j : Nat} (h : (listed.setIfInBounds i true).getD j true = false) : j ≠ i ∧ listed.getD j true = false := by
  by_cases hij : i = j
  · subst hij
    by_cases hlt : i < listed.size
    · simp [hlt] at h
    · simp [hlt] at h
  · exact ⟨Ne.symm hij, by rwa [getD_set_ne true hij] at h⟩
theorem slotA {ops' : Array Oper} {C : World → Prop} {A : Act} {d : Tmp} : ∀ (fuel : Nat) (listed : Array Bool) (a : Act), (∀ j o, ops'[j]? = some o → listed.getD j true = false → o.dst ≠ some d) →
    wpAnyQ P .any ops' C (fun a' => a' = A) fuel listed a → A.tmps[d]? = a.tmps[d]? := by
  intro fuel
  induction fuel with
  | zero => intro listed a _ h; rw [h.2]
  | succ fuel ih =>
    intro listed a hd h
    by_cases hr : Region.ready .any ops' listed = []
    · rw [h.1 hr]
    · obtain ⟨i, hi⟩ := List.exists_mem_of_ne_nil _ hr
      have hq := h.2 i hi
      obtain ⟨h0, o, ho, -⟩ := mem_ready.1 hi
      have hdo := hd i o ho h0
      unfold qOp at hq
      simp only [ho] at hq
      have key : ∀ v, wpAnyQ P .any ops' C (fun a' => a' = A) fuel (listed.setIfInBounds i true) (a.put o.dst v) → A.tmps[d]? = a.tmps[d]? := fun v hv => by
        rw [ih _ _ (fun j o' ho' hl => hd j o' ho' (getD_set_of hl).2) hv, put_slot_ne hdo]
      split at hq
      · obtain ⟨v, -, hk⟩ := hq
        exact key v hk
      · exact key _ hq
/-- The value that the walk ends with in a slot. -/
def vA (A : Act) : Option Tmp → Value
  | some d => A.tmps.getD d undef
  | none => undef
theorem put_final {ops' : Array Oper} {C : World → Prop} {A : Act} {dst : Option Tmp} {fuel : Nat} {listed : Array Bool} {a : Act} {v : Value}
    (hd : ∀ d, dst = some d → ∀ j o, ops'[j]? = some o → listed.getD j true = false → o.dst ≠ some d)
    (h : wpAnyQ P .any ops' C (fun a' => a' = A) fuel listed (a.put dst v)) : a.put dst v = a.put dst (vA A dst) := by
  cases dst with
  | none => rfl
  | some d =>
    have hs := slotA fuel listed _ (hd d rfl) h
    by_cases hlt : d < a.tmps.size
    · rw [put_slot a d v hlt] at hs
      have : vA A (some d) = v := by
        unfold vA
        simp [Array.getD_eq_getD_getElem?, hs]
      rw [this]
    · rw [put_out a d v hlt, put_out a d _ hlt]
theorem wp_of_quietR {o : Oper} {a a' : Act} {w : World} {v : Value} {K : Act → World → Prop} {Q' : Exit → Act → World → Prop} (he : execOp a'.eval o = execOp a.eval o)
    (h : o.quietAt P a (fun w' => ∃ p : Over w, w' = p.w) w v) (hK : ∀ w', Below w.heap.size w w' → K (a'.put o.dst v) w') : o.wp P a' w K Q' := by
  unfold Oper.quietAt at h
  unfold Oper.wp
  rw [he]
  generalize (execOp a.eval o).run P w = r at *
  cases r with
  | ok nx w' =>
    cases nx <;> simp only [Oper.quietUpon] at h <;> simp only [Oper.upon]
    case value u =>
      obtain ⟨e1, e2⟩ := h
      rw [e1, e2]
      exact hK _ (Below.refl _ _)
    case skip =>
      obtain ⟨e1, e2⟩ := h
      rw [e1, ← e2]
      exact hK _ (Below.refl _ _)
    case enter f args =>
      obtain ⟨e1, hc⟩ := h
      rw [e1]
      exact hc.mono fun e w'' ⟨he, p, hp⟩ => by subst he; rw [hp]; exact hK _ p.below
  | halt x w' => simp only [Oper.quietUpon] at h
theorem RelF.eval {fr : Fr} {listed : Array Bool} {g : Nat → Nat} {aq ar : Act} (h : RelF fr listed g aq ar) {ops : Array Oper} {o : Oper} (hs : ∀ cs b, o.op ≠ .select cs b) (hL : ∀ e ∈ fr, e.2.1 ∉ o.looksAt ops) :
    execOp ar.eval o = execOp aq.eval o := by
  refine execOp_congr o hs fun x hx => ?_
  cases x with
  | tmp t =>
    have hm : t ∈ o.looksAt ops := List.mem_append_left _ (List.mem_filterMap.2 ⟨.tmp t, by simpa using hx, rfl⟩)
    have := h.same t (fun e he hh => hL e he (by rw [hh]; exact hm))
    simp only [Act.eval]
    rw [Array.getD_eq_getD_getElem?, Array.getD_eq_getD_getElem?, this]
  | _ => rfl
theorem RelF.wanted {fr : Fr} {listed : Array Bool} {g : Nat → Nat} {aq ar : Act} (h : RelF fr listed g aq ar) {ops : Array Oper} {o : Oper} (hL : ∀ e ∈ fr, e.2.1 ∉ o.looksAt ops) :
    Region.wanted o (yielded ops ar.tmps) = Region.wanted o (yielded ops aq.tmps) := by
  unfold Region.wanted
  cases hg : o.guard with
  | none => rfl
  | some gw =>
    obtain ⟨k, want⟩ := gw
    have hy : yielded ops ar.tmps k = yielded ops aq.tmps k := by
      unfold yielded
      cases ht : (ops[k]?).bind (·.dst) with
      | none => rfl
      | some t =>
        have hm : t ∈ o.looksAt ops := by simp [Oper.looksAt, hg, ht]
        have := h.same t (fun e he hh => hL e he (by rw [hh]; exact hm))
        simp [this]
    simp only [hy]
theorem RelF.step {fr : Fr} {listed : Array Bool} {g : Nat → Nat} {aq ar : Act} (h : RelF fr listed g aq ar) {i : Nat} {dst : Option Tmp} (v : Value) (hi : ∀ e ∈ fr, e.1 ≠ i) (hd : ∀ e ∈ fr, dst ≠ some e.2.1) :
    RelF fr (listed.setIfInBounds i true) g (aq.put dst v) (ar.put dst v) := by
  refine ⟨by rw [put_defers, put_defers, h.defers], by rw [put_size, put_size, h.size], fun s hs => ?_, fun e he hl => ?_⟩
  · by_cases hds : dst = some s
    · subst hds
      by_cases hlt : s < aq.tmps.size
      · rw [put_slot _ _ _ hlt, put_slot _ _ _ (by rw [h.size]; exact hlt)]
      · rw [put_out aq s v hlt, put_out ar s v (by rw [h.size]; exact hlt), h.same s hs]
    · rw [put_slot_ne hds, put_slot_ne hds, h.same s hs]
  · rw [put_slot_ne (hd e he)]
    rw [getD_set_ne true (Ne.symm (hi e he))] at hl
    exact h.ptr e he hl
/-- One operation waits for another one, by way of others too. -/
def reachB (ops : Array Oper) : Nat → Nat → Nat → Bool
  | 0, _, _ => false
  | f + 1, j, i => match ops[j]? with
    | some o => o.after.any fun e => Region.binds .any e && (e.on == i || reachB ops f e.on i)
    | none => false
/-- As tailsB; the last ones may wait by way of others. -/
def tailsC (ops : Array Oper) (n : Nat) : Bool :=
  (List.range ops.size).all fun j => match ops[j]? with
    | some o => (o.after.all fun e => decide (e.on < j)) && (if n ≤ j then (List.range j).all fun i => reachB ops ops.size j i else match o.guard with | some (k, _) => decide (k < n) | none => true)
    | none => false
theorem tailsC_at {ops : Array Oper} {n : Nat} (h : tailsC ops n = true) {j : Nat} {o : Oper} (ho : ops[j]? = some o) :
    (∀ e ∈ o.after, e.on < j) ∧ (n ≤ j → ∀ i, i < j → reachB ops ops.size j i = true) ∧ (j < n → ∀ k b, o.guard = some (k, b) → k < n) := by
  have h1 := List.all_eq_true.1 h j (List.mem_range.2 (Array.getElem?_eq_some_iff.1 ho).1)
  simp only [ho, Bool.and_eq_true] at h1
  refine ⟨fun e he => ?_, fun hn i hi => ?_, fun hn k b hg => ?_⟩
  · have := Array.all_eq_true_iff_forall_mem.1 h1.1 e he
    simpa using this
  · have h2 := h1.2
    rw [if_pos hn] at h2
    exact List.all_eq_true.1 h2 i (List.mem_range.2 hi)
  · have h2 := h1.2
    rw [if_neg (by omega), hg] at h2
    simpa using h2
/-- What is listed has all listed that it waits for. -/
def ClosedF (ops : Array Oper) (listed : Array Bool) : Prop :=
  ∀ (j : Nat) (o : Oper), ops[j]? = some o → listed.getD j false = true → ∀ e ∈ o.after, Region.binds .any e = true → listed.getD e.on false = true
theorem reach_listed {ops : Array Oper} {listed : Array Bool} (hc : ClosedF ops listed) : ∀ (f j i : Nat), reachB ops f j i = true →
    (∀ o, ops[j]? = some o → ∀ e ∈ o.after, Region.binds .any e = true → listed.getD e.on false = true) → listed.getD i false = true := by
  intro f
  induction f with
  | zero => intro j i h; cases h
  | succ f ih =>
    intro j i h hj
    unfold reachB at h
    cases ho : ops[j]? with
    | none => rw [ho] at h; cases h
    | some o =>
      rw [ho] at h
      obtain ⟨e, he, hb⟩ := Array.any_eq_true'.1 h
      simp only [Bool.and_eq_true, Bool.or_eq_true, beq_iff_eq] at hb
      have hl := hj o ho e he hb.1
      rcases hb.2 with hb2 | hb2
      · rwa [hb2] at hl
      · exact ih e.on i hb2 (fun o' ho' e' he' hb' => hc e.on o' ho' hl e' he' hb')
theorem ClosedF.step {ops : Array Oper} {listed : Array Bool} (hc : ClosedF ops listed) {i : Nat} (hi : i ∈ Region.ready .any ops listed) : ClosedF ops (listed.setIfInBounds i true) := by
  obtain ⟨h0, o, ho, hl⟩ := mem_ready.1 hi
  intro j o' ho' hj e he hb
  have key : ∀ k, listed.getD k false = true → (listed.setIfInBounds i true).getD k false = true := by
    intro k hk
    by_cases hik : i = k
    · subst hik
      have hlt : i < listed.size := by
        rcases Nat.lt_or_ge i listed.size with h' | h'
        · exact h'
        · simp [Array.getElem?_eq_none h'] at hk
      simp [hlt]
    · rw [getD_set_ne false hik]; exact hk
  refine key _ ?_
  by_cases hij : i = j
  · subst hij
    rw [ho] at ho'
    cases ho'
    exact hl e he hb
  · rw [getD_set_ne false hij] at hj
    exact hc j o' ho' hj e he hb
theorem Upto.closed {ops : Array Oper} {n m : Nat} {listed : Array Bool} (hT : tailsC ops n = true) (h : Upto ops.size m listed) : ClosedF ops listed := by
  intro j o ho hj e he hb
  have hlt := (Array.getElem?_eq_some_iff.1 ho).1
  have h1 := (tailsC_at hT ho).1 e he
  have h2 := h.2 e.on (by omega)
  have h3 := h.2 j hlt
  have hls : j < listed.size := by rw [h.1]; exact hlt
  have hls' : e.on < listed.size := by omega
  simp [hls, hls'] at h2 h3 hj ⊢
  rw [hj] at h3
  have : j < m := by simpa using h3.symm
  rw [h2]
  simp
  omega
theorem Upto.readyC {ops : Array Oper} {n m : Nat} {listed : Array Bool} (hT : tailsC ops n = true) (hn : n ≤ m) (h : Upto ops.size m listed) (i : Nat) : i ∈ Region.ready .any ops listed ↔ i = m ∧ m < ops.size := by
  rw [mem_ready]
  constructor
  · rintro ⟨h0, o, ho, hall⟩
    have hlt := (Array.getElem?_eq_some_iff.1 ho).1
    rw [h.2 i hlt, decide_eq_false_iff_not] at h0
    by_cases him : i = m
    · exact ⟨him, by omega⟩
    · exfalso
      have hr := (tailsC_at hT ho).2.1 (by omega) m (by omega)
      have h1 := reach_listed (h.closed hT) _ i m hr (fun o' ho' => by rw [ho] at ho'; cases ho'; exact hall)
      have h2 := h.2 m (by omega)
      have hls : m < listed.size := by rw [h.1]; omega
      simp [hls] at h1 h2
      rw [h1] at h2
      cases h2
  · rintro ⟨rfl, hlt⟩
    obtain ⟨o, ho⟩ : ∃ o, ops[i]? = some o := ⟨_, Array.getElem?_eq_getElem hlt⟩
    refine ⟨by rw [h.2 i hlt]; simp, o, ho, fun e he hb => ?_⟩
    have h1 := (tailsC_at hT ho).1 e he
    have h2 := h.2 e.on (by omega)
    have hls : e.on < listed.size := by rw [h.1]; omega
    simp [hls, h1] at h2 ⊢
    exact h2
theorem tails_anyC {ops : Array Oper} {n : Nat} {Q' : Exit → Act → World → Prop} (hT : tailsC ops n = true) : ∀ (fuel m : Nat) (listed : Array Bool) (a : Act) (w : World), n ≤ m → m ≤ ops.size → Upto ops.size m listed → ops.size - m ≤ fuel →
    wpList P ops Q' (ops.toList.drop m) a w → wpAny P .any ops Q' fuel listed a w := by
  intro fuel
  induction fuel with
  | zero =>
    intro m listed a w hn hm hU hf h
    have hm2 : m = ops.size := by omega
    subst hm2
    have hd : ops.toList.drop ops.size = [] := by simp
    rw [hd] at h
    refine ⟨?_, h⟩
    rw [List.eq_nil_iff_forall_not_mem]
    intro i hi
    have := (hU.readyC hT hn i).1 hi
    omega
  | succ fuel ih =>
    intro m listed a w hn hm hU hf h
    refine ⟨fun he => ?_, fun i hi => ?_⟩
    · by_cases hlt : m < ops.size
      · have := (hU.readyC hT hn m).2 ⟨rfl, hlt⟩
        rw [he] at this
        cases this
      · have hm2 : m = ops.size := by omega
        subst hm2
        have hd : ops.toList.drop ops.size = [] := by simp
        rw [hd] at h
        exact h
    · obtain ⟨rfl, hlt⟩ := (hU.readyC hT hn i).1 hi
      obtain ⟨o, ho⟩ : ∃ o, ops[i]? = some o := ⟨_, Array.getElem?_eq_getElem hlt⟩
      have hd : ops.toList.drop i = o :: ops.toList.drop (i + 1) := by
        have hl : i < ops.toList.length := by simpa using hlt
        rw [List.drop_eq_getElem_cons hl]
        congr 1
        rw [Array.getElem_toList]
        have := Array.getElem?_eq_some_iff.1 ho
        exact this.2
      rw [hd] at h
      unfold wpList at h
      unfold wpOp
      simp only [ho]
      split
      · rename_i hw
        rw [if_pos hw] at h
        exact h.imp (Oper.wp_mono (fun a' w' h' => ih (i + 1) _ a' w' (by omega) (by omega) (hU.next hlt) (by omega) h')) id
      · rename_i hw
        rw [if_neg hw] at h
        exact ih (i + 1) _ _ w (by omega) (by omega) (hU.next hlt) (by omega) h
theorem tails_QC {C : World → Prop} {ops ops' : Array Oper} {n : Nat} {Q : Act → Prop} (hsz : ops'.size = ops.size) (htl : ∀ i, n ≤ i → ∀ o, ops[i]? = some o → ops'[i]? = some (tw o)) (hT : tailsC ops n = true)
    (hrdy : ∀ listed i, i ∈ Region.ready .any ops' listed ↔ i ∈ Region.ready .any ops listed) : ∀ (fuel m : Nat) (listed : Array Bool) (a : Act), n ≤ m → m ≤ ops.size → Upto ops.size m listed → wpAnyQ P .any ops' C Q fuel listed a → ops.size - m ≤ fuel ∧ Q a := by
  intro fuel
  induction fuel with
  | zero =>
    intro m listed a hn hm hU h
    refine ⟨?_, h.2⟩
    by_cases hlt : m < ops.size
    · have := (hrdy _ _).2 ((hU.readyC hT hn m).2 ⟨rfl, hlt⟩)
      rw [h.1] at this
      cases this
    · omega
  | succ fuel ih =>
    intro m listed a hn hm hU h
    by_cases hlt : m < ops.size
    · obtain ⟨o, ho⟩ : ∃ o, ops[m]? = some o := ⟨_, Array.getElem?_eq_getElem hlt⟩
      have hq := h.2 m ((hrdy _ _).2 ((hU.readyC hT hn m).2 ⟨rfl, hlt⟩))
      unfold qOp at hq
      simp only [htl m hn o ho] at hq
      have hwt : Region.wanted (tw o) (yielded ops' a.tmps) = true := by simp [Region.wanted, tw]
      simp only [hwt, if_true] at hq
      obtain ⟨v, -, hk⟩ := hq
      have e : a.put (tw o).dst v = a := by simp [tw, Act.put]
      rw [e] at hk
      have := ih (m + 1) _ a (by omega) (by omega) (hU.next hlt) hk
      exact ⟨by omega, this.2⟩
    · refine ⟨by omega, h.1 ?_⟩
      rw [List.eq_nil_iff_forall_not_mem]
      intro i hi
      have := (hU.readyC hT hn i).1 ((hrdy _ _).1 hi)
      omega
theorem wpAny_free {ops ops' : Array Oper} {n sz : Nat} {fr : Fr} {A : Act} {w0 : World} {Q' : Exit → Act → World → Prop} (hsz : ops'.size = ops.size) (hns : n ≤ ops.size)
    (hsame : ∀ i, i < n → (∀ e ∈ fr, e.1 ≠ i) → ops'[i]? = ops[i]?)
    (hfr : ∀ e ∈ fr, e.1 < n ∧ e.2.1 < sz ∧ ∃ o, ops[e.1]? = some o ∧ ops'[e.1]? = some (tv o) ∧ o.dst = some e.2.1 ∧ o.guard = none ∧
      ∀ (a : Act) (w : World), (execOp a.eval o).run P w = .ok (.value (ptr0 w.heap.size)) (w.alloc e.2.2))
    (htl : ∀ i, n ≤ i → ∀ o, ops[i]? = some o → ops'[i]? = some (tw o)) (hT : tailsC ops n = true)
    (hD : ∀ (i j : Nat) (o o' : Oper) (d : Tmp), ops'[i]? = some o → ops'[j]? = some o' → o.dst = some d → o'.dst = some d → i = j)
    (hL : ∀ i o, i < n → (∀ e ∈ fr, e.1 ≠ i) → ops[i]? = some o → ∀ e ∈ fr, e.2.1 ∉ o.looksAt ops)
    (hsel : ∀ (j : Nat) (o : Oper) cs b, ops'[j]? = some o → o.op ≠ .select cs b)
    (hU : ∀ e ∈ fr, ∀ e' ∈ fr, e.1 = e'.1 → e = e')
    (hk : ∀ (w' : World) (g : Nat → Nat) (ar : Act) (listed : Array Bool), Below w0.heap.size w0 w' → RelF fr listed g A ar → FxF fr listed g w0 w' → (∀ e ∈ fr, listed.getD e.1 true = true) → wpList P ops Q' (ops.toList.drop n) ar w') :
    ∀ (fuel : Nat) (listed : Array Bool) (g : Nat → Nat) (aq ar : Act) (w : World), Below w0.heap.size w0 w → listed.size = ops.size → ClosedF ops listed → (∀ j, n ≤ j → j < ops.size → listed.getD j true = false) → aq.tmps.size = sz →
      RelF fr listed g aq ar → FxF fr listed g w0 w → (∀ W, Below w0.heap.size w0 W → wpAnyQ P .any ops' (fun w' => ∃ p : Over W, w' = p.w) (fun a' => a' = A) fuel listed aq) → wpAny P .any ops Q' fuel listed ar w := by
  have hdst : ∀ i : Nat, i < n → (ops'[i]?.bind fun x => x.dst) = (ops[i]?.bind fun x => x.dst) := by
    intro i hi
    by_cases hf : ∃ e ∈ fr, e.1 = i
    · obtain ⟨e, he, rfl⟩ := hf
      obtain ⟨-, -, o, ho, ho', -⟩ := hfr e he
      rw [ho, ho']; rfl
    · rw [hsame i hi (fun e he hh => hf ⟨e, he, hh⟩)]
  have hrdy : ∀ listed i, i ∈ Region.ready .any ops' listed ↔ i ∈ Region.ready .any ops listed := by
    intro listed i
    rw [mem_ready, mem_ready]
    by_cases hin : i < n
    · by_cases hf : ∃ e ∈ fr, e.1 = i
      · obtain ⟨e, he, rfl⟩ := hf
        obtain ⟨-, -, o, ho, ho', -⟩ := hfr e he
        rw [ho, ho']
        constructor
        · rintro ⟨h0, o2, h2, hl⟩; cases h2; exact ⟨h0, o, rfl, hl⟩
        · rintro ⟨h0, o2, h2, hl⟩; cases h2; exact ⟨h0, tv o, rfl, hl⟩
      · rw [hsame i hin (fun e he hh => hf ⟨e, he, hh⟩)]
    · constructor
      · rintro ⟨h0, o', ho', hl⟩
        have hlt := (Array.getElem?_eq_some_iff.1 ho').1
        obtain ⟨o, ho⟩ : ∃ o, ops[i]? = some o := ⟨_, Array.getElem?_eq_getElem (by omega)⟩
        rw [htl i (by omega) o ho] at ho'
        cases ho'
        exact ⟨h0, o, ho, hl⟩
      · rintro ⟨h0, o, ho, hl⟩
        exact ⟨h0, tw o, htl i (by omega) o ho, hl⟩
  have hwant : ∀ i, i < n → ∀ o, ops[i]? = some o → ∀ t, Region.wanted o (yielded ops' t) = Region.wanted o (yielded ops t) := by
    intro i hi o ho t
    unfold Region.wanted
    cases hg : o.guard with
    | none => rfl
    | some p =>
      obtain ⟨k, b⟩ := p
      have hk := (tailsC_at hT ho).2.2 hi k b hg
      have : yielded ops' t k = yielded ops t k := by unfold yielded; rw [hdst k hk]
      simp only [this]
  have hend : ∀ (fuel : Nat) (listed : Array Bool) (g : Nat → Nat) (aq ar : Act) (w : World), Below w0.heap.size w0 w → listed.size = ops.size → (∀ j, n ≤ j → j < ops.size → listed.getD j true = false) →
      RelF fr listed g aq ar → FxF fr listed g w0 w → (∀ W, Below w0.heap.size w0 W → wpAnyQ P .any ops' (fun w' => ∃ p : Over W, w' = p.w) (fun a' => a' = A) fuel listed aq) →
      (∀ i, i < n → listed.getD i true = true) → wpAny P .any ops Q' fuel listed ar w := by
    intro fuel listed g aq ar w hB hs hun hR hF hW hall
    have hU' : Upto ops.size n listed := ⟨hs, fun i hi => by
      by_cases hin : i < n
      · rw [hall i hin]; simp [hin]
      · rw [hun i (by omega) hi]; simp [hin]⟩
    obtain ⟨hf, hq⟩ := tails_QC (P := P) hsz htl hT hrdy fuel n listed aq (Nat.le_refl _) hns hU' (hW w hB)
    subst hq
    exact tails_anyC hT fuel n listed ar w (Nat.le_refl _) hns hU' hf (hk w g ar listed hB hR hF (fun e he => hall e.1 (hfr e he).1))
  intro fuel
  induction fuel with
  | zero =>
    intro listed g aq ar w hB hs hcl hun hz hR hF hW
    by_cases hall : ∀ i, i < n → listed.getD i true = true
    · exact hend 0 listed g aq ar w hB hs hun hR hF hW hall
    · exfalso
      simp only [Classical.not_forall] at hall
      obtain ⟨i, hi, hn⟩ := hall
      obtain ⟨j, hj⟩ := ready_some (ops := ops) (fun j o h => (tailsC_at hT h).1) hs (i + 1) i (by omega) (by omega) (by simpa using hn)
      have := (hrdy _ _).2 hj
      rw [(hW w hB).1] at this
      cases this
  | succ fuel ih =>
    intro listed g aq ar w hB hs hcl hun hz hR hF hW
    by_cases hall : ∀ i, i < n → listed.getD i true = true
    · exact hend (fuel + 1) listed g aq ar w hB hs hun hR hF hW hall
    · simp only [Classical.not_forall] at hall
      obtain ⟨i0, hi0, hn0⟩ := hall
      refine ⟨fun he => ?_, fun i hi => ?_⟩
      · obtain ⟨j, hj⟩ := ready_some (ops := ops) (fun j o h => (tailsC_at hT h).1) hs (i0 + 1) i0 (by omega) (by omega) (by simpa using hn0)
        rw [he] at hj
        cases hj
      · obtain ⟨h0, o, ho, hl⟩ := mem_ready.1 hi
        have hin : i < n := by
          rcases Nat.lt_or_ge i n with h' | h'
          · exact h'
          · exfalso
            have h1 := reach_listed hcl _ i i0 ((tailsC_at hT ho).2.1 h' i0 (by omega)) (fun o' ho' => by rw [ho] at ho'; cases ho'; exact hl)
            have hls : i0 < listed.size := by omega
            simp [hls] at h1 hn0
            rw [h1] at hn0
            cases hn0
        have hun' : ∀ j, n ≤ j → j < ops.size → (listed.setIfInBounds i true).getD j true = false := fun j hj1 hj2 => by rw [getD_set_ne true (by omega)]; exact hun j hj1 hj2
        have hset : (listed.setIfInBounds i true).getD i true = true := by
          have hlt : i < listed.size := by rw [hs]; omega
          simp [hlt]
        by_cases hf : ∃ e ∈ fr, e.1 = i
        · obtain ⟨e, he, rfl⟩ := hf
          obtain ⟨-, hsl, o', ho1, ho2, hdo, hgo, hrun⟩ := hfr e he
          rw [ho] at ho1
          cases ho1
          unfold wpOp
          simp only [ho]
          have hwt : Region.wanted o (yielded ops ar.tmps) = true := by simp [Region.wanted, hgo]
          simp only [hwt, if_true]
          refine .inl ?_
          unfold Oper.wp
          rw [hrun]
          simp only [Oper.upon]
          have hlt : e.2.1 < aq.tmps.size := by rw [hz]; exact hsl
          have hfz : ∀ e' ∈ fr, e'.1 ≠ e.1 → e'.2.1 ≠ e.2.1 := by
            intro e' he' hne hh
            obtain ⟨-, -, o3, -, ho3, hd3, -, -⟩ := hfr e' he'
            exact hne (hD e'.1 e.1 (tv o3) (tv o) e.2.1 ho3 ho2 (by simp [tv, hd3, hh]) (by simp [tv, hdo]))
          refine ih _ (fun k => if k = e.1 then w.heap.size else g k) (aq.put (some e.2.1) undef) _ _ (hB.alloc hB.size _) (by simpa using hs) (hcl.step hi) hun' (by rw [put_size, hz]) ?_ ?_ ?_
          · rw [hdo]
            refine ⟨by rw [put_defers, put_defers, hR.defers], by rw [put_size, put_size, hR.size], fun s hs' => ?_, fun e' he' hl' => ?_⟩
            · have : (some e.2.1 : Option Tmp) ≠ some s := fun k => hs' e he (by injection k)
              rw [put_slot_ne this, put_slot_ne this, hR.same s hs']
            · by_cases hee : e'.1 = e.1
              · have := hU e' he' e he hee
                subst this
                rw [put_slot _ _ _ (by rw [hR.size]; exact hlt)]
                simp
              · have hne := hfz e' he' hee
                rw [put_slot_ne (fun k => hne (by injection k with k; exact k.symm))]
                rw [getD_set_ne true (Ne.symm hee)] at hl'
                simp only [hee, if_false]
                exact hR.ptr e' he' hl'
          · refine ⟨fun e' he' hl' => ?_, fun e1 he1 e2 he2 hl1 hl2 hne => ?_⟩
            · by_cases hee : e'.1 = e.1
              · have := hU e' he' e he hee
                subst this
                simp only [if_true]
                exact ⟨hB.size, by simp, by show (w.heap.push e'.2.2)[w.heap.size]? = _; simp⟩
              · rw [getD_set_ne true (Ne.symm hee)] at hl'
                simp only [hee, if_false]
                obtain ⟨k1, k2, k3⟩ := hF.at' e' he' hl'
                refine ⟨k1, by simp; omega, ?_⟩
                rw [((Below.refl w.heap.size w).alloc (Nat.le_refl _) e.2.2).block _ k2]
                exact k3
            · by_cases h1 : e1.1 = e.1
              · have h2 : e2.1 ≠ e.1 := fun k => hne (h1.trans k.symm)
                rw [getD_set_ne true (Ne.symm h2)] at hl2
                simp only [h1, h2, if_true, if_false]
                have := (hF.at' e2 he2 hl2).2.1
                omega
              · rw [getD_set_ne true (Ne.symm h1)] at hl1
                have k1 := (hF.at' e1 he1 hl1).2.1
                by_cases h2 : e2.1 = e.1
                · simp only [h1, h2, if_true, if_false]
                  omega
                · rw [getD_set_ne true (Ne.symm h2)] at hl2
                  simp only [h1, h2, if_false]
                  exact hF.apart e1 he1 e2 he2 hl1 hl2 hne
          · intro W hWB
            have hq := (hW W hWB).2 e.1 ((hrdy _ _).2 hi)
            unfold qOp at hq
            simp only [ho2] at hq
            have hwt' : Region.wanted (tv o) (yielded ops' aq.tmps) = true := by simp [Region.wanted, tv, hgo]
            simp only [hwt', if_true] at hq
            obtain ⟨v, hv, hkk⟩ := hq
            have hv' := hv W ⟨⟨W, Below.refl _ _⟩, rfl⟩
            have hvu : v = undef := by
              unfold Oper.quietAt tv at hv'
              simp [execOp, Oper.quietUpon, go_sem] at hv'
              exact hv'.symm
            subst hvu
            have e1 : (tv o).dst = some e.2.1 := by simp [tv, hdo]
            rw [e1] at hkk
            exact hkk
        · have hfi : ∀ e ∈ fr, e.1 ≠ i := fun e he hh => hf ⟨e, he, hh⟩
          have ho' : ops'[i]? = some o := by rw [hsame i hin hfi]; exact ho
          have hLi := hL i o hin hfi ho
          have hdi : ∀ e ∈ fr, o.dst ≠ some e.2.1 := by
            intro e he hh
            obtain ⟨-, -, o3, -, ho3, hd3, -, -⟩ := hfr e he
            exact hfi e he (hD e.1 i (tv o3) o e.2.1 ho3 ho' (by simp [tv, hd3]) hh)
          have hnw : ∀ d, o.dst = some d → ∀ j o', ops'[j]? = some o' → (listed.setIfInBounds i true).getD j true = false → o'.dst ≠ some d := by
            intro d hd j o' hj hlj hh
            exact (getD_set_of hlj).1 (hD j i o' o d hj ho' hh hd)
          -- the walk's value, the same whatever world it began in
          have hfam : ∀ W, Below w0.heap.size w0 W → wpAnyQ P .any ops' (fun w' => ∃ p : Over W, w' = p.w) (fun a' => a' = A) fuel (listed.setIfInBounds i true) (aq.put o.dst (vA A o.dst)) ∧
              (Region.wanted o (yielded ops' aq.tmps) = true → ∃ v, o.quietAt P aq (fun w' => ∃ p : Over W, w' = p.w) W v ∧ aq.put o.dst v = aq.put o.dst (vA A o.dst)) ∧
              (Region.wanted o (yielded ops' aq.tmps) = false → aq.put o.dst undef = aq.put o.dst (vA A o.dst)) := by
            intro W hWB
            have hq := (hW W hWB).2 i ((hrdy _ _).2 hi)
            unfold qOp at hq
            simp only [ho'] at hq
            by_cases hwt : Region.wanted o (yielded ops' aq.tmps) = true
            · rw [if_pos hwt] at hq
              obtain ⟨v, hv, hkk⟩ := hq
              have hp := put_final hnw hkk
              refine ⟨by rw [← hp]; exact hkk, fun _ => ⟨v, hv W ⟨⟨W, Below.refl _ _⟩, rfl⟩, hp⟩, fun k => by rw [hwt] at k; cases k⟩
            · rw [if_neg hwt] at hq
              have hp := put_final hnw hq
              refine ⟨by rw [← hp]; exact hq, fun k => absurd k hwt, fun _ => hp⟩
          unfold wpOp
          simp only [ho]
          rw [hR.wanted hLi, ← hwant i hin o ho]
          have hval : ∀ v, aq.put o.dst v = aq.put o.dst (vA A o.dst) → ar.put o.dst v = ar.put o.dst (vA A o.dst) := by
            intro v hv
            cases hdd : o.dst with
            | none => rfl
            | some d =>
              rw [hdd] at hv
              by_cases hlt : d < aq.tmps.size
              · have h1 := put_slot aq d v hlt
                have h2 := put_slot aq d (vA A (some d)) hlt
                rw [hv, h2] at h1
                injection h1 with h1
                rw [h1]
              · rw [put_out ar d v (by rw [hR.size]; exact hlt), put_out ar d _ (by rw [hR.size]; exact hlt)]
          have hnext : ∀ w', Below w.heap.size w w' → wpAny P .any ops Q' fuel (listed.setIfInBounds i true) (ar.put o.dst (vA A o.dst)) w' := by
            intro w' hb
            refine ih _ g (aq.put o.dst (vA A o.dst)) _ w' (hB.trans (hb.mono hB.size)) (by simpa using hs) (hcl.step hi) hun' (by rw [put_size, hz]) (hR.step _ hfi hdi) ?_ (fun W hWB => (hfam W hWB).1)
            refine ⟨fun e he hl' => ?_, fun e1 he1 e2 he2 hl1 hl2 hne => ?_⟩
            · rw [getD_set_ne true (Ne.symm (hfi e he))] at hl'
              obtain ⟨k1, k2, k3⟩ := hF.at' e he hl'
              exact ⟨k1, Nat.lt_of_lt_of_le k2 hb.size, by rw [hb.block _ k2]; exact k3⟩
            · rw [getD_set_ne true (Ne.symm (hfi e1 he1))] at hl1
              rw [getD_set_ne true (Ne.symm (hfi e2 he2))] at hl2
              exact hF.apart e1 he1 e2 he2 hl1 hl2 hne
          split
          · rename_i hwt
            obtain ⟨v, hv, hp⟩ := (hfam w hB).2.1 hwt
            refine .inl (wp_of_quietR (hR.eval (fun cs b => hsel i o cs b ho') hLi) hv fun w' hb => ?_)
            rw [hval v hp]
            exact hnext w' hb
          · rename_i hwt
            rw [hval undef ((hfam w hB).2.2 (by simpa using hwt))]
            exact hnext w (Below.refl _ _)
end
end Go.Proofs.YthbbgkpkijlclaaDoor.num
