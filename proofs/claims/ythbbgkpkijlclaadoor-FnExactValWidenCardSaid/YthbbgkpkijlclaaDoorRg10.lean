/-
  The law of free blocks, as it is used: one block, two blocks.
-/
import Derived.Test.YthbbgkpkijlclaaDoorRf
import Derived.Test.YthbbgkpkijlclaaDoorLa
namespace Go.Proofs.YthbbgkpkijlclaaDoor.num
open Go.ChangeShapes Go.WideShapes Go.ChangeAt Go.RowKit
set_option linter.unusedVariables false
section
variable {P : Program}

/-- The operations of the walk: in the place of the free ones, and of the last ones, nothing is done. -/
def rep (fs : List Nat) : Nat → Nat → List Oper → List Oper
  | _, _, [] => []
  | i, 0, o :: l => tw o :: rep fs i 0 l
  | i, n + 1, o :: l => (if fs.contains i then tv o else o) :: rep fs (i + 1) n l
theorem rep_get (fs : List Nat) : ∀ (l : List Oper) (i n j : Nat), (rep fs i n l)[j]? = (l[j]?).map fun o => if j < n then (if fs.contains (i + j) then tv o else o) else tw o
  | [], i, n, j => by cases n <;> simp [rep]
  | o :: l, i, 0, 0 => by simp [rep]
  | o :: l, i, 0, j + 1 => by
    have := rep_get fs l i 0 j
    simp only [rep, List.getElem?_cons_succ, this]
    simp
  | o :: l, i, n + 1, 0 => by simp [rep]
  | o :: l, i, n + 1, j + 1 => by
    have := rep_get fs l (i + 1) n j
    simp only [rep, List.getElem?_cons_succ, this]
    rw [show i + 1 + j = i + (j + 1) by omega]
    congr 1
    funext o'
    by_cases h : j < n
    · rw [if_pos h, if_pos (show j + 1 < n + 1 by omega)]
    · rw [if_neg h, if_neg (show ¬ j + 1 < n + 1 by omega)]
theorem rep_length (fs : List Nat) : ∀ (l : List Oper) (i n : Nat), (rep fs i n l).length = l.length
  | [], i, n => by cases n <;> rfl
  | o :: l, i, 0 => by simp [rep, rep_length fs l i 0]
  | o :: l, i, n + 1 => by simp [rep, rep_length fs l (i + 1) n]
theorem rep_split (fs : List Nat) : ∀ (l : List Oper) (i n : Nat), n ≤ l.length → rep fs i n l = (rep fs i n (l.take n)) ++ (l.drop n).map tw
  | l, i, 0, _ => by
    have : ∀ (l : List Oper), rep fs i 0 l = l.map tw := by
      intro l
      induction l with
      | nil => rfl
      | cons o l ih => simp [rep, ih]
    simp [this]
  | [], i, n + 1, h => by simp at h
  | o :: l, i, n + 1, h => by
    have := rep_split fs l (i + 1) n (by simpa using h)
    simp [rep, this]
def freeB (ops ops' : Array Oper) (n sz : Nat) (fs : List (Nat × Tmp)) : Bool :=
  (fs.all fun e => decide (e.1 < n) && decide (e.2 < sz) && match ops[e.1]? with | some o => o.dst == some e.2 && o.guard.isNone | none => false) &&
  ((List.range ops'.size).all fun i => (List.range ops'.size).all fun j => i == j || match ops'[i]?, ops'[j]? with
    | some o, some o' => (match o.dst with | some d => o'.dst != some d | none => true)
    | _, _ => true) &&
  ((List.range n).all fun i => (fs.map (·.1)).contains i || match ops[i]? with
    | some o => fs.all fun e => !(o.looksAt ops).contains e.2
    | none => true)
theorem wp_region_free {id : Nat} (n : Nat) (fr : Fr) {Q : Exit → Act → World → Prop} {a A : Act} {w : World} {l : List Oper} (hn : n ≤ l.length) (hU : ∀ e ∈ fr, ∀ e' ∈ fr, e.1 = e'.1 → e = e')
    (hm : P.follows .mixedOrders = true) (hB : Region.lexB .any (rep (fr.map (·.1)) 0 n l).toArray = true) (hT : tailsC l.toArray n = true)
    (hF : freeB l.toArray (rep (fr.map (·.1)) 0 n l).toArray n a.tmps.size (fr.map fun e => (e.1, e.2.1)) = true)
    (hA : ∀ e ∈ fr, ∀ o, l[e.1]? = some o → ∀ (a : Act) (w : World), (execOp a.eval o).run P w = .ok (.value (ptr0 w.heap.size)) (w.alloc e.2.2))
    (hq : ∀ W, Below w.heap.size w W → wpQuiet P (rep (fr.map (·.1)) 0 n l).toArray (fun w' => ∃ p : Over W, w' = p.w) (fun a' => a' = A) (rep (fr.map (·.1)) 0 n (l.take n)) a)
    (hk : ∀ (w' : World) (g : Nat → Nat) (ar : Act), Below w.heap.size w w' → ar.defers = A.defers → ar.tmps.size = A.tmps.size → (∀ s, (∀ e ∈ fr, e.2.1 ≠ s) → ar.tmps[s]? = A.tmps[s]?) → (∀ e ∈ fr, ar.tmps[e.2.1]? = some (ptr0 (g e.1))) →
      (∀ e ∈ fr, w.heap.size ≤ g e.1 ∧ g e.1 < w'.heap.size ∧ w'.heap[g e.1]? = some e.2.2) → (∀ e ∈ fr, ∀ e' ∈ fr, e.1 ≠ e'.1 → g e.1 ≠ g e'.1) → wpList P l.toArray Q (l.drop n) ar w') : (Code.region id l.toArray true).wp P Q a w := by
  refine wp_region_any hm ?_
  simp only [Region.lexB, Bool.and_eq_true] at hB
  obtain ⟨hns, hlx⟩ := hB
  unfold freeB at hF
  simp only [Bool.and_eq_true] at hF
  obtain ⟨⟨hF1, hF2⟩, hF3⟩ := hF
  have hz : l.toArray.size = l.length := by simp
  have hz' : (rep (fr.map (·.1)) 0 n l).toArray.size = l.length := by simp [rep_length]
  have hget : ∀ j, (rep (fr.map (·.1)) 0 n l).toArray[j]? = (l.toArray[j]?).map fun o => if j < n then (if (fr.map (·.1)).contains j then tv o else o) else tw o := fun j => by
    have := rep_get (fr.map (·.1)) l 0 n j
    simp only [Nat.zero_add] at this
    simpa using this
  have hfam : ∀ W, Below w.heap.size w W → wpAnyQ P .any (rep (fr.map (·.1)) 0 n l).toArray (fun w' => ∃ p : Over W, w' = p.w) (fun a' => a' = A) l.length (Array.replicate l.length false) a := by
    intro W hW
    have h := hq W hW
    have h2 := wpQuiet_tails (l.drop n) (rep (fr.map (·.1)) 0 n (l.take n)) a h
    rw [← rep_split _ l 0 n hn] at h2
    have hx := wpAnyQ_lex (P := P) (C := fun w' => ∃ p : Over W, w' = p.w) (md := .any) hns (rep (fr.map (·.1)) 0 n l) 0 (Array.replicate (rep (fr.map (·.1)) 0 n l).toArray.size false) a (by simp) (by simpa using hlx) h2
    rw [hz', rep_length] at hx
    exact hx
  rw [hz]
  refine wpAny_free (ops := l.toArray) (ops' := (rep (fr.map (·.1)) 0 n l).toArray) (n := n) (sz := a.tmps.size) (fr := fr) (A := A) (w0 := w) (by rw [hz', hz]) (by simpa using hn) ?_ ?_ ?_ hT ?_ ?_ ?_ hU ?_
    l.length _ (fun _ => 0) a a _ (below_drewN (Below.refl _ _) 1) (by simp) (fun j o ho hj => by exfalso; have hlt := (Array.getElem?_eq_some_iff.1 ho).1; simp at hlt; simp [hlt] at hj) (fun j h1 h2 => by simp at h2; simp [h2]) rfl ?_ ?_ hfam
  · intro i hi hf
    rw [hget]
    have : (fr.map (·.1)).contains i = false := by
      rw [Bool.eq_false_iff]
      intro hc
      rw [List.contains_iff_mem] at hc
      obtain ⟨e, he, hh⟩ := List.mem_map.1 hc
      exact hf e he hh
    simp only [hi, if_true, this, Bool.false_eq_true, if_false]
    simp
  · intro e he
    have h1 := List.all_eq_true.1 hF1 (e.1, e.2.1) (List.mem_map.2 ⟨e, he, rfl⟩)
    simp only [Bool.and_eq_true, decide_eq_true_eq] at h1
    obtain ⟨⟨hen, hes⟩, h2⟩ := h1
    cases ho : l.toArray[e.1]? with
    | none => rw [ho] at h2; cases h2
    | some o =>
      rw [ho] at h2
      simp only [Bool.and_eq_true, beq_iff_eq] at h2
      refine ⟨hen, hes, o, rfl, ?_, h2.1, by simpa using h2.2, hA e he o (by simpa using ho)⟩
      rw [hget, ho]
      have hc : (fr.map (·.1)).contains e.1 = true := by rw [List.contains_iff_mem]; exact List.mem_map.2 ⟨e, he, rfl⟩
      simp only [Option.map_some, hen, if_true, hc]
  · intro i hi o ho
    rw [hget, ho]
    simp only [Option.map_some, show ¬ i < n by omega, if_false]
  · intro i j o o' d hi hj hd hd'
    have hil := (Array.getElem?_eq_some_iff.1 hi).1
    have hjl := (Array.getElem?_eq_some_iff.1 hj).1
    have h1 := List.all_eq_true.1 (List.all_eq_true.1 hF2 i (List.mem_range.2 hil)) j (List.mem_range.2 hjl)
    rw [hi, hj, Bool.or_eq_true] at h1
    rcases h1 with h1 | h1
    · simpa using h1
    · simp only [hd, hd'] at h1
      simp at h1
  · intro i o hi hf ho e he
    have h1 := List.all_eq_true.1 hF3 i (List.mem_range.2 hi)
    rw [Bool.or_eq_true] at h1
    rcases h1 with h1 | h1
    · exfalso
      rw [List.contains_iff_mem] at h1
      simp only [List.map_map, List.mem_map, Function.comp] at h1
      obtain ⟨e', he', hh⟩ := h1
      exact hf e' he' hh
    · rw [ho] at h1
      have h2 := List.all_eq_true.1 h1 (e.1, e.2.1) (List.mem_map.2 ⟨e, he, rfl⟩)
      simp at h2
      exact h2
  · exact Region.noSelect_spec hns
  · intro w' g ar listed hBl hR hF hall
    exact hk w' g ar hBl hR.defers hR.size hR.same (fun e he => hR.ptr e he (hall e he)) (fun e he => hF.at' e he (hall e he)) (fun e he e' he' hne => hF.apart e he e' he' (hall e he) (hall e' he') hne)
  · refine ⟨rfl, rfl, fun s _ => rfl, fun e he hl => ?_⟩
    exfalso
    have h1 := List.all_eq_true.1 hF1 (e.1, e.2.1) (List.mem_map.2 ⟨e, he, rfl⟩)
    simp only [Bool.and_eq_true, decide_eq_true_eq] at h1
    have : e.1 < l.length := by omega
    simp [this] at hl
  · refine ⟨fun e he hl => ?_, fun e he e' he' hl => ?_⟩
    all_goals
      exfalso
      have h1 := List.all_eq_true.1 hF1 (e.1, e.2.1) (List.mem_map.2 ⟨e, he, rfl⟩)
      simp only [Bool.and_eq_true, decide_eq_true_eq] at h1
      have : e.1 < l.length := by omega
      simp [this] at hl
theorem act_ext {a b : Act} (h1 : a.defers = b.defers) (h2 : ∀ s : Nat, a.tmps[s]? = b.tmps[s]?) : a = b := by
  obtain ⟨t, d⟩ := a
  obtain ⟨t', d'⟩ := b
  simp only at h1 h2
  subst h1
  have : t = t' := Array.ext_getElem? h2
  subst this
  rfl
theorem wpQuiet_size {ops : Array Oper} {C : World → Prop} {A : Act} : ∀ (l : List Oper) (a : Act), wpQuiet P ops C (fun a' => a' = A) l a → A.tmps.size = a.tmps.size
  | [], a, h => by
    have h' : a = A := h
    rw [h']
  | o :: l, a, h => by
    unfold wpQuiet at h
    split at h
    · obtain ⟨v, -, hk⟩ := h
      rw [wpQuiet_size l _ hk, put_size]
    · rw [wpQuiet_size l _ h, put_size]
/-- One block. -/
theorem wp_region_free1 {id : Nat} (n i : Nat) (t : Tmp) (obj : Obj) {Q : Exit → Act → World → Prop} {a A : Act} {w : World} {l : List Oper} (hn : n ≤ l.length)
    (hm : P.follows .mixedOrders = true) (hB : Region.lexB .any (rep [i] 0 n l).toArray = true) (hT : tailsC l.toArray n = true)
    (hF : freeB l.toArray (rep [i] 0 n l).toArray n a.tmps.size [(i, t)] = true)
    (hA : ∀ o, l[i]? = some o → ∀ (a : Act) (w : World), (execOp a.eval o).run P w = .ok (.value (ptr0 w.heap.size)) (w.alloc obj))
    (hq : ∀ W, Below w.heap.size w W → wpQuiet P (rep [i] 0 n l).toArray (fun w' => ∃ p : Over W, w' = p.w) (fun a' => a' = A) (rep [i] 0 n (l.take n)) a)
    (hk : ∀ (w' : World) (g : Nat), Below w.heap.size w w' → w.heap.size ≤ g → g < w'.heap.size → w'.heap[g]? = some obj → wpList P l.toArray Q (l.drop n) (A.put (some t) (ptr0 g)) w') : (Code.region id l.toArray true).wp P Q a w := by
  have hAs : t < A.tmps.size := by
    have h1 := hq w (Below.refl _ _)
    have h2 := wpQuiet_size _ _ h1
    unfold freeB at hF
    simp at hF
    rw [h2]
    exact hF.1.1.1.2
  refine wp_region_free n [(i, t, obj)] hn (by simp) hm hB hT hF (by simpa using hA) hq ?_
  intro w' g ar hb hd hs hsame hp hf _
  obtain ⟨f1, f2, f3⟩ := hf (i, t, obj) (by simp)
  have e : ar = A.put (some t) (ptr0 (g i)) := by
    refine act_ext (by rw [put_defers, hd]) fun s => ?_
    by_cases hst : t = s
    · subst hst
      rw [put_slot _ _ _ hAs]
      exact hp (i, t, obj) (by simp)
    · rw [put_slot_ne (fun k => hst (by injection k))]
      exact hsame s (by simp; exact hst)
  rw [e]
  exact hk w' (g i) hb f1 f2 f3
/-- Two blocks. -/
theorem wp_region_free2 {id : Nat} (n i j : Nat) (t u : Tmp) (obj obj2 : Obj) (hij : i ≠ j) (htu : t ≠ u) {Q : Exit → Act → World → Prop} {a A : Act} {w : World} {l : List Oper} (hn : n ≤ l.length)
    (hm : P.follows .mixedOrders = true) (hB : Region.lexB .any (rep [i, j] 0 n l).toArray = true) (hT : tailsC l.toArray n = true)
    (hF : freeB l.toArray (rep [i, j] 0 n l).toArray n a.tmps.size [(i, t), (j, u)] = true)
    (hA : ∀ o, l[i]? = some o → ∀ (a : Act) (w : World), (execOp a.eval o).run P w = .ok (.value (ptr0 w.heap.size)) (w.alloc obj))
    (hA2 : ∀ o, l[j]? = some o → ∀ (a : Act) (w : World), (execOp a.eval o).run P w = .ok (.value (ptr0 w.heap.size)) (w.alloc obj2))
    (hq : ∀ W, Below w.heap.size w W → wpQuiet P (rep [i, j] 0 n l).toArray (fun w' => ∃ p : Over W, w' = p.w) (fun a' => a' = A) (rep [i, j] 0 n (l.take n)) a)
    (hk : ∀ (w' : World) (g g2 : Nat), Below w.heap.size w w' → w.heap.size ≤ g → g < w'.heap.size → w'.heap[g]? = some obj → w.heap.size ≤ g2 → g2 < w'.heap.size → w'.heap[g2]? = some obj2 → g ≠ g2 →
      wpList P l.toArray Q (l.drop n) ((A.put (some t) (ptr0 g)).put (some u) (ptr0 g2)) w') : (Code.region id l.toArray true).wp P Q a w := by
  have hAs : t < A.tmps.size ∧ u < A.tmps.size := by
    have h1 := hq w (Below.refl _ _)
    have h2 := wpQuiet_size _ _ h1
    unfold freeB at hF
    simp at hF
    rw [h2]
    exact ⟨hF.1.1.1.1.2, hF.1.1.2.1.2⟩
  refine wp_region_free n [(i, t, obj), (j, u, obj2)] hn ?_ hm hB hT hF ?_ hq ?_
  · intro e he e' he' h
    simp only [List.mem_cons, List.not_mem_nil, or_false] at he he'
    rcases he with rfl | rfl <;> rcases he' with rfl | rfl
    · rfl
    · exact absurd h hij
    · exact absurd h.symm hij
    · rfl
  · intro e he
    simp only [List.mem_cons, List.not_mem_nil, or_false] at he
    rcases he with rfl | rfl
    · exact hA
    · exact hA2
  intro w' g ar hb hd hs hsame hp hf hne
  obtain ⟨f1, f2, f3⟩ := hf (i, t, obj) (by simp)
  obtain ⟨k1, k2, k3⟩ := hf (j, u, obj2) (by simp)
  have hg := hne (i, t, obj) (by simp) (j, u, obj2) (by simp) hij
  have e : ar = (A.put (some t) (ptr0 (g i))).put (some u) (ptr0 (g j)) := by
    refine act_ext (by rw [put_defers, put_defers, hd]) fun s => ?_
    by_cases hus : u = s
    · subst hus
      rw [put_slot _ _ _ (by rw [put_size]; exact hAs.2)]
      exact hp (j, u, obj2) (by simp)
    · rw [put_slot_ne (fun k => hus (by injection k))]
      by_cases hst : t = s
      · subst hst
        rw [put_slot _ _ _ hAs.1]
        exact hp (i, t, obj) (by simp)
      · rw [put_slot_ne (fun k => hst (by injection k))]
        exact hsame s (by simp; exact ⟨hst, hus⟩)
  rw [e]
  exact hk w' (g i) (g j) hb f1 f2 f3 k1 k2 k3 hg
end
theorem cell_of_heap {W : World} {g : Nat} {cs : Array Value} {T : TypeId} (h : W.heap[g]? = some (.cells cs T)) (i : Nat) : W.cell? ⟨g, i, none⟩ = cs[i]? := by
  simp [World.cell?, h]
theorem fz_of_heap {W : World} {g : Nat} {cs : Array Value} {T : TypeId} (h : W.heap[g]? = some (.cells cs T)) (i : Nat) : W.frozen? ⟨g, i, none⟩ = false := by
  simp [World.frozen?, h]
theorem Hd.new2 {w0 w : World} {L : List (Nat × Nat × Value)} (h : Hd w0 L w) {g : Nat} {x y : Value} {T : TypeId} (hg : g < w.heap.size) (hb : w.heap[g]? = some (.cells #[x, y] T)) : Hd w0 ((g, 0, x) :: (g, 1, y) :: L) w :=
  ⟨h.below, fun b o v hm => by
    simp only [List.mem_cons, Prod.mk.injEq] at hm
    rcases hm with ⟨rfl, rfl, rfl⟩ | ⟨rfl, rfl, rfl⟩ | hm
    · exact ⟨hg, by rw [cell_of_heap hb]; rfl, fz_of_heap hb 0⟩
    · exact ⟨hg, by rw [cell_of_heap hb]; rfl, fz_of_heap hb 1⟩
    · exact h.cells b o v hm⟩
theorem Hd.new4 {w0 w : World} {L : List (Nat × Nat × Value)} (h : Hd w0 L w) {g : Nat} {x y z u : Value} {T : TypeId} (hg : g < w.heap.size) (hb : w.heap[g]? = some (.cells #[x, y, z, u] T)) : Hd w0 ((g, 0, x) :: (g, 1, y) :: (g, 2, z) :: (g, 3, u) :: L) w :=
  ⟨h.below, fun b o v hm => by
    simp only [List.mem_cons, Prod.mk.injEq] at hm
    rcases hm with ⟨rfl, rfl, rfl⟩ | ⟨rfl, rfl, rfl⟩ | ⟨rfl, rfl, rfl⟩ | ⟨rfl, rfl, rfl⟩ | hm
    · exact ⟨hg, by rw [cell_of_heap hb]; rfl, fz_of_heap hb 0⟩
    · exact ⟨hg, by rw [cell_of_heap hb]; rfl, fz_of_heap hb 1⟩
    · exact ⟨hg, by rw [cell_of_heap hb]; rfl, fz_of_heap hb 2⟩
    · exact ⟨hg, by rw [cell_of_heap hb]; rfl, fz_of_heap hb 3⟩
    · exact h.cells b o v hm⟩
end Go.Proofs.YthbbgkpkijlclaaDoor.num
