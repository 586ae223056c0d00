/-
  A region that draws its order, whose first m operations come up one after another whatever is drawn (each alone is ready): they are walked as a plain list; the others, which only read (callees may lay new blocks), are walked once, from the world that the first ones left.
-/
import Derived.Test.YthbbgkpkijlclaaDoorRt2
namespace Go.Proofs.YthbbgkpkijlclaaDoor.num
open Go.ChangeShapes Go.WideShapes Go.ChangeAt Go.RowKit
set_option linter.unusedVariables false
section
variable {P : Program}

theorem wp_unthen {o : Oper} {a : Act} {w : World} {K Rest : Act → World → Prop} {Q : Exit → Act → World → Prop} (h : o.wp P a w K (Exit.then Rest Q)) : o.wp P a w K Q := by
  unfold Oper.wp at *
  generalize (execOp a.eval o).run P w = r at *
  cases r with
  | ok n w' =>
    cases n <;> simp only [Oper.upon] at h ⊢ <;>
      first
        | exact h
        | exact Calls.mono h (fun e w'' he => by cases e <;> exact he)
  | halt x w' => cases x <;> simp only [Oper.upon] at h ⊢ <;> exact h
/-- The first k of N are listed. -/
def firstL (N k : Nat) : Array Bool := ((List.range N).map fun i => decide (i < k)).toArray
theorem firstL_zero (N : Nat) : firstL N 0 = Array.replicate N false := by
  unfold firstL
  apply Array.ext'
  simp only [Array.toList_replicate]
  apply List.ext_getElem
  · simp
  · intro i h1 h2; simp
theorem firstL_next (N k : Nat) (h : k < N) : (firstL N k).setIfInBounds k true = firstL N (k + 1) := by
  unfold firstL
  apply Array.ext'
  rw [Array.toList_setIfInBounds]
  apply List.ext_getElem
  · simp
  · intro i h1 h2
    simp at h1 h2
    rw [List.getElem_set]
    simp only [List.getElem_map, List.getElem_range]
    by_cases hik : k = i
    · subst hik; simp
    · rw [if_neg hik]
      have : (i < k) = (i < k + 1) := by apply propext; omega
      simp [this]
def headB (ops : Array Oper) (m : Nat) : Bool := (List.range m).all fun k => Region.ready .any ops (firstL ops.size k) == [k]
theorem headB_at {ops : Array Oper} {m k : Nat} (h : headB ops m = true) (hk : k < m) : Region.ready .any ops (firstL ops.size k) = [k] := by
  have := List.all_eq_true.1 h k (List.mem_range.2 hk)
  simpa using this
theorem wpAny_head {ops : Array Oper} {m : Nat} {Q : Exit → Act → World → Prop} {Rest : Act → World → Prop} (hm : m ≤ ops.size) (hB : headB ops m = true)
    (hrest : ∀ a w, Rest a w → wpAny P .any ops Q (ops.size - m) (firstL ops.size m) a w) : ∀ (d k : Nat) (a : Act) (w : World), k + d = m → wpList P ops (Exit.then Rest Q) ((ops.toList.drop k).take d) a w → wpAny P .any ops Q (ops.size - k) (firstL ops.size k) a w := by
  intro d
  induction d with
  | zero =>
    intro k a w hk h
    have : k = m := by omega
    subst this
    rw [List.take_zero] at h
    exact hrest a w h
  | succ d ih =>
    intro k a w hk h
    have hlt : k < ops.size := by omega
    obtain ⟨o, ho⟩ : ∃ o, ops[k]? = some o := ⟨_, Array.getElem?_eq_getElem hlt⟩
    have hd : ops.toList.drop k = o :: ops.toList.drop (k + 1) := by
      have hl : k < ops.toList.length := by simpa using hlt
      rw [List.drop_eq_getElem_cons hl]
      congr 1
      rw [Array.getElem_toList]
      exact (Array.getElem?_eq_some_iff.1 ho).2
    rw [hd, List.take_succ_cons] at h
    have hr := headB_at hB (show k < m by omega)
    obtain ⟨f, hf⟩ : ∃ f, ops.size - k = f + 1 := ⟨ops.size - (k + 1), by omega⟩
    have hf2 : ops.size - (k + 1) = f := by omega
    rw [hf]
    refine ⟨fun he => (by rw [hr] at he; cases he), fun i hi => ?_⟩
    rw [hr] at hi
    have hik : i = k := by simpa using hi
    subst hik
    rw [firstL_next _ _ hlt]
    unfold wpList at h
    unfold wpOp
    simp only [ho]
    split
    · rename_i hw
      rw [if_pos hw] at h
      rcases h with h | ⟨h1, h2⟩
      · refine .inl (wp_unthen (Oper.wp_mono (fun a' w' h' => ?_) h))
        have := ih (i + 1) a' w' (by omega) h'
        rw [hf2] at this
        exact this
      · exact .inr ⟨h1, h2⟩
    · rename_i hw
      rw [if_neg hw] at h
      have := ih (i + 1) _ w (by omega) h
      rw [hf2] at this
      exact this
/-- The law. -/
theorem wp_region_head {id : Nat} (m : Nat) {C : World → World → Prop} {Q : Exit → Act → World → Prop} {a : Act} {w : World} {l : List Oper} (hml : m ≤ l.length) (hm : P.follows .mixedOrders = true) (hH : headB l.toArray m = true)
    (hN : Region.noSelect l.toArray = true) (hX : Region.lexFrom .any l.toArray (l.length - m) m (firstL l.length m) = true) (hC : ∀ w, C w w)
    (h : wpList P l.toArray (Exit.then (fun a w => wpQuiet P l.toArray (C w) (fun a' => ∀ w', C w w' → Q .normal a' w') (l.drop m) a) Q) (l.take m) a { w with drawn := w.drawn + 1 }) : (Code.region id l.toArray true).wp P Q a w := by
  refine wp_region_any hm ?_
  have hz : l.toArray.size = l.length := by simp
  have key := wpAny_head (P := P) (ops := l.toArray) (m := m) (Q := Q) (Rest := fun a w => wpQuiet P l.toArray (C w) (fun a' => ∀ w', C w w' → Q .normal a' w') (l.drop m) a) (by simpa using hml) hH (fun a w hq => by
    have hx := wpAnyQ_lex (C := C w) (md := .any) hN (l.drop m) m (firstL l.length m) a (fun j => by simp) (by simpa using hX) hq
    have hlen : (l.drop m).length = l.length - m := by simp
    rw [hlen] at hx
    rw [hz]
    exact wpAny_of_quiet (Q := fun a' => ∀ w', C w w' → Q .normal a' w') (fun _ w' hw' h => h w' hw') _ _ _ _ (hC w) hx) m 0 a _ (by omega) (by simpa using h)
  rw [firstL_zero, Nat.sub_zero] at key
  exact key
end
end Go.Proofs.YthbbgkpkijlclaaDoor.num
