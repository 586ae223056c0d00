/-
  Marks in any row of tokens; and how many tokens there are.
-/
import Derived.Test.YtggkkhlghlghkaaDoorMl
import Derived.Test.YtggkkhlghlghkaaDoorG4
namespace Go.Proofs.YtggkkhlghlghkaaDoor.lex
open Go.RowKit Go.Proofs.YtggkkhlghlghkaaDoor.num
set_option linter.unusedVariables false

theorem mark_any (l : List Tok) (v : Value) (base : Nat) (w : World) (hl : l.length ≤ 1000) (h : w.ownsRow base 32 4 v l.length (rowOf l)) :
    Calls Tryd.prog 20 #[v, .int .i64 1] w fun e w' => e = .returned (.int .i64 ((1 + 4 * l.length : Nat) : Int)) ∧ w'.ownsRow base 32 4 v l.length (rowOf (marked 1 l l.length)) ∧ w.grownBy w' v.ownBlock := by
  by_cases h0 : 0 < l.length
  · obtain ⟨g, cap, rfl, _, hc, hg, _⟩ := row_read h h0
    exact mark_row l 1 base g cap w (by omega) (by omega) hl h hc
  · obtain ⟨a, c, rfl⟩ := row_slice h
    obtain rfl : l = [] := List.length_eq_zero_iff.1 (by omega)
    refine (mark_none a c 1 w).mono ?_
    rintro e w' ⟨rfl, rfl⟩
    exact ⟨rfl, h, World.grownBy.refl _ _⟩
theorem held_any (l : List Tok) (v : Value) (base : Nat) (w : World) (hl : l.length ≤ 1000) (h : w.ownsRow base 32 4 v l.length (rowOf (marked 1 l l.length))) :
    Calls Tryd.prog 21 #[v, .int .i64 1] w fun e w' => e = .returned (.int .i64 ((1 + 4 * l.length : Nat) : Int)) ∧ Below w.heap.size w w' := by
  have hm := marked_length 1 l l.length (Nat.le_refl _)
  by_cases h0 : 0 < l.length
  · have h' : w.ownsRow base 32 4 v (marked 1 l l.length).length (rowOf (marked 1 l l.length)) := by rw [hm]; exact h
    obtain ⟨g, cap, rfl, _, hc, hg, hr⟩ := row_read h' (by omega)
    rw [hm] at hc ⊢
    exact held_row l.length 1 g cap w (by omega) (by omega) hl hc hg (fun j hj => hr j _ (marked_get 1 l j hj))
  · obtain ⟨a, c, rfl⟩ := row_slice h
    obtain rfl : l = [] := List.length_eq_zero_iff.1 (by omega)
    refine (held_none a c 1 w).mono ?_
    rintro e w' ⟨rfl, rfl⟩
    exact ⟨rfl, Below.refl _ _⟩

theorem lexFrom_few (s : ByteArray) (k : Nat) (acc : List Tok) (h : acc.length ≤ 700) : (lexFrom s k acc).1.length ≤ 700 := by
  by_cases h0 : skip s k < s.size
  · by_cases h1 : tokCode s (skip s k) = 0
    · by_cases h2 : 700 ≤ acc.length
      · rw [lexFrom_many s k acc h0 h1 h2]; simp
      · rw [lexFrom_go s k acc h0 h1 h2]
        have := le_skip s k
        have := lt_tokEnd s _ h0 h1
        exact lexFrom_few s _ _ (by simp; omega)
    · rw [lexFrom_bad s k acc h0 h1]; simp
  · rw [lexFrom_end s k acc h0]; exact h
termination_by s.size - k
theorem lexAll_few (s : ByteArray) : (lexAll s).1.length ≤ 700 := by
  unfold lexAll
  split
  · simp
  · exact lexFrom_few s 0 [] (by simp)
/-- A row that another one's marks leave alone. -/
theorem row_grown {w w' : World} {r : Option Nat} {base : Nat} {e : TypeId} {size : Nat} {v : Value} {n : Nat} {xs : List Value} (h : w.ownsRow base e size v n xs) (hg : w.grownBy w' r) (hr : ∀ g, r = some g → v.ownBlock ≠ some g) : w'.ownsRow base e size v n xs := by
  refine ⟨h.1, ?_⟩
  rcases h.2 with h2 | ⟨g, cap, cur, hv, hb, hh, rest⟩
  · exact .inl h2
  · refine .inr ⟨g, cap, cur, hv, hb, ?_, rest⟩
    refine (hg.block g (Array.getElem?_eq_some_iff.1 hh).1 (fun e => ?_)).trans hh
    exact hr g e.symm (by rw [hv]; rfl)
/-- Where a row lies: below the heap's size. -/
theorem row_lt {w : World} {base : Nat} {e : TypeId} {size : Nat} {v : Value} {n : Nat} {xs : List Value} (h : w.ownsRow base e size v n xs) (g : Nat) (hg : v.ownBlock = some g) : g < w.heap.size := by
  rcases h.2 with ⟨rfl, _⟩ | ⟨g', cap, cur, rfl, hb, hh, _⟩
  · cases hg
  · cases hg
    exact (Array.getElem?_eq_some_iff.1 hh).1
theorem f2 {w : World} {b : Nat} {a0 a1 : Value} {t : TypeId} (h : w.heap[b]? = some (.cells #[a0, a1] t)) :
    w.cell? ⟨b, 0, none⟩ = some a0 ∧ w.cell? ⟨b, 1, none⟩ = some a1 := ⟨cell_of h rfl, cell_of h rfl⟩
end Go.Proofs.YtggkkhlghlghkaaDoor.lex
