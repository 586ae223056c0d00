/-
  Tokens compared.
-/
import Derived.Test.YtggkkhlghlghkaaDoorSt
import Derived.Deep.RegionWith
import Derived.BigRegion
namespace Go.Proofs.YtggkkhlghlghkaaDoor.lex
open Go.RowKit Go.Proofs.YtggkkhlghlghkaaDoor.num
set_option linter.unusedVariables false

theorem eqToken_same (tk tp tn : Int) (tx : ByteArray) (w : World) : Calls Tryd.prog 37 #[.agg #[.int .i64 tk, .int .i64 tp, .string tx, .int .i64 tn], .agg #[.int .i64 tk, .int .i64 tp, .string tx, .int .i64 tn]] w fun e w' => e = .returned (.bool true) ∧ Below w.heap.size w w' := by
  go_enter Tryd.func37, Tryd.ntmps37
  go_wp2
  go_ret
  exact ⟨rfl, below_two _ _ _⟩
theorem eqFault_same (c p : Int) (w : World) : Calls Tryd.prog 19 #[.agg #[.int .i64 c, .int .i64 p], .agg #[.int .i64 c, .int .i64 p]] w fun e w' => e = .returned (.bool true) ∧ Below w.heap.size w w' := by
  go_enter Tryd.func19, Tryd.ntmps19
  go_wp2
  go_ret
  exact ⟨rfl, below_two _ _ _⟩

theorem rowOf_get (l : List Tok) (j i : Nat) (t : Tok) (h : l[j]? = some t) (hi : i < 4) : (rowOf l)[j * 4 + i]? = t.cells[i]? := by
  induction l generalizing j with
  | nil => simp at h
  | cons a r ih =>
    cases j with
    | zero =>
      simp at h
      subst h
      have e : (rowOf (a :: r)) = a.cells ++ rowOf r := by simp [rowOf]
      rw [e, List.getElem?_append_left (by simp [Tok.cells]; omega)]
      simp
    | succ j =>
      have e : (rowOf (a :: r)) = a.cells ++ rowOf r := by simp [rowOf]
      rw [e, List.getElem?_append_right (by simp [Tok.cells]; omega)]
      have e2 : (j + 1) * 4 + i - a.cells.length = j * 4 + i := by simp [Tok.cells]; omega
      rw [e2]
      exact ih j (by simpa using h)
/-- A row that is not empty lies in a block; its cells read as the tokens. -/
theorem row_read {w : World} {base : Nat} {v : Value} {l : List Tok} (h : w.ownsRow base 32 4 v l.length (rowOf l)) (h0 : 0 < l.length) :
    ∃ g cap, v = .slice (some ⟨g, 0, none⟩) l.length cap ∧ base ≤ g ∧ l.length ≤ cap ∧ g < w.heap.size ∧ ∀ j t, l[j]? = some t → w.cell? ⟨g, j * 4, none⟩ = some (.int .i64 t.kind) ∧ w.cell? ⟨g, j * 4 + 1, none⟩ = some (.int .i64 t.pos) ∧ w.cell? ⟨g, j * 4 + 2, none⟩ = some (.string t.text) ∧ w.cell? ⟨g, j * 4 + 3, none⟩ = some (.int .i64 t.num) := by
  rcases h.2 with ⟨rfl, hn⟩ | ⟨g, cap, cur, rfl, hg, hh, hc, _, hsz, hx⟩
  · omega
  · refine ⟨g, cap, rfl, hg, hc, (Array.getElem?_eq_some_iff.1 hh).1, fun j t hj => ?_⟩
    have hl : j < l.length := by
      rcases List.getElem?_eq_some_iff.1 hj with ⟨h, _⟩
      exact h
    have key : ∀ i, i < 4 → cur[j * 4 + i]? = t.cells[i]? := fun i hi => by
      rw [← rowOf_get l j i t hj hi, ← hx, List.getElem?_take_of_lt (by omega), Array.getElem?_toList]
    have k0 := key 0 (by omega)
    have k1 := key 1 (by omega)
    have k2 := key 2 (by omega)
    have k3 := key 3 (by omega)
    exact ⟨cell_of hh k0, cell_of hh k1, cell_of hh k2, cell_of hh k3⟩

set_option maxHeartbeats 1000000 in
set_option maxRecDepth 100000 in
theorem eqTokenS_same (l : List Tok) (v1 v2 : Value) (b1 b2 : Nat) (w : World) (hl : l.length ≤ 1048576) (h1 : w.ownsRow b1 32 4 v1 l.length (rowOf l)) (h2 : w.ownsRow b2 32 4 v2 l.length (rowOf l)) :
    Calls Tryd.prog 18 #[v1, v2] w fun e w' => e = .returned (.bool true) ∧ Below w.heap.size w w' := by
  by_cases h0 : 0 < l.length
  · obtain ⟨g, cap, rfl, _, hc1, hg1, r1⟩ := row_read h1 h0
    obtain ⟨g2, cap2, rfl, _, hc2, hg2, r2⟩ := row_read h2 h0
    clear h1 h2
    go_enter Tryd.func18, Tryd.ntmps18
    go_wp2
    go_loopw [5] (fun i wr => ∃ j : Nat, j ≤ l.length ∧ i = .int .i64 j ∧ Below w.heap.size w wr) (fun i _ => l.length - (intOf i).toNat)
    case atStart => exact ⟨0, by omega, rfl, Below.refl _ _⟩
    case round =>
      obtain ⟨j, hj, rfl, hb⟩ := hrel
      by_cases hlt : j < l.length
      · obtain ⟨t, ht⟩ : ∃ t, l[j]? = some t := ⟨_, List.getElem?_eq_getElem hlt⟩
        obtain ⟨c0, c1, c2, c3⟩ := r1 j t ht
        obtain ⟨d0, d1, d2, d3⟩ := r2 j t ht
        obtain ⟨tk, tp, tx, tn⟩ := t
        rw [← hb.cell (by exact hg1)] at c0 c1 c2 c3
        rw [← hb.cell (by exact hg2)] at d0 d1 d2 d3
        clear r1 r2 ht
        have heq := eqToken_same tk tp tn tx
        have HB := hide hb
        clear hb
        go_wp2
        go_region_with (go_at_call 37; refine (heq _).mono ?_; rintro e w1 ⟨rfl, hb1⟩)
        all_goals go_wp2
        all_goals go_roundw
        all_goals first
          | exact ⟨j + 1, by omega, by go_num, (unhide HB).trans ⟨hb1.os, hb1.tape, hb1.output, hb1.size, fun i hi => hb1.block i (Nat.lt_of_lt_of_le hi (unhide HB).size)⟩⟩
          | (simp [intOf]; omega)
      · go_wp2
        go_ret
        exact ⟨rfl, hb⟩
  · obtain ⟨a, c, rfl⟩ := row_slice h1
    obtain ⟨a2, c2, rfl⟩ := row_slice h2
    have e : l.length = 0 := by omega
    rw [e]
    clear h1 h2
    go_enter Tryd.func18, Tryd.ntmps18
    go_wp2
    refine wp_loop_rounds 1 ?_
    rw [rounds_succ]
    go_wp2
    go_ret
    exact ⟨rfl, Below.refl _ _⟩
end Go.Proofs.YtggkkhlghlghkaaDoor.lex
