/-
  Marks laid into a row of tokens, and read again.
-/
import Derived.Test.YtggkkhlghlghkaaDoorMk
namespace Go.Proofs.YtggkkhlghlghkaaDoor.lex
open Go.RowKit Go.Proofs.YtggkkhlghlghkaaDoor.num
set_option linter.unusedVariables false

/-- The ith mark, from a number on. -/
def mt (k i : Nat) : Tok := ⟨((k + 4 * i : Nat) : Int), ((k + 4 * i + 1 : Nat) : Int), markS (k + 4 * i + 2), ((k + 4 * i + 3 : Nat) : Int)⟩
/-- Tokens of which the first j are marked. -/
def marked (k : Nat) (l : List Tok) (j : Nat) : List Tok := (List.range j).map (mt k) ++ l.drop j
theorem marked_length (k : Nat) (l : List Tok) (j : Nat) (h : j ≤ l.length) : (marked k l j).length = l.length := by simp [marked]; omega
theorem marked_zero (k : Nat) (l : List Tok) : marked k l 0 = l := by simp [marked]
theorem marked_step (k : Nat) (l : List Tok) (j : Nat) (h : j < l.length) : marked k l (j + 1) = (marked k l j).set j (mt k j) := by
  unfold marked
  rw [List.range_succ, List.map_append, List.set_append_right _ _ (by simp)]
  simp only [List.length_map, List.length_range, Nat.sub_self]
  have e : l.drop j = l[j] :: l.drop (j + 1) := List.drop_eq_getElem_cons h
  rw [e, List.set_cons_zero]
  simp
theorem marked_get (k : Nat) (l : List Tok) (j : Nat) (h : j < l.length) : (marked k l l.length)[j]? = some (mt k j) := by
  unfold marked
  rw [List.getElem?_append_left (by simpa using h)]
  simp [h]

theorem rowOf_cons (a : Tok) (r : List Tok) : rowOf (a :: r) = a.cells ++ rowOf r := by simp [rowOf]
theorem rowOf_set4 (l : List Tok) (j : Nat) (t : Tok) (h : j < l.length) :
    ((((rowOf l).set (j * 4) (.int .i64 t.kind)).set (j * 4 + 1) (.int .i64 t.pos)).set (j * 4 + 2) (.string t.text)).set (j * 4 + 3) (.int .i64 t.num) = rowOf (l.set j t) := by
  induction l generalizing j with
  | nil => simp at h
  | cons a r ih =>
    cases j with
    | zero => simp [rowOf_cons, Tok.cells]
    | succ j =>
      have e := ih j (by simpa using h)
      have e4 : a.cells.length = 4 := rfl
      rw [rowOf_cons, List.set_cons_succ, rowOf_cons, ← e]
      rw [List.set_append_right _ _ (by omega), List.set_append_right _ _ (by omega), List.set_append_right _ _ (by omega), List.set_append_right _ _ (by omega), e4]
      have a0 : (j + 1) * 4 - 4 = j * 4 := by omega
      have a1 : (j + 1) * 4 + 1 - 4 = j * 4 + 1 := by omega
      have a2 : (j + 1) * 4 + 2 - 4 = j * 4 + 2 := by omega
      have a3 : (j + 1) * 4 + 3 - 4 = j * 4 + 3 := by omega
      rw [a0, a1, a2, a3]

theorem row_put {w : World} {base n cap g o : Nat} {xs : List Value} {e : TypeId} {size : Nat} (h : w.ownsRow base e size (.slice (some ⟨g, 0, none⟩) n cap) n xs) (u : Value) : (w.setCell ⟨g, o, none⟩ u).ownsRow base e size (.slice (some ⟨g, 0, none⟩) n cap) n (xs.set o u) := by
  refine ⟨by simpa using h.1, ?_⟩
  rcases h.2 with ⟨h2, _⟩ | ⟨g', cap', cur, hv, hg, hh, hc, hm, hsz, hx⟩
  · cases h2
  · cases hv
    refine .inr ⟨g, cap, cur.setIfInBounds o u, rfl, hg, at_same hh, hc, hm, by simpa using hsz, ?_⟩
    rw [← hx, Array.toList_setIfInBounds, List.take_set]
theorem row_at {w : World} {base n cap g o : Nat} {xs : List Value} {e : TypeId} {size : Nat} (h : w.ownsRow base e size (.slice (some ⟨g, 0, none⟩) n cap) n xs) (ho : o < n * size) : (∃ u, w.cell? ⟨g, o, none⟩ = some u) ∧ w.frozen? ⟨g, o, none⟩ = false ∧ g < w.heap.size := by
  rcases h.2 with ⟨h2, _⟩ | ⟨g', cap', cur, hv, hg, hh, hc, hm, hsz, hx⟩
  · cases h2
  · cases hv
    have hlt : o < cur.size := by rw [hsz]; exact Nat.lt_of_lt_of_le ho (Nat.mul_le_mul_right _ hc)
    exact ⟨⟨_, cell_of hh (Array.getElem?_eq_getElem hlt)⟩, frozen_of hh, (Array.getElem?_eq_some_iff.1 hh).1⟩
theorem grown_set {w w' : World} {g o : Nat} (h : w.grownBy w' (some g)) (u : Value) : w.grownBy (w'.setCell ⟨g, o, none⟩ u) (some g) :=
  ⟨h.os, h.tape, h.output, by simpa using h.size, fun k hk hne => (Below.heap_setCell w' ⟨g, o, none⟩ u k (fun e => hne (by rw [e]))).trans (h.block k hk hne)⟩
theorem grown_below {w w' w'' : World} {r : Option Nat} (h : w.grownBy w' r) (hb : Below w'.heap.size w' w'') : w.grownBy w'' r :=
  ⟨hb.os.trans h.os, hb.tape.trans h.tape, hb.output.trans h.output, Nat.le_trans h.size hb.size, fun k hk hne => (hb.block k (Nat.lt_of_lt_of_le hk h.size)).trans (h.block k hk hne)⟩

set_option maxHeartbeats 2000000 in
set_option maxRecDepth 100000 in
theorem mark_row (l : List Tok) (k base g cap : Nat) (w : World) (hk : 0 < k) (hkb : k ≤ 1000) (hl : l.length ≤ 1000) (h : w.ownsRow base 32 4 (.slice (some ⟨g, 0, none⟩) l.length cap) l.length (rowOf l)) (hc : l.length ≤ cap) :
    Calls Tryd.prog 20 #[.slice (some ⟨g, 0, none⟩) l.length cap, .int .i64 (k : Int)] w fun e w' => e = .returned (.int .i64 ((k + 4 * l.length : Nat) : Int)) ∧ w'.ownsRow base 32 4 (.slice (some ⟨g, 0, none⟩) l.length cap) l.length (rowOf (marked k l l.length)) ∧ w.grownBy w' (some g) := by
  have H := hide h
  clear h
  go_enter Tryd.func20, Tryd.ntmps20
  go_wp2
  go_loopw [1, 5] (fun kk i wr => ∃ j : Nat, j ≤ l.length ∧ i = .int .i64 j ∧ kk = .int .i64 ((k + 4 * j : Nat) : Int) ∧ Hid (wr.ownsRow base 32 4 (.slice (some ⟨g, 0, none⟩) l.length cap) l.length (rowOf (marked k l j))) ∧ Hid (w.grownBy wr (some g))) (fun _ i _ => l.length - (intOf i).toNat)
  case atStart => exact ⟨0, by omega, rfl, rfl, hide (by rw [marked_zero]; exact unhide H), hide (World.grownBy.refl _ _)⟩
  case round =>
    obtain ⟨j, hj, rfl, rfl, HR, HG⟩ := hrel
    by_cases hlt : j < l.length
    · obtain ⟨⟨u0, c0⟩, f0, hg0⟩ := row_at (o := j * 4) (unhide HR) (by omega)
      obtain ⟨⟨u1, c1⟩, f1, _⟩ := row_at (o := j * 4 + 1) (unhide HR) (by omega)
      have R2 := hide (row_put (o := j * 4 + 1) (row_put (o := j * 4) (unhide HR) (.int .i64 ((k + 4 * j : Nat) : Int))) (.int .i64 ((k + 4 * j + 1 : Nat) : Int)))
      have G2 := hide (grown_set (o := j * 4 + 1) (grown_set (o := j * 4) (unhide HG) (.int .i64 ((k + 4 * j : Nat) : Int))) (.int .i64 ((k + 4 * j + 1 : Nat) : Int)))
      have hmk := fun w => markText_any (k + 4 * j + 2) (by omega) (by omega) w
      have e0 : ((k + 4 * j : Nat) : Int) = (k : Int) + 4 * (j : Int) := by omega
      have e1 : ((k + 4 * j + 1 : Nat) : Int) = (k : Int) + 4 * (j : Int) + 1 := by omega
      have e2 : ((k + 4 * j + 2 : Nat) : Int) = (k : Int) + 4 * (j : Int) + 1 + 1 := by omega
      rw [e2] at hmk
      rw [e0, e1] at R2 G2
      go_wp2_with (go_at_call 38; refine (hmk _).mono ?_; rintro e w1 ⟨rfl, hb⟩; have R3 := hide (row_below (unhide R2) hb); have G3 := hide (grown_below (unhide G2) hb); obtain ⟨⟨u2, c2⟩, f2, _⟩ := row_at (o := j * 4 + 2) (unhide R3) (by omega); obtain ⟨⟨u3, c3⟩, f3, _⟩ := row_at (o := j * 4 + 3) (unhide R3) (by omega); clear hb)
      go_roundw
      case rel =>
        refine ⟨j + 1, by omega, by go_num, by go_num, hide ?_, hide (grown_set (grown_set (unhide G3) _) _)⟩
        have R5 := row_put (o := j * 4 + 3) (row_put (o := j * 4 + 2) (unhide R3) (.string (markS (k + 4 * j + 2)))) (.int .i64 ((k : Int) + 4 * (j : Int) + 1 + 1 + 1))
        have hml : j < (marked k l j).length := by rw [marked_length k l j hj]; exact hlt
        have es := rowOf_set4 (marked k l j) j (mt k j) hml
        rw [marked_step k l j hlt, ← es]
        have e3 : ((k + 4 * j + 3 : Nat) : Int) = (k : Int) + 4 * (j : Int) + 1 + 1 + 1 := by omega
        simp only [mt, e0, e1, e3]
        exact R5
      case measure => simp [intOf]; omega
    · obtain rfl : j = l.length := by omega
      go_wp2
      go_ret
      exact ⟨rfl, unhide HR, unhide HG⟩

theorem mark_none (a : Option Addr) (cap k : Nat) (w : World) : Calls Tryd.prog 20 #[.slice a 0 cap, .int .i64 (k : Int)] w fun e w' => e = .returned (.int .i64 (k : Int)) ∧ w' = w := by
  go_enter Tryd.func20, Tryd.ntmps20
  go_wp2
  refine wp_loop_rounds 1 ?_
  rw [rounds_succ]
  go_wp2
  go_ret
  exact ⟨rfl, rfl⟩
theorem held_none (a : Option Addr) (cap k : Nat) (w : World) : Calls Tryd.prog 21 #[.slice a 0 cap, .int .i64 (k : Int)] w fun e w' => e = .returned (.int .i64 (k : Int)) ∧ w' = w := by
  go_enter Tryd.func21, Tryd.ntmps21
  go_wp2
  refine wp_loop_rounds 1 ?_
  rw [rounds_succ]
  go_wp2
  go_ret
  exact ⟨rfl, rfl⟩

set_option maxHeartbeats 2000000 in
set_option maxRecDepth 100000 in
theorem held_row (n k g cap : Nat) (w : World) (hk : 0 < k) (hkb : k ≤ 1000) (hl : n ≤ 1000) (hc : n ≤ cap) (hg : g < w.heap.size)
    (h : ∀ j, j < n → w.cell? ⟨g, j * 4, none⟩ = some (.int .i64 (mt k j).kind) ∧ w.cell? ⟨g, j * 4 + 1, none⟩ = some (.int .i64 (mt k j).pos) ∧ w.cell? ⟨g, j * 4 + 2, none⟩ = some (.string (mt k j).text) ∧ w.cell? ⟨g, j * 4 + 3, none⟩ = some (.int .i64 (mt k j).num)) :
    Calls Tryd.prog 21 #[.slice (some ⟨g, 0, none⟩) n cap, .int .i64 (k : Int)] w fun e w' => e = .returned (.int .i64 ((k + 4 * n : Nat) : Int)) ∧ Below w.heap.size w w' := by
  go_enter Tryd.func21, Tryd.ntmps21
  go_wp2
  go_loopw [1, 5] (fun kk i wr => ∃ j : Nat, j ≤ n ∧ i = .int .i64 j ∧ kk = .int .i64 ((k + 4 * j : Nat) : Int) ∧ Below w.heap.size w wr) (fun _ i _ => n - (intOf i).toNat)
  case atStart => exact ⟨0, by omega, rfl, rfl, Below.refl _ _⟩
  case round =>
    obtain ⟨j, hj, rfl, rfl, hb⟩ := hrel
    by_cases hlt : j < n
    · obtain ⟨c0, c1, c2, c3⟩ := h j hlt
      rw [← hb.cell (by exact hg)] at c0 c1 c2 c3
      have e0 : ((k + 4 * j : Nat) : Int) = (k : Int) + 4 * (j : Int) := by omega
      have e1 : ((k + 4 * j + 1 : Nat) : Int) = (k : Int) + 4 * (j : Int) + 1 := by omega
      have e2 : ((k + 4 * j + 2 : Nat) : Int) = (k : Int) + 4 * (j : Int) + 1 + 1 := by omega
      have e3 : ((k + 4 * j + 3 : Nat) : Int) = (k : Int) + 4 * (j : Int) + 1 + 1 + 1 := by omega
      simp only [mt, e0, e1, e3] at c0 c1 c2 c3
      have hmk := fun w => markText_any (k + 4 * j + 2) (by omega) (by omega) w
      rw [e2] at hmk
      have HB := hide hb
      have hgt : g < wr.heap.size := Nat.lt_of_lt_of_le hg hb.size
      have HG := hide hgt
      clear hb h hgt
      go_wp2
      go_region_with (go_at_call 38; refine (hmk _).mono ?_; rintro e w1 ⟨rfl, hb1⟩; have d2 := (hb1.cell (p := ⟨g, j * 4 + 2, none⟩) (by exact unhide HG)).trans c2; have d3 := (hb1.cell (p := ⟨g, j * 4 + 3, none⟩) (by exact unhide HG)).trans c3)
      all_goals go_wp2
      all_goals go_roundw
      all_goals first
        | exact ⟨j + 1, by omega, by go_num, by go_num, (unhide HB).trans ⟨hb1.os, hb1.tape, hb1.output, hb1.size, fun i hi => hb1.block i (Nat.lt_of_lt_of_le hi (unhide HB).size)⟩⟩
        | (simp [intOf]; omega)
    · obtain rfl : j = n := by omega
      go_wp2
      go_ret
      exact ⟨rfl, hb⟩
end Go.Proofs.YtggkkhlghlghkaaDoor.lex
