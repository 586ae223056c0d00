/-
  The program's own join: tokens held against tokens.
-/
import Derived.Test.YtggkkhlghlghkaaDoorJs
namespace Go.Proofs.YtggkkhlghlghkaaDoor.lex
open Go.RowKit Go.Proofs.YtggkkhlghlghkaaDoor.num
set_option linter.unusedVariables false

set_option maxHeartbeats 4000000 in
set_option maxRecDepth 100000 in
theorem sameToken_any (k p n k' p' n' : Int) (x x' : ByteArray) (w : World) :
    Calls Tryd.prog 33 #[.agg #[.int .i64 k, .int .i64 p, .string x, .int .i64 n], .agg #[.int .i64 k', .int .i64 p', .string x', .int .i64 n']] w fun e w' => e = .returned (.bool (decide (k = k' ∧ x = x' ∧ n = n'))) ∧ Below w.heap.size w w' := by
  by_cases e2 : x = x'
  · subst e2
    by_cases e0 : k = k'
    · subst e0
      by_cases e3 : n = n'
      · subst e3
        rw [decide_eq_true ⟨rfl, rfl, rfl⟩]
        go_enter Tryd.func33, Tryd.ntmps33
        go_wp2
        go_ret
        exact ⟨rfl, below_two _ _ _⟩
      · rw [decide_eq_false (fun h => e3 h.2.2)]
        go_enter Tryd.func33, Tryd.ntmps33
        go_wp2
        go_ret
        exact ⟨rfl, below_two _ _ _⟩
    · rw [decide_eq_false (fun h => e0 h.1)]
      go_enter Tryd.func33, Tryd.ntmps33
      go_wp2
      go_ret
      exact ⟨rfl, below_two _ _ _⟩
  · rw [decide_eq_false (fun h => e2 h.2.1)]
    have e2' : ¬ x.toList = x'.toList := fun h => e2 (ba_eq (by rwa [ByteArray.toList_eq, ByteArray.toList_eq] at h))
    go_enter Tryd.func33, Tryd.ntmps33
    go_wp2
    all_goals go_ret
    all_goals exact ⟨rfl, below_two _ _ _⟩

set_option maxHeartbeats 4000000 in
set_option maxRecDepth 100000 in
theorem equalFunc_any (l l' : List Tok) (v v' : Value) (base base' : Nat) (w : World) (hl : l.length ≤ 1048576) (hl' : l'.length ≤ 1048576) (h : w.ownsRow base 32 4 v l.length (rowOf l)) (h' : w.ownsRow base' 32 4 v' l'.length (rowOf l')) :
    Calls Tryd.prog 32 #[v, v', .func (.func 33) #[] #[]] w fun e w' => e = .returned (.bool (decide (l'.map Tok.bare = l.map Tok.bare))) ∧ Below w.heap.size w w' := by
  obtain ⟨a1, q1, rfl⟩ := row_slice h
  obtain ⟨a2, q2, rfl⟩ := row_slice h'
  have HR := hide h
  have HR' := hide h'
  clear h h'
  by_cases hll : l'.length = l.length
  · have hl0 : ((l.length : Int) != (l'.length : Int)) = false := by simp; omega
    have HLL := hide hll
    clear hll
    go_enter Tryd.func32, Tryd.ntmps32
    go_wp2
    go_loopw [17] (fun i wr => ∃ j : Nat, j ≤ l.length ∧ i = .int .i64 j ∧ Hid ((l'.take j).map Tok.bare = (l.take j).map Tok.bare) ∧ Hid (Below w.heap.size w wr)) (fun i _ => l.length - (intOf i).toNat)
    case atStart => exact ⟨0, by omega, rfl, hide rfl, hide (Below.refl _ _)⟩
    case round =>
      obtain ⟨j, hj, rfl, HE, HB⟩ := hrel
      by_cases hlt : j < l.length
      · obtain ⟨t, ht⟩ : ∃ t, l[j]? = some t := ⟨_, List.getElem?_eq_getElem hlt⟩
        obtain ⟨t', ht'⟩ : ∃ t, l'[j]? = some t := ⟨_, List.getElem?_eq_getElem (by have := unhide HLL; omega)⟩
        obtain ⟨g, cap1, hv, _, hc1, hg1, r1⟩ := row_read (row_below (unhide HR) (unhide HB)) (by omega)
        obtain ⟨rfl, rfl⟩ : a1 = some ⟨g, 0, none⟩ ∧ q1 = cap1 := by cases hv; exact ⟨rfl, rfl⟩
        obtain ⟨g2, cap2, hv2, _, hc2, hg2, r2⟩ := row_read (row_below (unhide HR') (unhide HB)) (by have := unhide HLL; omega)
        obtain ⟨rfl, rfl⟩ : a2 = some ⟨g2, 0, none⟩ ∧ q2 = cap2 := by cases hv2; exact ⟨rfl, rfl⟩
        obtain ⟨c0, c1, c2, c3⟩ := r1 j t ht
        obtain ⟨d0, d1, d2, d3⟩ := r2 j t' ht'
        have hbare := bare_at l l' j t t' ht ht'
        have hstep := bare_step l l' j t t' ht ht'
        obtain ⟨tk, tp, tx, tn⟩ := t
        obtain ⟨uk, up, ux, un⟩ := t'
        simp only at c0 c1 c2 c3 d0 d1 d2 d3 hbare hstep
        clear hv hv2 r1 r2 ht ht'
        have hl3 : (j : Int) < (l'.length : Int) := by have := unhide HLL; omega
        have hsame := fun w => sameToken_any tk tp tn uk up un tx ux w
        by_cases hq : tk = uk ∧ tx = ux ∧ tn = un
        · rw [decide_eq_true hq] at hsame
          have HX := hide (hstep hq.1.symm hq.2.1.symm hq.2.2.symm (unhide HE))
          clear hbare hstep hq
          go_wp2_with (go_at_call 33; refine (hsame _).mono ?_; rintro e' w' ⟨rfl, hb⟩)
          go_roundw
          case rel => exact ⟨j + 1, by omega, by go_num, HX, hide ((unhide HB).trans (((below_two _ _ _).trans (hb.mono (by simp; omega))).mono (unhide HB).size))⟩
          case measure => simp [intOf]; omega
        · rw [decide_eq_false hq] at hsame
          have hno : ¬ (l'.map Tok.bare = l.map Tok.bare) := fun he => hq ⟨(hbare he).1.symm, (hbare he).2.1.symm, (hbare he).2.2.symm⟩
          clear hbare hstep hq
          go_wp2_with (go_at_call 33; refine (hsame _).mono ?_; rintro e' w' ⟨rfl, hb⟩)
          go_ret
          refine ⟨?_, (unhide HB).trans (((below_two _ _ _).trans (hb.mono (by simp; omega))).mono (unhide HB).size)⟩
          rw [decide_eq_false hno]
          rfl
      · obtain rfl : j = l.length := by omega
        have he : l'.map Tok.bare = l.map Tok.bare := by
          have := unhide HE
          rwa [List.take_length, ← unhide HLL, List.take_length] at this
        go_wp2
        go_ret
        refine ⟨?_, unhide HB⟩
        rw [decide_eq_true he]
        rfl
  · have hl0 : ((l.length : Int) != (l'.length : Int)) = true := by simp; omega
    have hno : ¬ (l'.map Tok.bare = l.map Tok.bare) := fun he => hll (by simpa using congrArg List.length he)
    rw [decide_eq_false hno]
    go_enter Tryd.func32, Tryd.ntmps32
    go_wp2
    go_ret
    exact ⟨rfl, Below.refl _ _⟩
end Go.Proofs.YtggkkhlghlghkaaDoor.lex
