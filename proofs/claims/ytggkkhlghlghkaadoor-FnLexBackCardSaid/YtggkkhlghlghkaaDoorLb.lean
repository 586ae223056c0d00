/-
  The law on texts that are joined and read again, walked.
-/
import Derived.Test.YtggkkhlghlghkaaDoorJi
import Derived.Test.YtggkkhlghlghkaaDoorBw
namespace Go.Proofs.YtggkkhlghlghkaaDoor.lex
open Go.RowKit Go.Proofs.YtggkkhlghlghkaaDoor.num
set_option linter.unusedVariables false

set_option maxHeartbeats 4000000 in
set_option maxRecDepth 100000 in
theorem back_walk (a : Option Addr) (len cap : Nat) (z : List Int) (w : World) (hz : IsRow .u8 w a len cap z) (h : Sg w) :
    Calls Tryd.prog 3 #[.slice a len cap] w fun e w' => e = .returned (.bool true) ∧ Below w.heap.size w w' := by
  obtain ⟨hc8, hl, hm⟩ := code_of_row hz
  have HC := hide hc8
  clear hc8 hz
  by_cases hlen : 1048576 < len
  · go_enter Tryd.func3, Tryd.ntmps3
    go_wp2
    go_ret
    exact ⟨rfl, Below.refl _ _⟩
  have H := hide h
  clear h
  go_enter Tryd.func3, Tryd.ntmps3
  go_wp2_with fail
  refine (draw.drawText_any w a len cap (unhide HC) hl hm).mono ?_
  rintro e w1 ⟨s, rfl, hs, hb⟩
  have S1 := hide ((unhide H).below hb (unhide H).size)
  have B1 := hide hb
  have C1 := hide ((unhide HC).below hb)
  clear H hb HC
  have hI0 := fun w hg => implLex_any s w (by omega) hg
  have hS := fun w => specLex_any s w (by omega)
  have hfew := lexAll_few s
  have hpl := hide (lexAll_placed s)
  have hbad := lexAll_bad s
  generalize lexAll s = R at *
  obtain ⟨l, c, p⟩ := R
  have hI : ∀ w, Sg w → Calls Tryd.prog 10 #[.string s] w fun e w' => ∃ v, e = .returned (.tuple #[v, .agg #[.int .i64 c, .int .i64 p]]) ∧ w'.ownsRow w.heap.size 32 4 v l.length (rowOf l) ∧ Below w.heap.size w w' := hI0
  clear hI0
  simp only at hS hfew hpl hbad
  have hx : Hid (∀ t ∈ l, t.text.size ≤ 1048576) := hide (fun t ht => by have := placed_size s l 0 (unhide hpl) t ht; omega)
  clear hpl
  go_wp2_with fail
  refine (hI _ (unhide S1)).mono ?_
  rintro e w2 ⟨v1, rfl, hr1, hb⟩
  have K2 : Hid (Kb w a len w1.heap.size v1 l w2) := hide ⟨(unhide S1).below hb (unhide S1).size, hr1, (unhide C1).below hb, (unhide B1).trans (hb.mono (unhide B1).size)⟩
  clear hr1 hb S1 B1 C1
  go_wp2_with fail
  refine (hS _).mono ?_
  rintro e w3 ⟨v0, rfl, hr0, hb⟩
  have K3 := hide (((unhide K2).alloc (.cells #[.int .i64 c, .int .i64 p] 26)).next hb)
  have c0 : ∀ o, (w3.alloc o).cell? ⟨w2.heap.size, 0, none⟩ = some (.int .i64 c) := fun o => (f2 (at_alloc (at_below hb (one_first _ _) (by simp)))).1
  have c1 : ∀ o, (w3.alloc o).cell? ⟨w2.heap.size, 1, none⟩ = some (.int .i64 p) := fun o => (f2 (at_alloc (at_below hb (one_first _ _) (by simp)))).2
  obtain ⟨a1, q1, rfl⟩ := row_slice (unhide K3).row
  clear hr0 hb K2 hI hS
  have K4 := hide ((unhide K3).alloc (.cells #[.int .i64 c, .int .i64 p] 26))
  clear K3
  by_cases hc0 : c = 0
  · subst hc0
    have hJi := fun wx (hw : Kb w a len w1.heap.size (.slice a1 l.length q1) l wx) => implJoin_any l _ _ wx hw.sg (by omega) (unhide hx) hw.row
    have hJs := fun wx (hw : Kb w a len w1.heap.size (.slice a1 l.length q1) l wx) => specJoin_any l _ _ wx (by omega) (unhide hx) hw.row
    have hJ := joinOut_true l
    generalize joinOut l = R at *
    obtain ⟨J, ok⟩ := R
    simp only at hJi hJs hJ
    go_wp2_with fail
    refine (hJi _ (unhide K4)).mono ?_
    rintro e w5 ⟨rfl, hb⟩
    have K5 := hide ((unhide K4).next hb)
    clear hb K4 c0 c1 hJi
    go_wp2_with fail
    refine (hJs _ (unhide K5)).mono ?_
    rintro e w6 ⟨rfl, hb⟩
    have K6 := hide ((unhide K5).next hb)
    clear hb K5 hJs
    cases ok with
    | false =>
      go_wp2
      go_ret
      exact ⟨rfl, (unhide K6).below⟩
    | true =>
      obtain ⟨hj1, hj2, hj3⟩ := hJ rfl
      have hcode := join_code l hj3
      have hJsz : J.size ≤ 3000 := by
        have hO : (ByteArray.mk (joinS l).toArray).size = (joinS l).length := rfl
        rw [hj2]; omega
      rw [← hj2] at hj3 hcode
      have hI1 := fun w hg => implLex_any J w (by omega) hg
      clear hj1 hj2 hJ
      generalize lexAll J = R at *
      obtain ⟨l', c', p'⟩ := R
      simp only at hj3 hcode
      subst hcode
      have hI2 : ∀ w, Sg w → Calls Tryd.prog 10 #[.string J] w fun e w' => ∃ v, e = .returned (.tuple #[v, .agg #[.int .i64 0, .int .i64 p']]) ∧ w'.ownsRow w.heap.size 32 4 v l'.length (rowOf l') ∧ Below w.heap.size w w' := hI1
      clear hI1
      have hlen' : l'.length = l.length := by simpa using congrArg List.length hj3
      have hat : Hid (∀ (j : Nat) (t t' : Tok), l[j]? = some t → l'[j]? = some t' → t'.kind = t.kind ∧ t'.text = t.text ∧ t'.num = t.num) := hide (fun j t t' h h' => bare_at l l' j t t' h h' hj3)
      clear hj3
      go_wp2_with fail
      refine (hI2 _ (unhide K6).sg).mono ?_
      rintro e w7 ⟨v2, rfl, hr2, hb⟩
      have K7 := hide (((unhide K6).next hb).alloc (.cells #[.int .i64 0, .int .i64 p'] 26))
      have R7 := hide (hr2.alloc (.cells #[.int .i64 0, .int .i64 p'] 26))
      obtain ⟨a2, q2, rfl⟩ := row_slice hr2
      have hl0 : ((l'.length : Int) != (l.length : Int)) = false := by simp; omega
      clear hb hr2 K6 hI2
      go_wp2
      generalize w7.alloc (.cells #[.int .i64 0, .int .i64 p'] 26) = W6 at *
      go_loopw [14] (fun i wr => ∃ j : Nat, j ≤ l.length ∧ i = .int .i64 j ∧ Hid (Below W6.heap.size W6 wr)) (fun i _ => l.length - (intOf i).toNat)
      case atStart => exact ⟨0, by omega, rfl, hide (Below.refl _ _)⟩
      case round =>
        obtain ⟨j, hj, rfl, HB⟩ := hrel
        by_cases hlt : j < l.length
        · obtain ⟨t, ht⟩ : ∃ t, l[j]? = some t := ⟨_, List.getElem?_eq_getElem hlt⟩
          obtain ⟨t', ht'⟩ : ∃ t, l'[j]? = some t := ⟨_, List.getElem?_eq_getElem (by omega)⟩
          obtain ⟨e1, e2, e3⟩ := unhide hat j t t' ht ht'
          obtain ⟨g, cap1, hv, _, hc1, hg1, r1⟩ := row_read (unhide K7).row (by omega)
          obtain ⟨rfl, rfl⟩ : a1 = some ⟨g, 0, none⟩ ∧ q1 = cap1 := by cases hv; exact ⟨rfl, rfl⟩
          obtain ⟨g2, cap2, hv2, _, hc2, hg2, r2⟩ := row_read (unhide R7) (by omega)
          obtain ⟨rfl, rfl⟩ : a2 = some ⟨g2, 0, none⟩ ∧ q2 = cap2 := by cases hv2; exact ⟨rfl, rfl⟩
          obtain ⟨c0, -, c2, c3⟩ := r1 j t ht
          obtain ⟨d0, -, d2, d3⟩ := r2 j t' ht'
          rw [← (unhide HB).cell (by exact hg1)] at c0 c2 c3
          rw [← (unhide HB).cell (by exact hg2)] at d0 d2 d3
          rw [e1] at d0
          rw [e2] at d2
          rw [e3] at d3
          obtain ⟨tk, tp, tx, tn⟩ := t
          simp only at c0 c2 c3 d0 d2 d3
          clear hv hv2 r1 r2 e1 e2 e3 ht ht'
          have hl3 : (j : Int) < (l'.length : Int) := by omega
          go_wp2
          go_quiet (fail)
          go_wp2
          go_roundw
          case rel => exact ⟨j + 1, by omega, by go_num, hide (below_drewN (unhide HB) _)⟩
          case measure => simp [intOf]; omega
        · obtain rfl : j = l.length := by omega
          go_wp2
          go_ret
          exact ⟨rfl, (unhide K7).below.trans ((unhide HB).mono (unhide K7).below.size)⟩
  · obtain rfl := hbad hc0
    have hc1 : (c != 0) = true := by simpa using hc0
    go_wp2
    go_ret
    exact ⟨rfl, (unhide K4).below⟩
end Go.Proofs.YtggkkhlghlghkaaDoor.lex
