/-
  The law on blanks, walked.
-/
import Derived.Test.YtggkkhlghlghkaaDoorBm
import Derived.Test.YtggkkhlghlghkaaDoorDr
import Derived.Test.YtggkkhlghlghkaaDoorLt
import Derived.Test.YtggkkhlghlghkaaDoorA8
namespace Go.Proofs.YtggkkhlghlghkaaDoor.lex
open Go.RowKit Go.Proofs.YtggkkhlghlghkaaDoor.num
set_option linter.unusedVariables false

/-- What the law keeps while it writes. -/
structure Kb (w : World) (a : Option Addr) (len b1 : Nat) (v1 : Value) (l : List Tok) (wx : World) : Prop where
  sg : Sg wx
  row : wx.ownsRow b1 32 4 v1 l.length (rowOf l)
  code : Code8 wx a len
  below : Below w.heap.size w wx
theorem Kb.next {w : World} {a : Option Addr} {len b1 : Nat} {v1 : Value} {l : List Tok} {wx wy : World} (h : Kb w a len b1 v1 l wx) (hb : Below wx.heap.size wx wy) : Kb w a len b1 v1 l wy :=
  ⟨h.sg.below hb h.sg.size, row_below h.row hb, h.code.below hb, h.below.trans (hb.mono h.below.size)⟩
theorem Kb.alloc {w : World} {a : Option Addr} {len b1 : Nat} {v1 : Value} {l : List Tok} {wx : World} (h : Kb w a len b1 v1 l wx) (o : Obj) : Kb w a len b1 v1 l (wx.alloc o) := h.next ((Below.refl _ _).alloc (Nat.le_refl _) _)
theorem sep_size (i : Nat) : (sep i).length ≤ 11 := by
  match i with
  | 0 => decide
  | 1 => decide
  | n + 2 => exact Nat.le_refl 11
theorem placed_size (s : ByteArray) : ∀ (l : List Tok) (e : Nat), Placed s e l → ∀ t ∈ l, t.text.size ≤ s.size
  | [], _, _, t, ht => by cases ht
  | x :: r, e, h, t, ht => by
    obtain ⟨p, _, hs, hr⟩ := h
    rcases List.mem_cons.1 ht with rfl | ht
    · have := hs.fit; omega
    · exact placed_size s r _ hr t ht
theorem data_append (a b : ByteArray) : (a ++ b).data.toList = a.data.toList ++ b.data.toList := by simp

set_option maxHeartbeats 4000000 in
set_option maxRecDepth 100000 in
theorem blanks_walk (a : Option Addr) (len cap : Nat) (z : List Int) (w : World) (hz : IsRow .u8 w a len cap z) (h : Sg w) :
    Calls Tryd.prog 5 #[.slice a len cap] w fun e w' => e = .returned (.bool true) ∧ Below w.heap.size w w' := by
  obtain ⟨hc8, hl, hm⟩ := code_of_row hz
  have HC := hide hc8
  clear hc8 hz
  by_cases hlen : 1048576 < len
  · go_enter Tryd.func5, Tryd.ntmps5
    go_wp2
    go_ret
    exact ⟨rfl, Below.refl _ _⟩
  have H := hide h
  clear h
  go_enter Tryd.func5, Tryd.ntmps5
  go_wp2_with fail
  refine (draw.drawText_any w a len cap (unhide HC) hl hm).mono ?_
  rintro e w1 ⟨s, rfl, hs, hb⟩
  have S1 := hide ((unhide H).below hb (unhide H).size)
  have B1 := hide hb
  have C1 := hide ((unhide HC).below hb)
  clear H hb HC
  have hI0 := fun w hg => implLex_any s w (by omega) hg
  have hS := fun w => specLex_any s w (by omega)
  have hfew := lexAll_few s
  have hpl := hide (lexAll_placed s)
  have hgd := hide (lexAll_good s)
  have hbad := lexAll_bad s
  generalize lexAll s = R at *
  obtain ⟨l, c, p⟩ := R
  have hI : ∀ w, Sg w → Calls Tryd.prog 10 #[.string s] w fun e w' => ∃ v, e = .returned (.tuple #[v, .agg #[.int .i64 c, .int .i64 p]]) ∧ w'.ownsRow w.heap.size 32 4 v l.length (rowOf l) ∧ Below w.heap.size w w' := hI0
  clear hI0
  simp only at hS hfew hpl hbad hgd
  go_wp2_with fail
  refine (hI _ (unhide S1)).mono ?_
  rintro e w2 ⟨v1, rfl, hr1, hb⟩
  have K2 : Hid (Kb w a len w1.heap.size v1 l w2) := hide ⟨(unhide S1).below hb (unhide S1).size, hr1, (unhide C1).below hb, (unhide B1).trans (hb.mono (unhide B1).size)⟩
  clear hr1 hb S1 B1 C1
  go_wp2_with fail
  refine (hS _).mono ?_
  rintro e w3 ⟨v0, rfl, hr0, hb⟩
  have K3 := hide (((unhide K2).alloc (.cells #[.int .i64 c, .int .i64 p] 26)).next hb)
  have c0 : ∀ o, (w3.alloc o).cell? ⟨w2.heap.size, 0, none⟩ = some (.int .i64 c) := fun o => (f2 (at_alloc (at_below hb (one_first _ _) (by simp)))).1
  have c1 : ∀ o, (w3.alloc o).cell? ⟨w2.heap.size, 1, none⟩ = some (.int .i64 p) := fun o => (f2 (at_alloc (at_below hb (one_first _ _) (by simp)))).2
  obtain ⟨a1, q1, rfl⟩ := row_slice (unhide K3).row
  clear hr0 hb K2 hI hS
  have K4 := hide ((unhide K3).alloc (.cells #[.int .i64 c, .int .i64 p] 26))
  clear K3
  by_cases hc0 : c = 0
  · subst hc0
    go_wp2
    clear c0 c1
    go_loopw [8, 9] (fun o i wr => ∃ (j : Nat) (T : ByteArray) (q : List (Tok × Nat)), j ≤ l.length ∧ i = .int .i64 j ∧ o = .string T ∧ q.map Prod.fst = l.take j ∧ Hid (T.data.toList = joinB q) ∧ T.size ≤ j * 5000 ∧ Hid (Kb w a len w1.heap.size (.slice a1 l.length q1) l wr)) (fun _ i _ => l.length - (intOf i).toNat)
    case atStart => exact ⟨0, ⟨#[]⟩, [], by omega, rfl, rfl, rfl, hide rfl, by simp [ByteArray.size], K4⟩
    case round =>
      obtain ⟨j, T, q, hj, rfl, rfl, hq, HJ, hT, K⟩ := hrel
      have HQ := hide hq
      clear hq K4
      by_cases hlt : j < l.length
      · obtain ⟨t, ht⟩ : ∃ t, l[j]? = some t := ⟨_, List.getElem?_eq_getElem hlt⟩
        have hsz := placed_size s l 0 (unhide hpl) t (List.mem_of_getElem? ht)
        obtain ⟨g, cap1, hv, _, hc1, hg1, r1⟩ := row_read (unhide K).row (by omega)
        obtain ⟨rfl, rfl⟩ : a1 = some ⟨g, 0, none⟩ ∧ q1 = cap1 := by cases hv; exact ⟨rfl, rfl⟩
        obtain ⟨-, -, c2, -⟩ := r1 j t ht
        obtain ⟨tk, tp, tx, tn⟩ := t
        simp only at c2 hsz
        have HT := hide ht
        clear hv r1 ht
        have s1 : ¬ (9223372036854775807 < T.size + tx.size) := by omega
        go_wp2_with fail
        refine (at_any _ _ _ _ _ (unhide K).code (by omega) (by omega) (by omega)).mono ?_
        rintro e w5 ⟨v, rfl, v0, v1, hb⟩
        have K6 := hide ((unhide K).next hb)
        obtain ⟨v, rfl⟩ := Int.eq_ofNat_of_zero_le v0
        clear hb K c2 s1
        have hvv : v % 3 = 0 ∨ v % 3 = 1 ∨ v % 3 = 2 := by omega
        rcases hvv with hv3 | hv3 | hv3
        · have hv3 : (v : Int) % 3 = 0 := by omega
          have s2 : ¬ (9223372036854775807 < T.size + tx.size + 1) := by omega
          go_wp2
          go_roundw
          case rel =>
            refine ⟨j + 1, T ++ tx ++ ⟨#[32]⟩, q ++ [(⟨tk, tp, tx, tn⟩, 0)], by omega, by go_num, rfl, ?_, ?_, ?_, K6⟩
            · rw [List.map_append, unhide HQ, List.take_add_one, unhide HT]
              rfl
            · exact hide (by rw [joinB_snoc, ← unhide HJ, data_append, data_append]; rfl)
            · rw [ByteArray.size_append, ByteArray.size_append]
              have : (ByteArray.mk #[32]).size = 1 := rfl
              omega
          case measure => simp [intOf]; omega
        · have hv3 : (v : Int) % 3 = 1 := by omega
          have s2 : ¬ (9223372036854775807 < T.size + tx.size + 3) := by omega
          go_wp2
          go_roundw
          case rel =>
            refine ⟨j + 1, T ++ tx ++ ⟨#[10, 32, 10]⟩, q ++ [(⟨tk, tp, tx, tn⟩, 1)], by omega, by go_num, rfl, ?_, ?_, ?_, K6⟩
            · rw [List.map_append, unhide HQ, List.take_add_one, unhide HT]
              rfl
            · exact hide (by rw [joinB_snoc, ← unhide HJ, data_append, data_append]; rfl)
            · rw [ByteArray.size_append, ByteArray.size_append]
              have : (ByteArray.mk #[10, 32, 10]).size = 3 := rfl
              omega
          case measure => simp [intOf]; omega
        · have hv3 : (v : Int) % 3 = 2 := by omega
          have s2 : ¬ (9223372036854775807 < T.size + tx.size + 11) := by omega
          go_wp2
          go_roundw
          case rel =>
            refine ⟨j + 1, T ++ tx ++ ⟨#[35, 32, 110, 111, 32, 40, 119, 111, 114, 100, 10]⟩, q ++ [(⟨tk, tp, tx, tn⟩, 2)], by omega, by go_num, rfl, ?_, ?_, ?_, K6⟩
            · rw [List.map_append, unhide HQ, List.take_add_one, unhide HT]
              rfl
            · exact hide (by rw [joinB_snoc, ← unhide HJ, data_append, data_append]; rfl)
            · rw [ByteArray.size_append, ByteArray.size_append]
              have : (ByteArray.mk #[35, 32, 110, 111, 32, 40, 119, 111, 114, 100, 10]).size = 11 := rfl
              omega
          case measure => simp [intOf]; omega
      · obtain rfl : j = l.length := by omega
        rw [List.take_length] at HQ
        by_cases h3 : 3000 < T.size
        · have h3' : 3000 < (T.size : Int) := by omega
          go_wp2
          go_ret
          exact ⟨rfl, (unhide K).below⟩
        · have h3' : ¬ 3000 < (T.size : Int) := by omega
          have hql : q.length = l.length := by rw [← unhide HQ]; simp
          obtain ⟨l', hl1, hl2⟩ := relex_all T q 0 [] (by exact unhide HJ) (fun x hx => unhide hgd x.1 (by rw [← unhide HQ]; exact List.mem_map_of_mem hx)) (by simp; omega)
          have hlen' : l'.length = l.length := by
            have := congrArg List.length hl2
            simp at this
            omega
          have hat : Hid (∀ (j : Nat) (t t' : Tok), l[j]? = some t → l'[j]? = some t' → t'.kind = t.kind ∧ t'.text = t.text ∧ t'.num = t.num) := hide (by
            intro j t t' h1 h2
            have e1 : (l'.map Tok.bare)[j]? = some t'.bare := by rw [List.getElem?_map, h2]; rfl
            have e2 : (l.map Tok.bare)[j]? = some t.bare := by rw [List.getElem?_map, h1]; rfl
            have e3 : l.map Tok.bare = q.map fun x => x.1.bare := by rw [← unhide HQ, List.map_map]; rfl
            rw [e3, ← hl2, e1] at e2
            injection e2 with e2
            obtain ⟨tk, tp, tx, tn⟩ := t
            obtain ⟨uk, up, ux, un⟩ := t'
            simp only [Tok.bare, Tok.mk.injEq] at e2
            exact ⟨e2.1, e2.2.2.1, e2.2.2.2⟩)
          have hI2 : ∀ w, Sg w → Calls Tryd.prog 10 #[.string T] w fun e w' => ∃ v, e = .returned (.tuple #[v, .agg #[.int .i64 0, .int .i64 0]]) ∧ w'.ownsRow w.heap.size 32 4 v l'.length (rowOf l') ∧ Below w.heap.size w w' := fun w hg => by
            have := implLex_any T w (by omega) hg
            have e : lexAll T = (l', 0, 0) := by rw [lexAll, if_neg h3, hl1]; rfl
            rw [e] at this
            exact this
          clear hl1 hl2 HJ HQ hgd hql
          go_wp2_with fail
          refine (hI2 _ (unhide K).sg).mono ?_
          rintro e w6 ⟨v2, rfl, hr2, hb⟩
          have K6 := hide ((unhide K).next hb)
          have K7 := hide ((unhide K6).alloc (.cells #[.int .i64 0, .int .i64 0] 26))
          have R7 := hide (hr2.alloc (.cells #[.int .i64 0, .int .i64 0] 26))
          obtain ⟨a2, q2, rfl⟩ := row_slice hr2
          have hl0 : ((l'.length : Int) != (l.length : Int)) = false := by simp; omega
          clear hb hr2 K K6 hI2
          go_wp2
          generalize w6.alloc (.cells #[.int .i64 0, .int .i64 0] 26) = W6 at *
          go_loopw [13] (fun i wr => ∃ j : Nat, j ≤ l.length ∧ i = .int .i64 j ∧ Hid (Below W6.heap.size W6 wr)) (fun i _ => l.length - (intOf i).toNat)
          case atStart => exact ⟨0, by omega, rfl, hide (Below.refl _ _)⟩
          case round =>
            obtain ⟨j, hj, rfl, HB⟩ := hrel
            by_cases hlt : j < l.length
            · obtain ⟨t, ht⟩ : ∃ t, l[j]? = some t := ⟨_, List.getElem?_eq_getElem hlt⟩
              obtain ⟨t', ht'⟩ : ∃ t, l'[j]? = some t := ⟨_, List.getElem?_eq_getElem (by omega)⟩
              obtain ⟨e1, e2, e3⟩ := unhide hat j t t' ht ht'
              obtain ⟨g, cap1, hv, _, hc1, hg1, r1⟩ := row_read (unhide K7).row (by omega)
              obtain ⟨rfl, rfl⟩ : a1 = some ⟨g, 0, none⟩ ∧ q1 = cap1 := by cases hv; exact ⟨rfl, rfl⟩
              obtain ⟨g2, cap2, hv2, _, hc2, hg2, r2⟩ := row_read (unhide R7) (by omega)
              obtain ⟨rfl, rfl⟩ : a2 = some ⟨g2, 0, none⟩ ∧ q2 = cap2 := by cases hv2; exact ⟨rfl, rfl⟩
              obtain ⟨c0, -, c2, c3⟩ := r1 j t ht
              obtain ⟨d0, -, d2, d3⟩ := r2 j t' ht'
              rw [← (unhide HB).cell (by exact hg1)] at c0 c2 c3
              rw [← (unhide HB).cell (by exact hg2)] at d0 d2 d3
              rw [e1] at d0
              rw [e2] at d2
              rw [e3] at d3
              obtain ⟨tk, tp, tx, tn⟩ := t
              simp only at c0 c2 c3 d0 d2 d3
              clear hv hv2 r1 r2 e1 e2 e3 ht ht'
              have hl3 : (j : Int) < (l'.length : Int) := by omega
              go_wp2
              go_quiet (fail)
              go_wp2
              go_roundw
              case rel => exact ⟨j + 1, by omega, by go_num, hide (below_drewN (unhide HB) _)⟩
              case measure => simp [intOf]; omega
            · obtain rfl : j = l.length := by omega
              go_wp2
              go_ret
              exact ⟨rfl, (unhide K7).below.trans ((unhide HB).mono (unhide K7).below.size)⟩
  · obtain rfl := hbad hc0
    have hc1 : (c != 0) = true := by simpa using hc0
    go_wp2
    go_ret
    exact ⟨rfl, (unhide K4).below⟩
end Go.Proofs.YtggkkhlghlghkaaDoor.lex
