/-
  The model's join of tokens.
-/
import Derived.Test.YtggkkhlghlghkaaDoorJp
import Derived.Test.YtggkkhlghlghkaaDoorLt
namespace Go.Proofs.YtggkkhlghlghkaaDoor.lex
open Go.RowKit Go.Proofs.YtggkkhlghlghkaaDoor.num
set_option linter.unusedVariables false

theorem ba_eq {a b : ByteArray} (h : a.data.toList = b.data.toList) : a = b := by
  rw [← Lib.mk_data a, ← Lib.mk_data b, h]
theorem ba_app (a b : ByteArray) : (a ++ b).data.toList = a.data.toList ++ b.data.toList := by simp
theorem ba_size (l : List UInt8) : (ByteArray.mk l.toArray).size = l.length := rfl
theorem join_few (l : List Tok) (h : 700 < l.length) : joinOut l = (⟨#[]⟩, false) := by
  by_cases h1 : 3000 < (joinS l).length
  · exact joinOut_long l h1
  · refine joinOut_other l h1 (fun he => ?_)
    have := congrArg List.length he
    have h2 := lexAll_few ⟨(joinS l).toArray⟩
    simp at this
    omega

theorem ba_ne {a b : ByteArray} (h : ¬ a = b) : (a.toList == b.toList) = false := by
  rw [beq_eq_false_iff_ne]
  intro e
  rw [ByteArray.toList_eq, ByteArray.toList_eq] at e
  exact h (ba_eq e)
theorem bare_at (l l' : List Tok) (j : Nat) (t t' : Tok) (h : l[j]? = some t) (h' : l'[j]? = some t') (he : l'.map Tok.bare = l.map Tok.bare) : t'.kind = t.kind ∧ t'.text = t.text ∧ t'.num = t.num := by
  have e1 : (l'.map Tok.bare)[j]? = some t'.bare := by rw [List.getElem?_map, h']; rfl
  have e2 : (l.map Tok.bare)[j]? = some t.bare := by rw [List.getElem?_map, h]; rfl
  rw [← he, e1] at e2
  injection e2 with e2
  obtain ⟨tk, tp, tx, tn⟩ := t
  obtain ⟨uk, up, ux, un⟩ := t'
  simp only [Tok.bare, Tok.mk.injEq] at e2
  exact ⟨e2.1, e2.2.2.1, e2.2.2.2⟩
theorem bare_step (l l' : List Tok) (j : Nat) (t t' : Tok) (h : l[j]? = some t) (h' : l'[j]? = some t') (h0 : t'.kind = t.kind) (h2 : t'.text = t.text) (h3 : t'.num = t.num) (he : (l'.take j).map Tok.bare = (l.take j).map Tok.bare) : (l'.take (j + 1)).map Tok.bare = (l.take (j + 1)).map Tok.bare := by
  rw [List.take_add_one, List.take_add_one, h, h', List.map_append, List.map_append, he]
  obtain ⟨tk, tp, tx, tn⟩ := t
  obtain ⟨uk, up, ux, un⟩ := t'
  simp only at h0 h2 h3
  subst h0 h2 h3
  rfl

set_option maxHeartbeats 4000000 in
set_option maxRecDepth 100000 in
theorem specJoin_any (l : List Tok) (v : Value) (base : Nat) (w : World) (hl : l.length ≤ 1048576) (hx : ∀ t ∈ l, t.text.size ≤ 1048576) (h : w.ownsRow base 32 4 v l.length (rowOf l)) :
    Calls Tryd.prog 13 #[v] w fun e w' => e = .returned (.tuple #[.string (joinOut l).1, .bool (joinOut l).2]) ∧ Below w.heap.size w w' := by
  obtain ⟨a1, q1, rfl⟩ := row_slice h
  by_cases h7 : 700 < l.length
  · have h7' : 700 < (l.length : Int) := by omega
    rw [join_few l h7]
    clear h
    go_enter Tryd.func13, Tryd.ntmps13
    go_wp2
    go_ret2
    exact ⟨rfl, Below.refl _ _⟩
  have h7' : ¬ 700 < (l.length : Int) := by omega
  have HR := hide h
  clear h
  go_enter Tryd.func13, Tryd.ntmps13
  go_wp2
  go_loop [4, 5] (fun o i => ∃ j : Nat, j ≤ l.length ∧ i = .int .i64 j ∧ o = .string ⟨(joinS (l.take j)).toArray⟩ ∧ (joinS (l.take j)).length ≤ 3000) (fun _ i => l.length - (intOf i).toNat)
  case atStart => exact ⟨0, by omega, rfl, rfl, by simp [joinS]⟩
  case round =>
    obtain ⟨j, hj, rfl, rfl, hsz⟩ := hrel
    by_cases hlt : j < l.length
    · obtain ⟨t, ht⟩ : ∃ t, l[j]? = some t := ⟨_, List.getElem?_eq_getElem hlt⟩
      obtain ⟨g, cap1, hv, _, hc1, hg1, r1⟩ := row_read (unhide HR) (by omega)
      obtain ⟨rfl, rfl⟩ : a1 = some ⟨g, 0, none⟩ ∧ q1 = cap1 := by cases hv; exact ⟨rfl, rfl⟩
      obtain ⟨-, -, c2, -⟩ := r1 j t ht
      have hstep := joinS_step l j t ht
      have hxt := hx t (List.mem_of_getElem? ht)
      have hmono := joinS_mono l (j + 1)
      obtain ⟨tk, tp, tx, tn⟩ := t
      simp only at c2 hstep hxt
      have htx : tx.size = tx.data.toList.length := Lib.size_eq tx
      have hO : (ByteArray.mk (joinS (l.take j)).toArray).size = (joinS (l.take j)).length := rfl
      clear hv r1 ht
      generalize hJ : joinS (l.take j) = J at *
      by_cases hbig : 3000 < tx.size
      · have hbig' : 3000 < (tx.size : Int) := by omega
        have hlong : joinOut l = (⟨#[]⟩, false) := joinOut_long l (by
          rw [hstep] at hmono
          split at hmono
          · omega
          · simp at hmono; omega)
        clear htx hO hstep hmono hJ
        go_wp2
        go_ret2
        refine ⟨?_, Below.refl _ _⟩
        first | (rw [hlong]; rfl) | rfl
      · have hbig' : ¬ 3000 < (tx.size : Int) := by omega
        generalize hOO : ByteArray.mk J.toArray = O at *
        by_cases h0 : j = 0
        · subst h0
          rw [if_pos rfl] at hstep
          have hJ0 : J = [] := hJ.symm
          have hO0 : O.size = 0 := by rw [hO, hJ0]; rfl
          have s1 : ¬ (9223372036854775807 < O.size + tx.size) := by omega
          have hn : ¬ 3000 < ((O.size : Int) + (tx.size : Int)) := by omega
          have hnx : O ++ tx = ⟨(joinS (l.take (0 + 1))).toArray⟩ := ba_eq (by rw [ba_app, ← hOO, hJ0, hstep]; simp)
          have hle : (joinS (l.take (0 + 1))).length ≤ 3000 := by rw [hstep]; omega
          have HN := hide hnx
          have HL := hide hle
          clear htx hO hstep hmono hJ hnx hle hOO hJ0 hsz
          go_wp2
          go_round
          case rel => exact ⟨1, by omega, by go_num, by rw [unhide HN], unhide HL⟩
          case measure => simp [intOf]; omega
        · rw [if_neg h0] at hstep
          have h0' : 0 < (j : Int) := by omega
          have s1 : ¬ (9223372036854775807 < O.size + 1) := by omega
          have s2 : ¬ (9223372036854775807 < O.size + 1 + tx.size) := by omega
          have hnx : O ++ ⟨#[32]⟩ ++ tx = ⟨(joinS (l.take (j + 1))).toArray⟩ := ba_eq (by rw [ba_app, ba_app, ← hOO, hstep]; simp)
          have hle : (joinS (l.take (j + 1))).length = O.size + 1 + tx.size := by rw [hstep]; simp; omega
          have hO3 : O.size ≤ 3000 := by omega
          have HN := hide hnx
          have HM := hide hmono
          have HL := hide hle
          clear htx hO hstep hmono hJ hnx hle hOO hsz
          by_cases hn : 3000 < O.size + 1 + tx.size
          · have hn' : 3000 < ((O.size : Int) + 1 + (tx.size : Int)) := by omega
            have hlong : joinOut l = (⟨#[]⟩, false) := joinOut_long l (by have := unhide HM; have := unhide HL; omega)
            go_wp2
            go_ret2
            refine ⟨?_, Below.refl _ _⟩
            first | (rw [hlong]; rfl) | rfl
          · have hn' : ¬ 3000 < ((O.size : Int) + 1 + (tx.size : Int)) := by omega
            go_wp2
            go_round
            case rel => exact ⟨j + 1, by omega, by go_num, by rw [unhide HN], by have := unhide HL; omega⟩
            case measure => simp [intOf]; omega
    · obtain rfl : j = l.length := by omega
      rw [List.take_length] at *
      have hshort : ¬ 3000 < (joinS l).length := by omega
      have hO : (ByteArray.mk (joinS l).toArray).size = (joinS l).length := rfl
      have hS := fun w => specLex_any ⟨(joinS l).toArray⟩ w (by omega)
      have hfew := lexAll_few ⟨(joinS l).toArray⟩
      have hcode := join_code l
      have hsame := joinOut_same l hshort
      have hother := joinOut_other l hshort
      generalize hOO : ByteArray.mk (joinS l).toArray = O at *
      generalize lexAll O = R at *
      obtain ⟨l', c, p⟩ := R
      simp only at hS hfew hcode hsame hother
      go_wp2_with fail
      refine (hS _).mono ?_
      rintro e w3 ⟨v0, rfl, hr0, hb⟩
      have R3 := hide (row_below (unhide HR) hb)
      have R0 := hide hr0
      have B3 := hide hb
      obtain ⟨a0, q0, rfl⟩ := row_slice hr0
      clear hr0 hb hS HR
      by_cases hc0 : c = 0
      · subst hc0
        by_cases hll : l'.length = l.length
        · have hl0 : ((l'.length : Int) != (l.length : Int)) = false := by simp; omega
          go_wp2
          have R4 := hide ((unhide R3).alloc (.cells #[.int .i64 0, .int .i64 p] 26))
          have R5 := hide ((unhide R0).alloc (.cells #[.int .i64 0, .int .i64 p] 26))
          have B4 := hide ((unhide B3).alloc (unhide B3).size (.cells #[.int .i64 0, .int .i64 p] 26))
          clear R3 R0 B3 hcode
          generalize w3.alloc (.cells #[.int .i64 0, .int .i64 p] 26) = W6 at *
          have HS := hide hsame
          have HO := hide hother
          clear hsame hother hO hOO hsz hshort
          go_loopw [8] (fun i wr => ∃ j : Nat, j ≤ l.length ∧ i = .int .i64 j ∧ Hid ((l'.take j).map Tok.bare = (l.take j).map Tok.bare) ∧ Hid (Below W6.heap.size W6 wr)) (fun i _ => l.length - (intOf i).toNat)
          case atStart => exact ⟨0, by omega, rfl, hide rfl, hide (Below.refl _ _)⟩
          case round =>
            obtain ⟨j, hj, rfl, HE, HB⟩ := hrel
            by_cases hlt : j < l.length
            · obtain ⟨t, ht⟩ : ∃ t, l[j]? = some t := ⟨_, List.getElem?_eq_getElem hlt⟩
              obtain ⟨t', ht'⟩ : ∃ t, l'[j]? = some t := ⟨_, List.getElem?_eq_getElem (by omega)⟩
              obtain ⟨g, cap1, hv, _, hc1, hg1, r1⟩ := row_read (unhide R4) (by omega)
              obtain ⟨rfl, rfl⟩ : a1 = some ⟨g, 0, none⟩ ∧ q1 = cap1 := by cases hv; exact ⟨rfl, rfl⟩
              obtain ⟨g2, cap2, hv2, _, hc2, hg2, r2⟩ := row_read (unhide R5) (by omega)
              obtain ⟨rfl, rfl⟩ : a0 = some ⟨g2, 0, none⟩ ∧ q0 = cap2 := by cases hv2; exact ⟨rfl, rfl⟩
              obtain ⟨c0, -, c2, c3⟩ := r1 j t ht
              obtain ⟨d0, -, d2, d3⟩ := r2 j t' ht'
              rw [← (unhide HB).cell (by exact hg1)] at c0 c2 c3
              rw [← (unhide HB).cell (by exact hg2)] at d0 d2 d3
              have hbare := bare_at l l' j t t' ht ht'
              have hstep := bare_step l l' j t t' ht ht'
              obtain ⟨tk, tp, tx, tn⟩ := t
              obtain ⟨uk, up, ux, un⟩ := t'
              simp only at c0 c2 c3 d0 d2 d3 hbare hstep
              clear hv hv2 r1 r2 ht ht'
              have hl3 : (j : Int) < (l'.length : Int) := by omega
              by_cases e2 : ux = tx
              · subst e2
                by_cases e0 : uk = tk
                · subst e0
                  by_cases e3 : un = tn
                  · subst e3
                    have HX := hide (hstep rfl rfl rfl (unhide HE))
                    clear hbare hstep
                    go_wp2
                    go_quiet (fail)
                    go_wp2
                    go_roundw
                    case rel => exact ⟨j + 1, by omega, by go_num, HX, hide (below_drewN (unhide HB) _)⟩
                    case measure => simp [intOf]; omega
                  · have hno := unhide HO (fun he => e3 (hbare he).2.2)
                    have f3 : (un != tn) = true := by simpa using e3
                    have f3' : decide (un = tn) = false := decide_eq_false e3
                    clear hbare hstep
                    go_wp2
                    go_quiet (fail)
                    go_wp2
                    go_ret2
                    refine ⟨?_, (unhide B4).trans ((below_drewN (unhide HB) _).mono (unhide B4).size)⟩
                    first | (rw [hno]; rfl) | rfl
                · have hno := unhide HO (fun he => e0 (hbare he).1)
                  have f3 : (uk != tk) = true := by simpa using e0
                  have f3' : decide (uk = tk) = false := decide_eq_false e0
                  clear hbare hstep
                  go_wp2
                  go_quiet (fail)
                  go_wp2
                  go_ret2
                  refine ⟨?_, (unhide B4).trans ((below_drewN (unhide HB) _).mono (unhide B4).size)⟩
                  first | (rw [hno]; rfl) | rfl
              · have hno := unhide HO (fun he => e2 (hbare he).2.1)
                have f3 : (ux.toList == tx.toList) = false := ba_ne e2
                have f3' : decide (ux = tx) = false := decide_eq_false e2
                clear hbare hstep
                go_wp2
                go_quiet (fail)
                go_wp2
                go_ret2
                refine ⟨?_, (unhide B4).trans ((below_drewN (unhide HB) _).mono (unhide B4).size)⟩
                first | (rw [hno]; rfl) | rfl
            · obtain rfl : j = l.length := by omega
              have he : l'.map Tok.bare = l.map Tok.bare := by
                have := unhide HE
                rwa [List.take_length, ← hll, List.take_length] at this
              have hyes := unhide HS he
              go_wp2
              go_ret2
              refine ⟨?_, (unhide B4).trans ((unhide HB).mono (unhide B4).size)⟩
              first | (rw [hyes]; rfl) | rfl
        · have hl0 : ((l'.length : Int) != (l.length : Int)) = true := by simp; omega
          have hno := hother (fun he => hll (by simpa using congrArg List.length he))
          go_wp2
          go_ret2
          refine ⟨?_, (unhide B3).alloc (unhide B3).size _⟩
          first | (rw [hno]; rfl) | rfl
      · have hc1 : (c != 0) = true := by simpa using hc0
        have hno := hother (fun he => hc0 (hcode he))
        go_wp2
        go_ret2
        refine ⟨?_, (unhide B3).alloc (unhide B3).size _⟩
        first | (rw [hno]; rfl) | rfl
end Go.Proofs.YtggkkhlghlghkaaDoor.lex
