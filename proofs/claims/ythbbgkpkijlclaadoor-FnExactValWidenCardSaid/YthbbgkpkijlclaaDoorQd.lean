/-
  Ranges of one number each; where told faults come from; wider ranges tell no less; widening comes to rest; what a comparison leaves.
-/
import Derived.Test.YthbbgkpkijlclaaDoorQc
namespace Go.Proofs.YthbbgkpkijlclaaDoor.num
open Go.RowKit
set_option linter.unusedVariables false

theorem cLo_one (op x y : Int) : cLo op (x, x) (y, y) = exactV op x y := by unfold cLo; simp only; omega
theorem cHi_one (op x y : Int) : cHi op (x, x) (y, y) = exactV op x y := by unfold cHi; simp only; omega
theorem cut_one (x : Int) : cut8 x x = if okB x = true then (x, x) else none8 := by
  split
  · rename_i h; rw [okB_iff] at h; exact cut8_eq h.1 h.2 (Int.le_refl _)
  · rename_i h; rw [okB_iff] at h; exact cut8_none (by omega)
theorem one_ok {x : Int} (h : okB x = true) : rOk (x, x) = true := by rw [okB_iff] at h; exact some_ok ⟨h.1, h.2, Int.le_refl _⟩
theorem one_not (x : Int) : ¬ isN ((x, x) : R8) = true := by rw [isN_iff]; simp only; omega
theorem has_one {x v : Int} (h : okB x = true) : rHas (x, x) v = true ↔ v = x := by rw [rHas_iff]; rw [okB_iff] at h; simp only; omega
theorem numDo_zero {op x y : Int} (ho : inB op 1 13 = true) (hx : okB x = true) (hy : okB y = true) (hd : op = 4 ∨ op = 5) (y0 : y = 0) : numDo op x y = (0, 2) := by
  rw [numDo_eq ho hx hy, if_pos ⟨hd, y0⟩]
theorem numDo_shift {op x y : Int} (ho : inB op 1 13 = true) (hx : okB x = true) (hy : okB y = true) (hs : op = 9 ∨ op = 10) (hin : inB y 0 31 = false) : numDo op x y = (0, 3) := by
  rw [numDo_eq ho hx hy, if_neg (by omega), if_pos ⟨hs, hin⟩]
theorem numDo_wrap {op x y : Int} (ho : inB op 1 13 = true) (hx : okB x = true) (hy : okB y = true) (h : 11 ≤ op) : numDo op x y = (wrap32 (exactV op x y), 0) := by
  rw [numDo_eq ho hx hy, if_neg (by omega), if_neg (by omega), if_pos h]
theorem numDo_over {op x y : Int} (ho : inB op 1 13 = true) (hx : okB x = true) (hy : okB y = true) (h : op ≤ 10) (hd : op = 4 ∨ op = 5 → ¬ y = 0) (hs : op = 9 ∨ op = 10 → inB y 0 31 = true) (hk : okB (exactV op x y) = false) :
    numDo op x y = (0, 1) := by
  rw [numDo_eq ho hx hy, if_neg (fun h => hd h.1 h.2), if_neg (fun h => by rw [hs h.1] at h; exact absurd h.2 (by simp)), if_neg (by omega), if_pos hk]
theorem numDo_val {op x y : Int} (ho : inB op 1 13 = true) (hx : okB x = true) (hy : okB y = true) (h : op ≤ 10) (hd : op = 4 ∨ op = 5 → ¬ y = 0) (hs : op = 9 ∨ op = 10 → inB y 0 31 = true) (hk : okB (exactV op x y) = true) :
    numDo op x y = (exactV op x y, 0) := by
  rw [numDo_eq ho hx hy, if_neg (fun h => hd h.1 h.2), if_neg (fun h => by rw [hs h.1] at h; exact absurd h.2 (by simp)), if_neg (by omega), if_neg (by simp [hk])]
/-- What NumDo tells, as RangeDo tells it. -/
def oneT (p : Int × Int) : R8 × List Int := if p.2 = 0 then ((p.1, p.1), []) else (none8, [p.2])
theorem oneT_ok (v : Int) : oneT (v, 0) = ((v, v), []) := rfl
theorem oneT_1 : oneT (0, 1) = (none8, [1]) := rfl
theorem oneT_2 : oneT (0, 2) = (none8, [2]) := rfl
theorem oneT_3 : oneT (0, 3) = (none8, [3]) := rfl
theorem divQ_zero {x : Int} : divQ (x, x) (0, 0) = none8 := by
  have e1 : neg8 (0, 0) = none8 := by decide
  have e2 : pos8 (0, 0) = none8 := by decide
  unfold divQ
  rw [e1, e2, if_pos isN_none, if_pos isN_none]
theorem divQ_one {x y : Int} (hy : okB y = true) (y0 : ¬ y = 0) : divQ (x, x) (y, y) = cut8 (exactV 4 x y) (exactV 4 x y) := by
  have e1 := neg8_eq (one_ok hy) (one_not y)
  have e2 := pos8_eq (one_ok hy) (one_not y)
  simp only at e1 e2
  unfold divQ
  by_cases hn : y ≤ -1
  · have e : min y (-1) = y := by omega
    rw [if_pos hn, e] at e1
    rw [if_neg (by omega)] at e2
    rw [e1, e2, if_neg (one_not y), if_pos isN_none, cLo_one, cHi_one]
  · have e : max y 1 = y := by omega
    rw [if_neg hn] at e1
    rw [if_pos (by omega), e] at e2
    rw [e1, e2, if_pos isN_none, if_neg (one_not y), cLo_one, cHi_one]
theorem divF_no {op x y : Int} (hy : okB y = true) (y0 : ¬ y = 0) (h : ¬ (op = 4 ∧ x = -2147483648 ∧ y = -1)) : divF op (x, x) (y, y) = [] := by
  unfold divF
  rw [if_neg (by rw [has_one hy]; rintro ⟨h1, h2, h3⟩; exact h ⟨h1, h2, h3.symm⟩), if_neg (by rw [has_one hy]; omega)]
  rfl
theorem divF_zero {op x : Int} : divF op (x, x) (0, 0) = [2] := by
  unfold divF
  rw [if_neg (by rintro ⟨-, -, h⟩; exact absurd h (by decide)), if_pos (by decide)]
  rfl
theorem divF_over {x y : Int} (hx : x = -2147483648) (hy : y = -1) : divF 4 (x, x) (y, y) = [1] := by
  subst hx hy
  decide
/-- Of ranges of one number each RangeDo tells what NumDo does. -/
theorem rangeDo_one {op x y : Int} (ho : inB op 1 13 = true) (hx : okB x = true) (hy : okB y = true) : rangeDo op (x, x) (y, y) = oneT (numDo op x y) := by
  have bx := (okB_iff _).1 hx
  have yb := (okB_iff _).1 hy
  have hop := (inB_iff _ _ _).1 ho
  rw [rangeDo_eq ho (one_ok hx) (one_not x) (one_ok hy) (one_not y)]
  by_cases h4 : op = 4
  · subst h4
    rw [if_pos rfl]
    by_cases y0 : y = 0
    · rw [numDo_zero ho hx hy (.inl rfl) y0, oneT_2, y0, divQ_zero, divF_zero]
    · rw [divQ_one hy y0, cut_one]
      by_cases hk : okB (exactV 4 x y) = true
      · rw [numDo_val ho hx hy (by omega) (fun _ => y0) (fun h => by omega) hk, oneT_ok, if_pos hk, divF_no hy y0]
        rintro ⟨-, h1, h2⟩
        rw [h1, h2] at hk
        exact absurd hk (by decide)
      · have hk' : okB (exactV 4 x y) = false := by simpa using hk
        rw [numDo_over ho hx hy (by omega) (fun _ => y0) (fun h => by omega) hk', oneT_1, if_neg hk]
        rw [exactV_4] at hk'
        obtain ⟨e1, e2⟩ := tdiv_fault bx.1 bx.2 y0 hk'
        rw [divF_over e1 e2]
  · rw [if_neg h4]
    by_cases h5 : op = 5
    · subst h5
      rw [if_pos rfl]
      by_cases y0 : y = 0
      · rw [numDo_zero ho hx hy (.inr rfl) y0, oneT_2, y0, divF_zero]
        have e1 : neg8 (0, 0) = none8 := by decide
        have e2 : pos8 (0, 0) = none8 := by decide
        unfold divR
        rw [e1, e2, if_neg (by simp), if_pos isN_none, if_pos isN_none]
      · have m := divR_bd (a := (x, x)) (b := (y, y)) (u := x) (v := y) (one_ok hx) (one_not x) (one_ok hy) (one_not y) ⟨Int.le_refl _, Int.le_refl _⟩ ⟨Int.le_refl _, Int.le_refl _⟩ y0
        have ok := has_okB m
        have e : divR (x, x) (y, y) = (x.tmod y, x.tmod y) := by unfold divR; rw [if_pos ⟨rfl, rfl, y0⟩]
        rw [numDo_val ho hx hy (by omega) (fun _ => y0) (fun h => by omega) (by rw [exactV_5]; exact ok), exactV_5, oneT_ok, e, divF_no hy y0 (by omega)]
    · rw [if_neg h5]
      by_cases h6 : 6 ≤ op ∧ op ≤ 8
      · have hc : op = 6 ∨ op = 7 ∨ op = 8 := by omega
        have bd := bits_bd (u := x) (v := y) hc
        have e : bits8 op (x, x) (y, y) = (exactV op x y, exactV op x y) := by unfold bits8; rw [if_pos ⟨rfl, rfl⟩]
        rw [if_pos h6, numDo_val ho hx hy (by omega) (fun h => by omega) (fun h => by omega) ((okB_iff _).2 bd), oneT_ok, e]
      · rw [if_neg h6]
        by_cases h11 : 11 ≤ op
        · have e : wrapped8 (exactV op x y) (exactV op x y) = (wrap32 (exactV op x y), wrap32 (exactV op x y)) := by unfold wrapped8; rw [if_neg (by omega)]
          rw [if_pos h11, numDo_wrap ho hx hy h11, oneT_ok, cLo_one, cHi_one, e]
        · rw [if_neg h11]
          by_cases hs : op = 9 ∨ op = 10
          · have e8 : by8 op (y, y) = sh8 (y, y) := by unfold by8; rw [if_pos hs]
            have es := sh8_eq (one_ok hy) (one_not y)
            simp only at es
            by_cases hin : inB y 0 31 = false
            · have hin' := (inB_not _ _ _).1 hin
              rw [if_neg (by omega)] at es
              have esf : shiftF (y, y) none8 = [3] := by
                unfold shiftF
                rw [if_neg (by intro h; have h1 := congrArg Prod.fst h; have h2 := congrArg Prod.snd h; simp only [none8] at h1 h2; omega)]
              rw [e8, es, if_pos isN_none, esf, numDo_shift ho hx hy hs hin, oneT_3]
            · have hin' : inB y 0 31 = true := by simpa using hin
              have hb := (inB_iff _ _ _).1 hin'
              have e1 : max y 0 = y := by omega
              have e2 : min y 31 = y := by omega
              rw [if_pos (by omega), e1, e2] at es
              have esf : shiftF (y, y) (y, y) = [] := by unfold shiftF; rw [if_pos rfl]
              rw [e8, es, if_neg (one_not y), esf, cLo_one, cHi_one, cut_one]
              by_cases hk : okB (exactV op x y) = true
              · have hk2 := (okB_iff _).1 hk
                have eo : overF op (x, x) (y, y) = [] := by unfold overF; rw [cLo_one, cHi_one, if_neg (by omega)]
                rw [numDo_val ho hx hy (by omega) (fun h => by omega) (fun _ => hin') hk, oneT_ok, if_pos hk, eo]
                rfl
              · have hk' : okB (exactV op x y) = false := by simpa using hk
                have hk2 := (okB_not _).1 hk'
                have eo : overF op (x, x) (y, y) = [1] := by unfold overF; rw [cLo_one, cHi_one, if_pos (by omega)]
                rw [numDo_over ho hx hy (by omega) (fun h => by omega) (fun _ => hin') hk', oneT_1, if_neg hk, eo]
                rfl
          · have e8 : by8 op (y, y) = (y, y) := by unfold by8; rw [if_neg hs]
            have esf : shiftF (y, y) (y, y) = [] := by unfold shiftF; rw [if_pos rfl]
            rw [e8, if_neg (one_not y), esf, cLo_one, cHi_one, cut_one]
            by_cases hk : okB (exactV op x y) = true
            · have hk2 := (okB_iff _).1 hk
              have eo : overF op (x, x) (y, y) = [] := by unfold overF; rw [cLo_one, cHi_one, if_neg (by omega)]
              rw [numDo_val ho hx hy (by omega) (fun h => by omega) (fun h => absurd h hs) hk, oneT_ok, if_pos hk, eo]
              rfl
            · have hk' : okB (exactV op x y) = false := by simpa using hk
              have hk2 := (okB_not _).1 hk'
              have eo : overF op (x, x) (y, y) = [1] := by unfold overF; rw [cLo_one, cHi_one, if_pos (by omega)]
              rw [numDo_over ho hx hy (by omega) (fun h => by omega) (fun h => absurd h hs) hk', oneT_1, if_neg hk, eo]
              rfl

/-! ### Where a told fault comes from -/
theorem over_corner {op : Int} {a c : R8} (h : cLo op a c < -2147483648 ∨ 2147483647 < cHi op a c) :
    ∃ x y, (x = a.1 ∨ x = a.2) ∧ (y = c.1 ∨ y = c.2) ∧ okB (exactV op x y) = false := by
  unfold cLo cHi at h
  have h' : okB (exactV op a.1 c.1) = false ∨ okB (exactV op a.1 c.2) = false ∨ okB (exactV op a.2 c.1) = false ∨ okB (exactV op a.2 c.2) = false := by
    simp only [okB_not]
    generalize exactV op a.1 c.1 = p at *
    generalize exactV op a.1 c.2 = q at *
    generalize exactV op a.2 c.1 = r at *
    generalize exactV op a.2 c.2 = s at *
    omega
  rcases h' with h' | h' | h' | h'
  · exact ⟨_, _, .inl rfl, .inl rfl, h'⟩
  · exact ⟨_, _, .inl rfl, .inr rfl, h'⟩
  · exact ⟨_, _, .inr rfl, .inl rfl, h'⟩
  · exact ⟨_, _, .inr rfl, .inr rfl, h'⟩
theorem rangeDo_fault {op f : Int} {a b : R8} (h : f ∈ (rangeDo op a b).2) :
    ∃ x y, (x = a.1 ∨ x = a.2) ∧ (y = b.1 ∨ y = b.2 ∨ y = 0 ∨ y = -1 ∨ y = 31) ∧ rHas a x = true ∧ rHas b y = true ∧ (numDo op x y).2 = f ∧ ¬ f = 0 := by
  by_cases hout : inB op 1 13 = false ∨ rOk a = false ∨ rOk b = false ∨ isN a = true ∨ isN b = true
  · rw [rangeDo_out hout] at h
    simp at h
  · simp only [not_or, Bool.not_eq_false] at hout
    obtain ⟨ho, ha, hb, na, nb⟩ := hout
    have ka := ok_some ha na
    have kb := ok_some hb nb
    have hop := (inB_iff _ _ _).1 ho
    have a1 : rHas a a.1 = true := by rw [rHas_iff]; omega
    have a2 : rHas a a.2 = true := by rw [rHas_iff]; omega
    have b1 : rHas b b.1 = true := by rw [rHas_iff]; omega
    have b2 : rHas b b.2 = true := by rw [rHas_iff]; omega
    have div : op = 4 ∨ op = 5 → f ∈ divF op a b → ∃ x y, (x = a.1 ∨ x = a.2) ∧ (y = b.1 ∨ y = b.2 ∨ y = 0 ∨ y = -1 ∨ y = 31) ∧ rHas a x = true ∧ rHas b y = true ∧ (numDo op x y).2 = f ∧ ¬ f = 0 := by
      intro hd hm0
      unfold divF at hm0
      have hm1 := List.mem_append.1 hm0
      clear hm0
      rcases hm1 with hm | hm
      · split at hm
        · rename_i hh
          obtain ⟨rfl, e1, e2⟩ := hh
          simp only [List.mem_singleton] at hm
          refine ⟨a.1, -1, .inl rfl, by omega, a1, e2, ?_, by omega⟩
          rw [numDo_over ho (has_okB a1) (has_okB e2) (by omega) (fun _ => by omega) (fun h => by omega) (by rw [exactV_4, e1]; decide), hm]
        · simp at hm
      · split at hm
        · rename_i hh
          simp only [List.mem_singleton] at hm
          refine ⟨a.1, 0, .inl rfl, by omega, a1, hh, ?_, by omega⟩
          rw [numDo_zero ho (has_okB a1) (has_okB hh) hd rfl, hm]
        · simp at hm
    rw [rangeDo_eq ho ha na hb nb] at h
    by_cases h4 : op = 4
    · rw [if_pos h4] at h
      exact div (.inl h4) h
    · rw [if_neg h4] at h
      by_cases h5 : op = 5
      · rw [if_pos h5] at h
        exact div (.inr h5) h
      · rw [if_neg h5] at h
        by_cases h6 : 6 ≤ op ∧ op ≤ 8
        · rw [if_pos h6] at h; simp at h
        · rw [if_neg h6] at h
          by_cases h11 : 11 ≤ op
          · rw [if_pos h11] at h; simp at h
          · rw [if_neg h11] at h
            have hshift : op = 9 ∨ op = 10 → f ∈ shiftF b (sh8 b) → ∃ x y, (x = a.1 ∨ x = a.2) ∧ (y = b.1 ∨ y = b.2 ∨ y = 0 ∨ y = -1 ∨ y = 31) ∧ rHas a x = true ∧ rHas b y = true ∧ (numDo op x y).2 = f ∧ ¬ f = 0 := by
              intro hs hm
              unfold shiftF at hm
              split at hm
              · simp at hm
              · rename_i hne
                simp only [List.mem_singleton] at hm
                have hb' : b.1 < 0 ∨ 31 < b.2 := by
                  rcases Int.lt_or_le b.1 0 with k | k
                  · exact .inl k
                  · rcases Int.lt_or_le 31 b.2 with k2 | k2
                    · exact .inr k2
                    · exfalso
                      apply hne
                      rw [sh8_eq hb nb, if_pos (by omega)]
                      apply Prod.ext
                      · simp only; omega
                      · simp only; omega
                rcases hb' with k | k
                · refine ⟨a.1, b.1, .inl rfl, .inl rfl, a1, b1, ?_, by omega⟩
                  rw [numDo_shift ho (has_okB a1) (has_okB b1) hs (by rw [inB_not]; omega), hm]
                · refine ⟨a.1, b.2, .inl rfl, .inr (.inl rfl), a1, b2, ?_, by omega⟩
                  rw [numDo_shift ho (has_okB a1) (has_okB b2) hs (by rw [inB_not]; omega), hm]
            have hover : ¬ isN (by8 op b) = true → f ∈ overF op a (by8 op b) → ∃ x y, (x = a.1 ∨ x = a.2) ∧ (y = b.1 ∨ y = b.2 ∨ y = 0 ∨ y = -1 ∨ y = 31) ∧ rHas a x = true ∧ rHas b y = true ∧ (numDo op x y).2 = f ∧ ¬ f = 0 := by
              intro hn hm
              unfold overF at hm
              split at hm
              · rename_i hh
                simp only [List.mem_singleton] at hm
                obtain ⟨x, y, hx, hy, hk⟩ := over_corner hh
                have hxa : rHas a x = true := by rcases hx with rfl | rfl <;> assumption
                have hyb : rHas b y = true ∧ (y = b.1 ∨ y = b.2 ∨ y = 0 ∨ y = -1 ∨ y = 31) ∧ (op = 9 ∨ op = 10 → 0 ≤ y ∧ y ≤ 31) := by
                  by_cases hs : op = 9 ∨ op = 10
                  · have e8 : by8 op b = sh8 b := by unfold by8; rw [if_pos hs]
                    rw [e8, sh8_eq hb nb] at hy hn
                    by_cases hc : b.1 ≤ 31 ∧ 0 ≤ b.2
                    · rw [if_pos hc] at hy
                      simp only at hy
                      rw [rHas_iff]
                      omega
                    · rw [if_neg hc] at hn
                      exact absurd isN_none hn
                  · have e8 : by8 op b = b := by unfold by8; rw [if_neg hs]
                    rw [e8] at hy
                    rw [rHas_iff]
                    omega
                refine ⟨x, y, hx, hyb.2.1, hxa, hyb.1, ?_, by omega⟩
                rw [numDo_over ho (has_okB hxa) (has_okB hyb.1) (by omega) (fun h => by omega) (fun h => by have := hyb.2.2 h; rw [inB_iff]; omega) hk, hm]
              · simp at hm
            by_cases hn : isN (by8 op b) = true
            · rw [if_pos hn] at h
              by_cases hs : op = 9 ∨ op = 10
              · have e8 : by8 op b = sh8 b := by unfold by8; rw [if_pos hs]
                rw [e8] at h
                exact hshift hs h
              · have e8 : by8 op b = b := by unfold by8; rw [if_neg hs]
                rw [e8] at hn
                exact absurd hn nb
            · rw [if_neg hn] at h
              rcases List.mem_append.1 h with hm | hm
              · exact hover hn hm
              · by_cases hs : op = 9 ∨ op = 10
                · have e8 : by8 op b = sh8 b := by unfold by8; rw [if_pos hs]
                  rw [e8] at hm
                  exact hshift hs hm
                · have e8 : by8 op b = b := by unfold by8; rw [if_neg hs]
                  rw [e8] at hm
                  unfold shiftF at hm
                  rw [if_pos rfl] at hm
                  simp at hm
end Go.Proofs.YthbbgkpkijlclaaDoor.num
