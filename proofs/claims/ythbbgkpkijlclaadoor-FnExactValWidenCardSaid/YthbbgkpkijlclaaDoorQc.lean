/-
  What an operator makes of numbers of two ranges is in the range that is told, or its fault is told.
-/
import Derived.Test.YthbbgkpkijlclaaDoorQb
namespace Go.Proofs.YthbbgkpkijlclaaDoor.num
open Go.RowKit
set_option linter.unusedVariables false

theorem numDo_eq {op u v : Int} (ho : inB op 1 13 = true) (hu : okB u = true) (hv : okB v = true) : numDo op u v =
    if (op = 4 ∨ op = 5) ∧ v = 0 then (0, 2) else if (op = 9 ∨ op = 10) ∧ inB v 0 31 = false then (0, 3)
    else if 11 ≤ op then (wrap32 (exactV op u v), 0) else if okB (exactV op u v) = false then (0, 1) else (exactV op u v, 0) := by
  unfold numDo
  rw [if_neg (by simp [ho, hu, hv])]
theorem has_okB {a : R8} {v : Int} (h : rHas a v = true) : okB v = true := by rw [rHas_iff] at h; rw [okB_iff]; omega
theorem cut_of_btw {lo hi x : Int} (h : lo ≤ x ∧ x ≤ hi) (ok : okB x = true) : rHas (cut8 lo hi) x = true := by
  rw [cut8_has]; rw [okB_iff] at ok; omega
theorem meet_some {b c : R8} (hb : rOk b = true) (hc : rOk c = true) {v : Int} (h1 : rHas b v = true) (h2 : rHas c v = true) :
    rHas (meet8 b c) v = true ∧ isN (meet8 b c) = false ∧ (meet8 b c).1 ≤ v ∧ v ≤ (meet8 b c).2 ∧ c.1 ≤ (meet8 b c).1 ∧ (meet8 b c).2 ≤ c.2 ∧ b.1 ≤ (meet8 b c).1 ∧ (meet8 b c).2 ≤ b.2 := by
  have k : rHas (meet8 b c) v = true := by rw [meet8_has hb hc, h1, h2]; rfl
  have k' := (rHas_iff _ _).1 k
  have i1 := (rIn_iff _ _).1 (meet8_in_l hb hc)
  have i2 := (rIn_iff _ _).1 (meet8_in_r hb hc)
  exact ⟨k, by rw [isN_not]; omega, by omega, by omega, by omega, by omega, by omega, by omega⟩

/-! ### Quotients and rests -/
theorem tdiv_fault {u v : Int} (hu : -2147483648 ≤ u) (hu2 : u ≤ 2147483647) (hv : ¬ v = 0) (h : okB (u.tdiv v) = false) : u = -2147483648 ∧ v = -1 := by
  rw [okB_not] at h
  rcases Int.lt_trichotomy v 0 with hn | h0 | hp
  · by_cases h1 : v = -1
    · subst h1
      rw [show (-1 : Int) = -(1 : Int) from rfl, Int.tdiv_neg, Int.tdiv_one] at h
      omega
    · exfalso
      by_cases hu0 : 0 ≤ u
      · have k1 := tdiv_anti hu0 (show (0 : Int) < 2 by omega) (show 2 ≤ -v by omega)
        have k2 := Int.tdiv_nonneg hu0 (show 0 ≤ -v by omega)
        have k3 : u.tdiv 2 ≤ u := by rw [Int.tdiv_eq_ediv_of_nonneg hu0]; omega
        rw [Int.tdiv_neg] at k1 k2
        omega
      · have k1 := tdiv_anti (show 0 ≤ -u by omega) (show (0 : Int) < 2 by omega) (show 2 ≤ -v by omega)
        have k2 := Int.tdiv_nonneg (show 0 ≤ -u by omega) (show 0 ≤ -v by omega)
        have k3 : (-u).tdiv 2 ≤ 1073741824 := by rw [Int.tdiv_eq_ediv_of_nonneg (by omega)]; omega
        rw [Int.neg_tdiv, Int.tdiv_neg] at k1 k2
        omega
  · exact absurd h0 hv
  · exfalso
    by_cases hu0 : 0 ≤ u
    · have k1 := tdiv_anti hu0 (show (0 : Int) < 1 by omega) (show 1 ≤ v by omega)
      have k2 := Int.tdiv_nonneg hu0 (show 0 ≤ v by omega)
      rw [Int.tdiv_one] at k1
      omega
    · have k1 := tdiv_anti (show 0 ≤ -u by omega) (show (0 : Int) < 1 by omega) (show 1 ≤ v by omega)
      have k2 := Int.tdiv_nonneg (show 0 ≤ -u by omega) (show 0 ≤ v by omega)
      rw [Int.tdiv_one] at k1
      rw [Int.neg_tdiv] at k1 k2
      omega
/-- What is known of a rest: its sign, its size; and it is the number itself where that is lesser than what divides. -/
theorem tmod_nn {u v : Int} (hu : 0 ≤ u) (hv : 0 < v) : 0 ≤ u.tmod v ∧ u.tmod v ≤ u ∧ u.tmod v < v ∧ (u < v → u.tmod v = u) := by
  have h1 := Int.tmod_nonneg v hu
  have h2 := Int.tmod_lt_of_pos u hv
  have h3 : u < v → u.tmod v = u := fun h => Int.tmod_eq_of_lt hu h
  refine ⟨h1, ?_, h2, h3⟩
  by_cases h : u < v
  · rw [h3 h]; omega
  · omega
theorem tmod_pos_fact {u v : Int} (hv : 0 < v) : (0 ≤ u → 0 ≤ u.tmod v ∧ u.tmod v ≤ u) ∧ (u ≤ 0 → u ≤ u.tmod v ∧ u.tmod v ≤ 0) ∧ -v < u.tmod v ∧ u.tmod v < v ∧ (-v < u ∧ u < v → u.tmod v = u) := by
  by_cases hu : 0 ≤ u
  · obtain ⟨h1, h2, h3, h4⟩ := tmod_nn hu hv
    exact ⟨fun _ => ⟨h1, h2⟩, fun h => by
      have : u = 0 := by omega
      subst this
      rw [Int.zero_tmod]; omega, by omega, h3, fun h => h4 h.2⟩
  · obtain ⟨h1, h2, h3, h4⟩ := tmod_nn (show 0 ≤ -u by omega) hv
    rw [Int.neg_tmod] at h1 h2 h3 h4
    exact ⟨fun h => absurd h hu, fun h => ⟨by omega, by omega⟩, by omega, by omega, fun h => by have := h4 (by omega); omega⟩
theorem tmod_neg_fact {u v : Int} (hv : v < 0) : (0 ≤ u → 0 ≤ u.tmod v ∧ u.tmod v ≤ u) ∧ (u ≤ 0 → u ≤ u.tmod v ∧ u.tmod v ≤ 0) ∧ v < u.tmod v ∧ u.tmod v < -v ∧ (v < u ∧ u < -v → u.tmod v = u) := by
  have h := tmod_pos_fact (u := u) (v := -v) (by omega)
  rw [Int.tmod_neg] at h
  obtain ⟨h1, h2, h3, h4, h5⟩ := h
  exact ⟨h1, h2, by omega, h4, fun h => h5 ⟨by omega, h.2⟩⟩
theorem rem8_has {a : R8} {u t l h m : Int} (hu : a.1 ≤ u ∧ u ≤ a.2) (hm : l ≤ m ∧ m ≤ h) (h1 : 0 ≤ u → 0 ≤ t ∧ t ≤ u) (h2 : u ≤ 0 → u ≤ t ∧ t ≤ 0) (h3 : -m < t ∧ t < m)
    (h4 : -m < u ∧ u < m → t = u) : (rem8 a l h).1 ≤ t ∧ t ≤ (rem8 a l h).2 := by
  unfold rem8
  split
  · have := h4 (by omega)
    omega
  · constructor
    · simp only; split
      · rcases Int.le_total 0 u with k | k
        · have := h1 k; omega
        · have := h2 k; omega
      · have := h1 (by omega); omega
    · simp only; split
      · rcases Int.le_total 0 u with k | k
        · have := h1 k; omega
        · have := h2 k; omega
      · have := h2 (by omega); omega
/-- The rests by numbers from l to h lie within 32 bits, and there are some. -/
theorem rem8_ok {a : R8} {l h : Int} (ha : -2147483648 ≤ a.1 ∧ a.2 ≤ 2147483647 ∧ a.1 ≤ a.2) (hl : 1 ≤ l) (hh : l ≤ h) : -2147483648 ≤ (rem8 a l h).1 ∧ (rem8 a l h).2 ≤ 2147483647 ∧ (rem8 a l h).1 ≤ (rem8 a l h).2 := by
  unfold rem8
  split
  · exact ha
  · refine ⟨?_, ?_, ?_⟩
    · simp only; split <;> omega
    · simp only; split <;> omega
    · simp only; split <;> split <;> omega
theorem join8_eq {a b : R8} (ha : a.1 ≤ a.2) (hb : b.1 ≤ b.2) (oka : rOk a = true) (okb : rOk b = true) : join8 a b = (min a.1 b.1, max a.2 b.2) := by
  unfold join8
  rw [if_neg (by simp [oka, okb]), if_neg (by simp [some_not ha]), if_neg (by simp [some_not hb])]
/-- What of b lies below 0, above 0, from 0 to 31. -/
theorem neg8_eq {b : R8} (ok : rOk b = true) (nb : ¬ isN b = true) : neg8 b = if b.1 ≤ -1 then (b.1, min b.2 (-1)) else none8 := by
  have k := ok_some ok nb
  unfold neg8 meet8
  rw [if_neg (by simp only [ok, nb]; decide)]
  by_cases h : b.1 ≤ -1
  · rw [if_pos h, cut8_eq (by omega) (by omega) (by omega)]
    have e : max b.1 (-2147483648) = b.1 := by omega
    rw [e]
  · rw [if_neg h, cut8_none (by omega)]
theorem pos8_eq {b : R8} (ok : rOk b = true) (nb : ¬ isN b = true) : pos8 b = if 1 ≤ b.2 then (max b.1 1, b.2) else none8 := by
  have k := ok_some ok nb
  unfold pos8 meet8
  rw [if_neg (by simp only [ok, nb]; decide)]
  by_cases h : 1 ≤ b.2
  · rw [if_pos h, cut8_eq (by omega) (by omega) (by omega)]
    have e : min b.2 2147483647 = b.2 := by omega
    rw [e]
  · rw [if_neg h, cut8_none (by omega)]
theorem sh8_eq {b : R8} (ok : rOk b = true) (nb : ¬ isN b = true) : sh8 b = if b.1 ≤ 31 ∧ 0 ≤ b.2 then (max b.1 0, min b.2 31) else none8 := by
  have k := ok_some ok nb
  unfold sh8 meet8
  rw [if_neg (by simp only [ok, nb]; decide)]
  by_cases h : b.1 ≤ 31 ∧ 0 ≤ b.2
  · rw [if_pos h, cut8_eq (by omega) (by omega) (by omega)]
  · rw [if_neg h, cut8_none (by omega)]
theorem rng_ok {lo hi : Int} (h : -2147483648 ≤ lo ∧ hi ≤ 2147483647 ∧ lo ≤ hi) : rOk (lo, hi) = true := some_ok h
theorem corners_div {a b : R8} {u v : Int} (h : 0 < b.1 ∨ b.2 < 0) (hu : a.1 ≤ u ∧ u ≤ a.2) (hv : b.1 ≤ v ∧ v ≤ b.2) : cLo 4 a b ≤ exactV 4 u v ∧ exactV 4 u v ≤ cHi 4 a b :=
  corners_btw (.inr (.inr (.inr (.inr (.inr (.inr (.inr (.inr ⟨rfl, h⟩)))))))) hu hv (fun h => by rcases h with h | h <;> cases h)
theorem divQ_ok (a b : R8) : rOk (divQ a b) = true := by
  unfold divQ
  split
  · split
    · exact rOk_none
    · exact cut8_ok _ _
  · split <;> exact cut8_ok _ _
theorem divQ_has {a b : R8} {u v : Int} (ha : rOk a = true) (na : ¬ isN a = true) (hb : rOk b = true) (nb : ¬ isN b = true) (hu : a.1 ≤ u ∧ u ≤ a.2) (hv : b.1 ≤ v ∧ v ≤ b.2) (v0 : ¬ v = 0)
    (hk : okB (exactV 4 u v) = true) : rHas (divQ a b) (exactV 4 u v) = true := by
  have kb := ok_some hb nb
  unfold divQ
  rw [neg8_eq hb nb, pos8_eq hb nb]
  by_cases hn : v < 0
  · rw [if_pos (show b.1 ≤ -1 by omega), if_neg (by rw [isN_iff]; simp only; omega)]
    have c1 := corners_div (a := a) (b := (b.1, min b.2 (-1))) (u := u) (v := v) (by simp only; omega) hu (by simp only; omega)
    by_cases h1 : 1 ≤ b.2
    · rw [if_pos h1, if_neg (by rw [isN_iff]; simp only; omega)]
      exact cut_of_btw (by omega) hk
    · rw [if_neg h1, if_pos isN_none]
      exact cut_of_btw c1 hk
  · rw [if_pos (show 1 ≤ b.2 by omega)]
    have np : ¬ isN ((max b.1 1, b.2) : R8) = true := by rw [isN_iff]; simp only; omega
    have c1 := corners_div (a := a) (b := (max b.1 1, b.2)) (u := u) (v := v) (by simp only; omega) hu (by simp only; omega)
    by_cases h1 : b.1 ≤ -1
    · rw [if_pos h1, if_neg (by rw [isN_iff]; simp only; omega), if_neg np]
      exact cut_of_btw (by omega) hk
    · rw [if_neg h1, if_pos isN_none, if_neg np]
      exact cut_of_btw c1 hk
theorem divR_bd {a b : R8} {u v : Int} (ha : rOk a = true) (na : ¬ isN a = true) (hb : rOk b = true) (nb : ¬ isN b = true) (hu : a.1 ≤ u ∧ u ≤ a.2) (hv : b.1 ≤ v ∧ v ≤ b.2) (v0 : ¬ v = 0) :
    rHas (divR a b) (u.tmod v) = true := by
  have ka := ok_some ha na
  have kb := ok_some hb nb
  have big : (0 ≤ u → 0 ≤ u.tmod v ∧ u.tmod v ≤ u) ∧ (u ≤ 0 → u ≤ u.tmod v ∧ u.tmod v ≤ 0) := by
    by_cases hn : v < 0
    · have := tmod_neg_fact (u := u) hn; exact ⟨this.1, this.2.1⟩
    · have := tmod_pos_fact (u := u) (show 0 < v by omega); exact ⟨this.1, this.2.1⟩
  unfold divR
  split
  · rename_i h
    obtain rfl : u = a.1 := by omega
    obtain rfl : v = b.1 := by omega
    rw [rHas_iff]
    simp only
    have := big.1
    have := big.2
    omega
  · rw [neg8_eq hb nb, pos8_eq hb nb]
    by_cases hn : v < 0
    · obtain ⟨h1, h2, h3, h4, h5⟩ := tmod_neg_fact (u := u) hn
      rw [if_pos (show b.1 ≤ -1 by omega), if_neg (by rw [isN_iff]; simp only; omega)]
      have c1 := rem8_has (a := a) (u := u) (t := u.tmod v) (l := -(min b.2 (-1))) (h := -b.1) (m := -v) hu (by omega) h1 h2 (by omega) (fun h => h5 (by omega))
      have o1 := rem8_ok (l := -(min b.2 (-1))) (h := -b.1) ka (by omega) (by omega)
      by_cases h1b : 1 ≤ b.2
      · rw [if_pos h1b, if_neg (by rw [isN_iff]; simp only; omega)]
        have o2 := rem8_ok (l := max b.1 1) (h := b.2) ka (by omega) (by omega)
        simp only
        rw [join8_eq o1.2.2 o2.2.2 (some_ok o1) (some_ok o2), rHas_iff]
        simp only
        generalize rem8 a (-(min b.2 (-1))) (-b.1) = x at *
        generalize rem8 a (max b.1 1) b.2 = y at *
        clear h1 h2 h5 big
        omega
      · rw [if_neg h1b, if_pos isN_none, rHas_iff]
        simp only
        omega
    · obtain ⟨h1, h2, h3, h4, h5⟩ := tmod_pos_fact (u := u) (show 0 < v by omega)
      rw [if_pos (show 1 ≤ b.2 by omega)]
      have np : ¬ isN ((max b.1 1, b.2) : R8) = true := by rw [isN_iff]; simp only; omega
      have c1 := rem8_has (a := a) (u := u) (t := u.tmod v) (l := max b.1 1) (h := b.2) (m := v) hu (by omega) h1 h2 (by omega) (fun h => h5 (by omega))
      have o1 := rem8_ok (l := max b.1 1) (h := b.2) ka (by omega) (by omega)
      by_cases h1b : b.1 ≤ -1
      · rw [if_pos h1b, if_neg (by rw [isN_iff]; simp only; omega), if_neg np]
        have o2 := rem8_ok (l := -(min b.2 (-1))) (h := -b.1) ka (by omega) (by omega)
        simp only
        rw [join8_eq o2.2.2 o1.2.2 (some_ok o2) (some_ok o1), rHas_iff]
        simp only
        generalize rem8 a (-(min b.2 (-1))) (-b.1) = x at *
        generalize rem8 a (max b.1 1) b.2 = y at *
        clear h1 h2 h5 big
        omega
      · rw [if_neg h1b, if_pos isN_none, if_neg np, rHas_iff]
        simp only
        omega
theorem wrapped8_ok (lo hi : Int) : rOk (wrapped8 lo hi) = true := by
  unfold wrapped8
  split
  · decide
  · rename_i h
    have h1 := w32_lo lo
    have h2 := w32_hi hi
    exact some_ok ⟨h1, h2, by simp only; omega⟩
theorem wrapped8_has {lo hi x : Int} (h : lo ≤ x ∧ x ≤ hi) : rHas (wrapped8 lo hi) (wrap32 x) = true := by
  have h1 := w32_lo x
  have h2 := w32_hi x
  rw [rHas_iff]
  unfold wrapped8
  split
  · simp only; omega
  · rename_i hh
    have h3 := w32_lo lo
    have h4 := w32_hi hi
    simp only
    unfold wrap32 at *
    omega

/-- RangeDo beyond its first line. -/
theorem rangeDo_eq {op : Int} {a b : R8} (ho : inB op 1 13 = true) (ha : rOk a = true) (na : ¬ isN a = true) (hb : rOk b = true) (nb : ¬ isN b = true) : rangeDo op a b =
    if op = 4 then (divQ a b, divF op a b) else if op = 5 then (divR a b, divF op a b) else if 6 ≤ op ∧ op ≤ 8 then (bits8 op a b, [])
    else if 11 ≤ op then (wrapped8 (cLo op a b) (cHi op a b), []) else if isN (by8 op b) = true then (none8, shiftF b (by8 op b))
    else (cut8 (cLo op a (by8 op b)) (cHi op a (by8 op b)), overF op a (by8 op b) ++ shiftF b (by8 op b)) := by
  unfold rangeDo
  rw [if_neg (by simp [ho, ha, hb]; exact ⟨by simpa using na, by simpa using nb⟩)]
theorem rangeDo_out {op : Int} {a b : R8} (h : inB op 1 13 = false ∨ rOk a = false ∨ rOk b = false ∨ isN a = true ∨ isN b = true) : rangeDo op a b = (none8, []) := by
  unfold rangeDo
  rw [if_pos h]
/-- What is made of a number of a and one of b, or its fault, is told. -/
theorem rangeDo_has {op : Int} {a b : R8} {u v : Int} (ho : inB op 1 13 = true) (hau : rHas a u = true) (hbv : rHas b v = true) :
    ((numDo op u v).2 = 0 → rHas (rangeDo op a b).1 (numDo op u v).1 = true) ∧ (¬ (numDo op u v).2 = 0 → (numDo op u v).2 ∈ (rangeDo op a b).2) := by
  have hu := (rHas_iff _ _).1 hau
  have hv := (rHas_iff _ _).1 hbv
  have ha := rHas_ok hau
  have hb := rHas_ok hbv
  have na : ¬ isN a = true := by rw [isN_iff]; omega
  have nb : ¬ isN b = true := by rw [isN_iff]; omega
  have hop := (inB_iff _ _ _).1 ho
  rw [numDo_eq ho (has_okB hau) (has_okB hbv), rangeDo_eq ho ha na hb nb]
  by_cases h4 : op = 4
  · subst h4
    rw [if_pos rfl]
    by_cases v0 : v = 0
    · subst v0
      rw [if_pos ⟨.inl rfl, rfl⟩]
      refine ⟨fun h => by simp at h, fun _ => ?_⟩
      unfold divF
      rw [if_pos hbv]
      simp
    · rw [if_neg (by omega), if_neg (by omega), if_neg (by omega)]
      by_cases hk : okB (exactV 4 u v) = true
      · rw [if_neg (by simp [hk])]
        exact ⟨fun _ => divQ_has ha na hb nb ⟨hu.2.2.1, hu.2.2.2⟩ ⟨hv.2.2.1, hv.2.2.2⟩ v0 hk, fun h => absurd rfl h⟩
      · rw [if_pos (by simpa using hk)]
        refine ⟨fun h => by simp at h, fun _ => ?_⟩
        rw [exactV_4] at hk
        obtain ⟨rfl, rfl⟩ := tdiv_fault (u := u) (v := v) (by omega) (by omega) v0 (by simpa using hk)
        unfold divF
        rw [if_pos ⟨rfl, by omega, hbv⟩]
        simp
  · rw [if_neg h4]
    by_cases h5 : op = 5
    · subst h5
      rw [if_pos rfl]
      by_cases v0 : v = 0
      · subst v0
        rw [if_pos ⟨.inr rfl, rfl⟩]
        refine ⟨fun h => by simp at h, fun _ => ?_⟩
        unfold divF
        rw [if_pos hbv]
        simp
      · have hm := divR_bd ha na hb nb ⟨hu.2.2.1, hu.2.2.2⟩ ⟨hv.2.2.1, hv.2.2.2⟩ v0
        have ok := has_okB hm
        rw [if_neg (by omega), if_neg (by omega), if_neg (by omega), exactV_5, if_neg (by simp [ok])]
        exact ⟨fun _ => hm, fun h => absurd rfl h⟩
    · rw [if_neg h5, if_neg (by omega)]
      by_cases h6 : 6 ≤ op ∧ op ≤ 8
      · have hc : op = 6 ∨ op = 7 ∨ op = 8 := by omega
        have bd := bits_bd (u := u) (v := v) hc
        have bh := bits8_has (u := u) (v := v) hc ⟨hu.1, hu.2.1⟩ ⟨hv.1, hv.2.1⟩ ⟨hu.2.2.1, hu.2.2.2⟩ ⟨hv.2.2.1, hv.2.2.2⟩
        rw [if_neg (by omega), if_neg (by omega), if_neg (by rw [Bool.not_eq_false, okB_iff]; exact bd), if_pos h6]
        refine ⟨fun _ => ?_, fun h => absurd rfl h⟩
        rw [rHas_iff]
        exact ⟨bh.2.2.1, bh.2.2.2, bh.1, bh.2.1⟩
      · rw [if_neg h6]
        by_cases h11 : 11 ≤ op
        · rw [if_neg (by omega), if_pos h11, if_pos h11]
          refine ⟨fun _ => wrapped8_has (corners_btw (by omega) ⟨hu.2.2.1, hu.2.2.2⟩ ⟨hv.2.2.1, hv.2.2.2⟩ (fun h => by omega)), fun h => absurd rfl h⟩
        · rw [if_neg h11, if_neg h11]
          by_cases hs : op = 9 ∨ op = 10
          · have e8 : by8 op b = sh8 b := by unfold by8; rw [if_pos hs]
            rw [e8]
            by_cases hin : inB v 0 31 = false
            · rw [if_pos ⟨hs, hin⟩]
              refine ⟨fun h => by simp at h, fun _ => ?_⟩
              have hne : ¬ sh8 b = b := by
                intro he
                have : rHas (sh8 b) v = true := by rw [he]; exact hbv
                unfold sh8 at this
                rw [meet8_has hb (by decide), Bool.and_eq_true, rHas_iff (a := ((0, 31) : R8))] at this
                rw [inB_not] at hin
                simp only at this
                omega
              have hm : (3 : Int) ∈ shiftF b (sh8 b) := by unfold shiftF; rw [if_neg hne]; simp
              split
              · exact hm
              · exact List.mem_append_right _ hm
            · have hin' : inB v 0 31 = true := by simpa using hin
              rw [if_neg (fun h => hin h.2)]
              have hsv : rHas ((0, 31) : R8) v = true := by rw [rHas_iff]; rw [inB_iff] at hin'; simp only; omega
              obtain ⟨m1, m2, m3, m4, m5, m6, m7, m8⟩ := meet_some hb (by decide) hbv hsv
              have m2' : ¬ isN (sh8 b) = true := by unfold sh8; simp [m2]
              rw [if_neg m2']
              have c := corners_btw (op := op) (a := a) (b := sh8 b) (u := u) (v := v) (by omega) ⟨hu.2.2.1, hu.2.2.2⟩ ⟨m3, m4⟩ (fun _ => m5)
              by_cases hk : okB (exactV op u v) = true
              · rw [if_neg (by simp [hk])]
                exact ⟨fun _ => cut_of_btw c hk, fun h => absurd rfl h⟩
              · rw [if_pos (by simpa using hk)]
                refine ⟨fun h => by simp at h, fun _ => ?_⟩
                have hk' : okB (exactV op u v) = false := by simpa using hk
                rw [okB_not] at hk'
                apply List.mem_append_left
                unfold overF
                rw [if_pos (by omega)]
                simp
          · have e8 : by8 op b = b := by unfold by8; rw [if_neg hs]
            rw [e8, if_neg (fun h => hs h.1), if_neg nb]
            have c := corners_btw (op := op) (a := a) (b := b) (u := u) (v := v) (by omega) ⟨hu.2.2.1, hu.2.2.2⟩ ⟨hv.2.2.1, hv.2.2.2⟩ (fun h => absurd h hs)
            by_cases hk : okB (exactV op u v) = true
            · rw [if_neg (by simp [hk])]
              exact ⟨fun _ => cut_of_btw c hk, fun h => absurd rfl h⟩
            · rw [if_pos (by simpa using hk)]
              refine ⟨fun h => by simp at h, fun _ => ?_⟩
              have hk' : okB (exactV op u v) = false := by simpa using hk
              rw [okB_not] at hk'
              apply List.mem_append_left
              unfold overF
              rw [if_pos (by omega)]
              simp
theorem divR_ok {a b : R8} (ha : rOk a = true) (na : ¬ isN a = true) (hb : rOk b = true) (nb : ¬ isN b = true) : rOk (divR a b) = true := by
  have ka := ok_some ha na
  have kb := ok_some hb nb
  by_cases h1 : b.1 ≤ -1
  · exact rHas_ok (divR_bd (u := a.1) (v := b.1) ha na hb nb ⟨by omega, by omega⟩ ⟨by omega, by omega⟩ (by omega))
  · by_cases h2 : 1 ≤ b.2
    · exact rHas_ok (divR_bd (u := a.1) (v := b.2) ha na hb nb ⟨by omega, by omega⟩ ⟨by omega, by omega⟩ (by omega))
    · unfold divR
      rw [neg8_eq hb nb, pos8_eq hb nb, if_neg h1, if_neg h2, if_neg (by omega), if_pos isN_none, if_pos isN_none]
      exact rOk_none
theorem bits8_ok {op : Int} {a b : R8} (hop : op = 6 ∨ op = 7 ∨ op = 8) (ha : rOk a = true) (na : ¬ isN a = true) (hb : rOk b = true) (nb : ¬ isN b = true) : rOk (bits8 op a b) = true := by
  have ka := ok_some ha na
  have kb := ok_some hb nb
  have := bits8_has (u := a.1) (v := b.1) hop ⟨ka.1, ka.2.1⟩ ⟨kb.1, kb.2.1⟩ ⟨by omega, ka.2.2⟩ ⟨by omega, kb.2.2⟩
  exact some_ok ⟨this.2.2.1, this.2.2.2, by omega⟩
theorem rangeDo_ok (op : Int) (a b : R8) : rOk (rangeDo op a b).1 = true := by
  unfold rangeDo
  split
  · exact rOk_none
  · rename_i h
    simp only [not_or, Bool.not_eq_false] at h
    obtain ⟨h0, ha, hb, na, nb⟩ := h
    split
    · exact divQ_ok _ _
    · split
      · exact divR_ok ha na hb nb
      · split
        · exact bits8_ok (by omega) ha na hb nb
        · split
          · exact wrapped8_ok _ _
          · split
            · exact rOk_none
            · exact cut8_ok _ _
end Go.Proofs.YthbbgkpkijlclaaDoor.num
