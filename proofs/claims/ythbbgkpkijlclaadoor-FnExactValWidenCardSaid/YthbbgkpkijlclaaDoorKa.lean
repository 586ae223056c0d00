/-
  Vals as four numbers: what chapter 10 says of them, in plain terms; no Go text in sight.
-/
import Derived.Test.YthbbgkpkijlclaaDoorQe
import Derived.Test.YthbbgkpkijlclaaDoorGc
namespace Go.Proofs.YthbbgkpkijlclaaDoor.num
open Go.RowKit
set_option linter.unusedVariables false

/-- A val: its ends, and its rest. -/
abbrev V10 := Int × Int × Int × Int
def none10 : V10 := (1, 0, 0, 0)
def rng (a : V10) : R8 := (a.1, a.2.1)
def rst (a : V10) : T9 := (a.2.2.1, a.2.2.2)
/-- The least number of a rest that is not below another one; the greatest that is not above. -/
def lo10 (a : R8) (b : T9) : Int := a.1 + (b.2 - a.1) % b.1
def hi10 (a : R8) (b : T9) : Int := a.2 - (a.2 - b.2) % b.1
def make10 (a : R8) (b : T9) : V10 :=
  if rOk a = false ∨ qOk b = false ∨ isN a = true then none10
  else if b.1 = 0 then (if rHas a b.2 = true then (b.2, b.2, 0, b.2) else none10)
  else if hi10 a b < lo10 a b then none10
  else if lo10 a b = hi10 a b then (lo10 a b, lo10 a b, 0, lo10 a b)
  else (lo10 a b, hi10 a b, b.1, b.2)
def ok10 (a : V10) : Bool := decide (make10 (rng a) (rst a) = a)
def some10 (a : V10) : Bool := ok10 a && !decide (a = none10)
def has10 (a : V10) (v : Int) : Bool := ok10 a && (rHas (rng a) v && qHas (rst a) v)
def in10 (a b : V10) : Bool := ok10 a && ok10 b && (decide (a = none10) || (!decide (b = none10) && rIn (rng a) (rng b) && in9 (rst a) (rst b)))
def join10 (a b : V10) : V10 :=
  if ok10 a = false ∨ ok10 b = false then none10 else if a = none10 then b else if b = none10 then a else make10 (join8 (rng a) (rng b)) (join9 (rst a) (rst b))
def meet10 (a b : V10) : V10 :=
  if some10 a = false ∨ some10 b = false then none10 else if (meet9 (rst a) (rst b)).2 = true then make10 (meet8 (rng a) (rng b)) (meet9 (rst a) (rst b)).1 else none10
def widen10 (a b : V10) (s : List Int) : V10 :=
  if some10 a = false ∨ some10 b = false then join10 a b else make10 (widen8 (rng a) (rng b) s) (join9 (rst a) (rst b))
def do10 (op : Int) (a b : V10) : V10 × List Int :=
  if some10 a = false ∨ some10 b = false then (none10, []) else (make10 (rangeDo op (rng a) (rng b)).1 (do9 op (rst a) (rst b)), (rangeDo op (rng a) (rng b)).2)
def left10 (c : Int) (a b : V10) : V10 × V10 := (make10 (rangeCmp c (rng a) (rng b)).1 (rst a), make10 (rangeCmp c (rng a) (rng b)).2 (rst b))
def both10 (p : V10 × V10) : V10 × V10 := if p.1 = none10 ∨ p.2 = none10 then (none10, none10) else p
def cmp10 (c : Int) (a b : V10) : V10 × V10 :=
  if some10 a = false ∨ some10 b = false then (none10, none10)
  else if c = 1 then both10 (meet10 (left10 c a b).1 (left10 c a b).2, meet10 (left10 c a b).1 (left10 c a b).2) else both10 (left10 c a b)

theorem lo10_is {a : R8} {b : T9} (h : 0 < b.1) : a.1 ≤ lo10 a b ∧ b.1 ∣ lo10 a b - b.2 ∧ ∀ v, a.1 ≤ v → b.1 ∣ v - b.2 → lo10 a b ≤ v := by
  unfold lo10
  have h1 := Int.emod_nonneg (b.2 - a.1) (show b.1 ≠ 0 by omega)
  have h2 := Int.emod_lt_of_pos (b.2 - a.1) h
  have h3 := Int.mul_ediv_add_emod (b.2 - a.1) b.1
  refine ⟨by omega, ?_, fun v hv hd => ?_⟩
  · refine ⟨-((b.2 - a.1) / b.1), ?_⟩
    rw [Int.mul_neg]; omega
  · obtain ⟨k, hk⟩ := hd
    by_cases hlt : v < a.1 + (b.2 - a.1) % b.1
    · exfalso
      have e : b.1 * (k + (b.2 - a.1) / b.1) = v - a.1 - (b.2 - a.1) % b.1 := by rw [Int.mul_add]; omega
      have hneg : b.1 * (k + (b.2 - a.1) / b.1) < 0 := by omega
      have hk2 : k + (b.2 - a.1) / b.1 ≤ -1 := by
        by_cases hh : 0 ≤ k + (b.2 - a.1) / b.1
        · have := Int.mul_nonneg (show 0 ≤ b.1 by omega) hh; omega
        · omega
      have := Int.mul_le_mul_of_nonneg_left hk2 (show 0 ≤ b.1 by omega)
      omega
    · omega
theorem hi10_is {a : R8} {b : T9} (h : 0 < b.1) : hi10 a b ≤ a.2 ∧ b.1 ∣ hi10 a b - b.2 ∧ ∀ v, v ≤ a.2 → b.1 ∣ v - b.2 → v ≤ hi10 a b := by
  unfold hi10
  have h1 := Int.emod_nonneg (a.2 - b.2) (show b.1 ≠ 0 by omega)
  have h2 := Int.emod_lt_of_pos (a.2 - b.2) h
  have h3 := Int.mul_ediv_add_emod (a.2 - b.2) b.1
  refine ⟨by omega, ⟨(a.2 - b.2) / b.1, by omega⟩, fun v hv hd => ?_⟩
  obtain ⟨k, hk⟩ := hd
  by_cases hlt : a.2 - (a.2 - b.2) % b.1 < v
  · exfalso
    have e : b.1 * (k - (a.2 - b.2) / b.1) = v - a.2 + (a.2 - b.2) % b.1 := by rw [Int.mul_sub]; omega
    have hk2 : 1 ≤ k - (a.2 - b.2) / b.1 := by
      by_cases hh : k - (a.2 - b.2) / b.1 ≤ 0
      · have := Int.mul_le_mul_of_nonneg_left hh (show 0 ≤ b.1 by omega); omega
      · omega
    have := Int.mul_le_mul_of_nonneg_left hk2 (show 0 ≤ b.1 by omega)
    omega
  · omega
theorem lo10_fix {a : R8} {b : T9} (h : b.1 ∣ a.1 - b.2) : lo10 a b = a.1 := by
  unfold lo10
  rw [Int.emod_eq_zero_of_dvd (by rw [← Int.dvd_neg]; rw [show -(b.2 - a.1) = a.1 - b.2 by omega]; exact h)]; omega
theorem hi10_fix {a : R8} {b : T9} (h : b.1 ∣ a.2 - b.2) : hi10 a b = a.2 := by
  unfold hi10
  rw [Int.emod_eq_zero_of_dvd h]; omega
theorem one10_ok {v : Int} (h : okB v = true) : ok10 (v, v, 0, v) = true := by
  rw [okB_iff] at h
  unfold ok10 make10 rng rst
  rw [decide_eq_true_iff, if_neg (by simp only [not_or, Bool.not_eq_false, Bool.not_eq_true]; exact ⟨some_ok ⟨h.1, h.2, Int.le_refl _⟩, (qOk_iff _).2 (.inl ⟨rfl, h⟩), some_not (Int.le_refl _)⟩), if_pos rfl]
  rw [if_pos ((rHas_iff _ _).2 (by simp only; omega))]
theorem none10_ok : ok10 none10 = true := by decide
/-- What ValMake tells is ok, and has just what both have. -/
theorem make10_shape (a : R8) (b : T9) : (make10 a b = none10 ∧ ∀ v, ¬ (rHas a v = true ∧ qHas b v = true)) ∨
    (∃ v, okB v = true ∧ make10 a b = (v, v, 0, v) ∧ ∀ u, (rHas a u = true ∧ qHas b u = true) ↔ u = v) ∨
    (0 < b.1 ∧ qOk b = true ∧ -2147483648 ≤ lo10 a b ∧ hi10 a b ≤ 2147483647 ∧ lo10 a b < hi10 a b ∧ a.1 ≤ lo10 a b ∧ hi10 a b ≤ a.2 ∧ rOk a = true ∧ ¬ isN a = true ∧ make10 a b = (lo10 a b, hi10 a b, b.1, b.2) ∧
      b.1 ∣ lo10 a b - b.2 ∧ b.1 ∣ hi10 a b - b.2 ∧ ∀ u, (rHas a u = true ∧ qHas b u = true) ↔ (lo10 a b ≤ u ∧ u ≤ hi10 a b ∧ b.1 ∣ u - b.2)) := by
  unfold make10
  split
  · rename_i h
    refine .inl ⟨rfl, fun v hv => ?_⟩
    rcases h with h | h | h
    · rw [rHas_ok hv.1] at h; cases h
    · rw [((qHas_iff _ _).1 hv.2).1] at h; cases h
    · have := (isN_iff _).1 h; have := (rHas_iff _ _).1 hv.1; omega
  · rename_i h
    simp only [not_or, Bool.not_eq_false] at h
    obtain ⟨oa, ob, na⟩ := h
    have ka := ok_some oa na
    split
    · rename_i z
      split
      · rename_i hv
        have k := (rHas_iff _ _).1 hv
        refine .inr (.inl ⟨b.2, by rw [okB_iff]; omega, rfl, fun u => ?_⟩)
        rw [qHas_iff, z, Int.zero_dvd]
        constructor
        · rintro ⟨_, _, _, h4⟩; omega
        · rintro rfl; exact ⟨hv, ob, by omega, by omega⟩
      · rename_i hv
        refine .inl ⟨rfl, fun u hu => hv ?_⟩
        rw [qHas_iff, z, Int.zero_dvd] at hu
        have e : u = b.2 := by omega
        rw [← e]; exact hu.1
    · rename_i z
      have kb := (qOk_iff _).1 ob
      have hb : 0 < b.1 := by omega
      obtain ⟨l1, l2, l3⟩ := lo10_is (a := a) hb
      obtain ⟨g1, g2, g3⟩ := hi10_is (a := a) hb
      have key : ∀ u, (rHas a u = true ∧ qHas b u = true) ↔ (lo10 a b ≤ u ∧ u ≤ hi10 a b ∧ b.1 ∣ u - b.2) := fun u => by
        rw [rHas_iff, qHas_iff]
        constructor
        · rintro ⟨h1, h2, h3, h4⟩; exact ⟨l3 u (by omega) h4, g3 u (by omega) h4, h4⟩
        · rintro ⟨h1, h2, h4⟩; exact ⟨by omega, ob, by omega, h4⟩
      split
      · rename_i hlt
        exact .inl ⟨rfl, fun v hv => by have := (key v).1 hv; omega⟩
      · rename_i hlt
        split
        · rename_i he
          refine .inr (.inl ⟨lo10 a b, by rw [okB_iff]; omega, rfl, fun u => ?_⟩)
          rw [key]
          constructor
          · rintro ⟨h1, h2, h3⟩; omega
          · rintro rfl; exact ⟨Int.le_refl _, by omega, l2⟩
        · rename_i he
          exact .inr (.inr ⟨hb, ob, by omega, by omega, by omega, l1, g1, oa, na, rfl, l2, g2, key⟩)
theorem make10_ok (a : R8) (b : T9) : ok10 (make10 a b) = true := by
  rcases make10_shape a b with ⟨e, _⟩ | ⟨v, hv, e, _⟩ | ⟨hb, ob, h1, h2, h3, h4, h5, oa, na, e, d1, d2, _⟩
  · rw [e]; exact none10_ok
  · rw [e]; exact one10_ok hv
  · rw [e]
    unfold ok10
    rw [decide_eq_true_iff]
    unfold make10 rng rst
    simp only
    have n1 : isN (lo10 a b, hi10 a b) = false := some_not (by simp only; omega)
    have o1 : rOk (lo10 a b, hi10 a b) = true := some_ok ⟨by simp only; omega, by simp only; omega, by simp only; omega⟩
    have e1 : lo10 (lo10 a b, hi10 a b) (b.1, b.2) = lo10 a b := lo10_fix (b := (b.1, b.2)) d1
    have e2 : hi10 (lo10 a b, hi10 a b) (b.1, b.2) = hi10 a b := hi10_fix (b := (b.1, b.2)) d2
    rw [if_neg (by simp only [n1, o1, show qOk (b.1, b.2) = true from ob]; simp), if_neg (by omega), e1, e2, if_neg (by omega), if_neg (by omega)]
theorem make10_has (a : R8) (b : T9) (v : Int) : has10 (make10 a b) v = true ↔ (rHas a v = true ∧ qHas b v = true) := by
  unfold has10
  rw [make10_ok, Bool.true_and, Bool.and_eq_true]
  rcases make10_shape a b with ⟨e, h⟩ | ⟨w, hw, e, h⟩ | ⟨hb, ob, h1, h2, h3, h4, h5, oa, na, e, d1, d2, h⟩
  · rw [e]
    constructor
    · rintro ⟨k, _⟩; have := (rHas_iff _ _).1 k; simp only [rng, none10] at this; omega
    · intro k; exact absurd k (h v)
  · rw [e, h]
    rw [okB_iff] at hw
    simp only [rng, rst, rHas_iff, qHas_iff, qOk_iff, Int.zero_dvd]
    constructor
    · rintro ⟨k, _⟩; omega
    · rintro rfl; exact ⟨by omega, .inl ⟨trivial, hw⟩, hw, by omega⟩
  · rw [e, h]
    have kb := (qOk_iff _).1 ob
    simp only [rng, rst, rHas_iff, qHas_iff]
    constructor
    · rintro ⟨k1, _, _, k2⟩; exact ⟨by omega, by omega, k2⟩
    · rintro ⟨k1, k2, k3⟩; exact ⟨by omega, ob, by omega, k3⟩
theorem ok10_eq {a : V10} (h : ok10 a = true) : make10 (rng a) (rst a) = a := by unfold ok10 at h; exact of_decide_eq_true h
theorem some10_iff (a : V10) : some10 a = true ↔ (ok10 a = true ∧ a ≠ none10) := by unfold some10; simp
theorem some10_not (a : V10) : some10 a = false ↔ (ok10 a = false ∨ a = none10) := by
  rw [← Bool.not_eq_true, some10_iff]
  by_cases h : ok10 a = true <;> simp [h]
theorem has10_none (v : Int) : has10 none10 v = false := by
  unfold has10
  have : rHas (rng none10) v = false := by rw [rHas_not]; simp only [rng, none10]; omega
  rw [this]; simp
/-- A val that is ok and not none: its parts are ok, its ends are numbers of it. -/
theorem some10_parts {a : V10} (h : some10 a = true) : rOk (rng a) = true ∧ qOk (rst a) = true ∧ ¬ isN (rng a) = true ∧ has10 a a.1 = true ∧ has10 a a.2.1 = true ∧ a.1 ≤ a.2.1 ∧ -2147483648 ≤ a.1 ∧ a.2.1 ≤ 2147483647 := by
  obtain ⟨ho, hn⟩ := (some10_iff a).1 h
  have e := ok10_eq ho
  rcases make10_shape (rng a) (rst a) with ⟨e', _⟩ | ⟨w, hw, e', h'⟩ | ⟨hb, ob, h1, h2, h3, h4, h5, oa, na, e', d1, d2, h'⟩
  · exact absurd (e.symm.trans e') hn
  · have ea : a = (w, w, 0, w) := e.symm.trans e'
    have hh : has10 a w = true := by rw [← e, make10_has, h']
    have hh' := hh
    unfold has10 at hh'
    simp only [Bool.and_eq_true] at hh'
    rw [okB_iff] at hw
    refine ⟨rHas_ok hh'.2.1, ((qHas_iff _ _).1 hh'.2.2).1, ?_, ?_, ?_, ?_⟩
    · rw [ea, isN_iff]; simp only [rng]; omega
    · rw [show a.1 = w by rw [ea]]; exact hh
    · rw [show a.2.1 = w by rw [ea]]; exact hh
    · rw [ea]; simp only; omega
  · have ea : a = (lo10 (rng a) (rst a), hi10 (rng a) (rst a), (rst a).1, (rst a).2) := e.symm.trans e'
    have x1 : a.1 = lo10 (rng a) (rst a) := congrArg (·.1) ea
    have x2 : a.2.1 = hi10 (rng a) (rst a) := congrArg (·.2.1) ea
    refine ⟨oa, ob, na, ?_, ?_, ?_, ?_, ?_⟩
    · rw [← e, make10_has, e, x1, h']; exact ⟨Int.le_refl _, by omega, d1⟩
    · rw [← e, make10_has, e, x2, h']; exact ⟨by omega, Int.le_refl _, d2⟩
    · omega
    · omega
    · omega
theorem has10_parts {a : V10} {v : Int} (h : has10 a v = true) : some10 a = true ∧ rHas (rng a) v = true ∧ qHas (rst a) v = true ∧ a.1 ≤ v ∧ v ≤ a.2.1 := by
  have h' := h
  unfold has10 at h'
  simp only [Bool.and_eq_true] at h'
  obtain ⟨h1, h2, h3⟩ := h'
  refine ⟨(some10_iff _).2 ⟨h1, fun e => by rw [e, has10_none] at h; cases h⟩, h2, h3, ?_⟩
  have := (rHas_iff _ _).1 h2
  simp only [rng] at this
  omega
theorem has10_of {a : V10} {v : Int} (h1 : ok10 a = true) (h2 : rHas (rng a) v = true) (h3 : qHas (rst a) v = true) : has10 a v = true := by unfold has10; rw [h1, h2, h3]; rfl
theorem in9_refl {a : T9} (h : qOk a = true) : in9 a a = true := by rw [in9_iff]; exact ⟨h, h, Int.dvd_refl _, by rw [Int.sub_self]; exact Int.dvd_zero _⟩
theorem in9_one {b : T9} {v : Int} (h : qHas b v = true) : in9 (0, v) b = true := by
  rw [qHas_iff] at h
  rw [in9_iff]
  exact ⟨(qOk_iff _).2 (.inl ⟨rfl, h.2.1⟩), h.1, Int.dvd_zero _, h.2.2⟩
theorem in10_none {b : V10} (h : ok10 b = true) : in10 none10 b = true := by unfold in10; rw [none10_ok, h]; simp
/-- What is made of parts that are within others is within what is made of these. -/
theorem make10_mono {a a' : R8} {b b' : T9} (ha : rIn a a' = true) (hb : in9 b b' = true) : in10 (make10 a b) (make10 a' b') = true := by
  by_cases hn : make10 a b = none10
  · rw [hn]; exact in10_none (make10_ok _ _)
  have hs : some10 (make10 a b) = true := (some10_iff _).2 ⟨make10_ok _ _, hn⟩
  obtain ⟨p1, p2, p3, p4, p5, p6, p7, p8⟩ := some10_parts hs
  have q1 := (make10_has _ _ _).1 p4
  have q2 := (make10_has _ _ _).1 p5
  have r1 : has10 (make10 a' b') (make10 a b).1 = true := (make10_has _ _ _).2 ⟨rIn_has ha q1.1, in9_has hb q1.2⟩
  have r2 : has10 (make10 a' b') (make10 a b).2.1 = true := (make10_has _ _ _).2 ⟨rIn_has ha q2.1, in9_has hb q2.2⟩
  obtain ⟨s1, s2, s3, s4, s5⟩ := has10_parts r1
  obtain ⟨t1, t2, t3, t4, t5⟩ := has10_parts r2
  have o' := some10_parts s1
  unfold in10
  rw [make10_ok, make10_ok, decide_eq_false hn, decide_eq_false ((some10_iff _).1 s1).2]
  simp only [Bool.true_and, Bool.false_or, Bool.not_false, Bool.and_eq_true]
  refine ⟨rIn_ends p1 o'.1 (by simp only [rng]; omega) (by simp only [rng]; omega), ?_⟩
  rcases make10_shape a' b' with ⟨e, h⟩ | ⟨w, hw, e, h⟩ | ⟨_, _, _, _, _, _, _, _, _, e, _, _, _⟩
  · exact absurd e ((some10_iff _).1 s1).2
  · have x1 : (make10 a b).1 = w := (h _).1 ((make10_has _ _ _).1 r1)
    have x2 : (make10 a b).2.1 = w := (h _).1 ((make10_has _ _ _).1 r2)
    rcases make10_shape a b with ⟨e2, _⟩ | ⟨w2, hw2, e2, _⟩ | ⟨_, _, _, _, hlt, _, _, _, _, e2, _, _, _⟩
    · exact absurd e2 hn
    · rw [e2] at x1
      simp only at x1
      subst x1
      rw [e, e2]
      exact in9_refl ((qOk_iff _).2 (.inl ⟨rfl, (okB_iff _).1 hw2⟩))
    · rw [e2] at x1 x2
      simp only at x1 x2
      omega
  · have er : rst (make10 a' b') = b' := by rw [e]; rfl
    rw [er]
    rcases make10_shape a b with ⟨e2, _⟩ | ⟨w2, hw2, e2, h2⟩ | ⟨_, _, _, _, hlt, _, _, _, _, e2, _, _, _⟩
    · exact absurd e2 hn
    · rw [e2]
      exact in9_one (in9_has hb ((h2 w2).2 rfl).2)
    · rw [e2]; exact hb
theorem in10_refl {a : V10} (h : ok10 a = true) : in10 a a = true := by
  by_cases hn : a = none10
  · rw [hn]; exact in10_none none10_ok
  · have p := some10_parts ((some10_iff a).2 ⟨h, hn⟩)
    rw [← ok10_eq h]
    exact make10_mono (rIn_refl p.1) (in9_refl p.2.1)
theorem in10_has {a b : V10} (h : in10 a b = true) {v : Int} (hv : has10 a v = true) : has10 b v = true := by
  have p := has10_parts hv
  have hn := ((some10_iff _).1 p.1).2
  unfold in10 at h
  simp only [Bool.and_eq_true, Bool.or_eq_true, decide_eq_false hn] at h
  obtain ⟨⟨h1, h2⟩, h3⟩ := h
  rcases h3 with h3 | h3
  · cases h3
  · exact has10_of h2 (rIn_has h3.1.2 p.2.1) (in9_has h3.2 p.2.2.1)
theorem join10_ok (a b : V10) : ok10 (join10 a b) = true := by
  unfold join10
  split
  · exact none10_ok
  · rename_i h
    simp only [not_or, Bool.not_eq_false] at h
    split
    · exact h.2
    · split
      · exact h.1
      · exact make10_ok _ _
theorem join10_some {a b : V10} (ha : some10 a = true) (hb : some10 b = true) : join10 a b = make10 (join8 (rng a) (rng b)) (join9 (rst a) (rst b)) := by
  obtain ⟨h1, h2⟩ := (some10_iff a).1 ha
  obtain ⟨h3, h4⟩ := (some10_iff b).1 hb
  unfold join10
  rw [if_neg (by simp [h1, h3]), if_neg h2, if_neg h4]
theorem join10_in_left {a b : V10} (ha : ok10 a = true) (hb : ok10 b = true) : in10 a (join10 a b) = true := by
  by_cases na : a = none10
  · rw [na]; exact in10_none (join10_ok _ _)
  by_cases nb : b = none10
  · have e : join10 a b = a := by unfold join10; rw [if_neg (by simp [ha, hb]), if_neg na, if_pos nb]
    rw [e]; exact in10_refl ha
  have p := some10_parts ((some10_iff a).2 ⟨ha, na⟩)
  have q := some10_parts ((some10_iff b).2 ⟨hb, nb⟩)
  rw [join10_some ((some10_iff a).2 ⟨ha, na⟩) ((some10_iff b).2 ⟨hb, nb⟩)]
  have := make10_mono (join8_in_l p.1 q.1) (join9_in_left p.2.1 q.2.1)
  rwa [ok10_eq ha] at this
theorem join10_in_right {a b : V10} (ha : ok10 a = true) (hb : ok10 b = true) : in10 b (join10 a b) = true := by
  by_cases nb : b = none10
  · rw [nb]; exact in10_none (join10_ok _ _)
  by_cases na : a = none10
  · have e : join10 a b = b := by unfold join10; rw [if_neg (by simp [ha, hb]), if_pos na]
    rw [e]; exact in10_refl hb
  have p := some10_parts ((some10_iff a).2 ⟨ha, na⟩)
  have q := some10_parts ((some10_iff b).2 ⟨hb, nb⟩)
  rw [join10_some ((some10_iff a).2 ⟨ha, na⟩) ((some10_iff b).2 ⟨hb, nb⟩)]
  have := make10_mono (join8_in_r p.1 q.1) (join9_in_right p.2.1 q.2.1)
  rwa [ok10_eq hb] at this
theorem widen10_ok (a b : V10) (s : List Int) : ok10 (widen10 a b s) = true := by
  unfold widen10
  split
  · exact join10_ok _ _
  · exact make10_ok _ _
theorem widen10_in {a b : V10} (s : List Int) : in10 (join10 a b) (widen10 a b s) = true := by
  by_cases h : some10 a = false ∨ some10 b = false
  · unfold widen10; rw [if_pos h]; exact in10_refl (join10_ok _ _)
  · have h' := h
    simp only [not_or, Bool.not_eq_false] at h'
    have p := some10_parts h'.1
    have q := some10_parts h'.2
    unfold widen10
    rw [if_neg h, join10_some h'.1 h'.2]
    exact make10_mono ((widen8_ok _ _ s).2 p.1 q.1) (in9_refl (join9_ok _ _))
theorem meet10_ok (a b : V10) : ok10 (meet10 a b) = true := by
  unfold meet10
  split
  · exact none10_ok
  · split
    · exact make10_ok _ _
    · exact none10_ok
theorem meet10_has {a b : V10} {v : Int} (ha : has10 a v = true) (hb : has10 b v = true) : has10 (meet10 a b) v = true := by
  have p := has10_parts ha
  have q := has10_parts hb
  obtain ⟨h1, h2⟩ := meet9_has p.2.2.1 q.2.2.1
  unfold meet10
  rw [if_neg (by simp [p.1, q.1]), if_pos h1, make10_has, meet8_has (rHas_ok p.2.1) (rHas_ok q.2.1), p.2.1, q.2.1]
  exact ⟨rfl, h2⟩
theorem meet10_rng {a b : V10} {v : Int} (h : has10 (meet10 a b) v = true) : a.1 ≤ v ∧ v ≤ a.2.1 ∧ b.1 ≤ v ∧ v ≤ b.2.1 := by
  unfold meet10 at h
  split at h
  · rw [has10_none] at h; cases h
  · rename_i hs
    simp only [not_or, Bool.not_eq_false] at hs
    have p := some10_parts hs.1
    have q := some10_parts hs.2
    split at h
    · have k := ((make10_has _ _ _).1 h).1
      rw [meet8_has p.1 q.1, Bool.and_eq_true] at k
      have k1 := (rHas_iff _ _).1 k.1
      have k2 := (rHas_iff _ _).1 k.2
      simp only [rng] at k1 k2
      omega
    · rw [has10_none] at h; cases h
/-- What an operator may make is in the val, and what may go wrong is told. -/
theorem do10_ok (op : Int) (a b : V10) : ok10 (do10 op a b).1 = true := by
  unfold do10
  split
  · exact none10_ok
  · exact make10_ok _ _
theorem do10_has {op : Int} {a b : V10} {u v : Int} (ho : inB op 1 13 = true) (ha : has10 a u = true) (hb : has10 b v = true) :
    ((numDo op u v).2 = 0 → has10 (do10 op a b).1 (numDo op u v).1 = true) ∧ ((numDo op u v).2 ≠ 0 → (numDo op u v).2 ∈ (do10 op a b).2) := by
  have p := has10_parts ha
  have q := has10_parts hb
  have k := rangeDo_has ho p.2.1 q.2.1
  unfold do10
  rw [if_neg (by simp [p.1, q.1])]
  refine ⟨fun h => ?_, fun h => ?_⟩
  · simp only
    rw [make10_has]
    exact ⟨by first | exact k.1 h | exact k.2 h, do9_has ho p.2.2.1 q.2.2.1 h⟩
  · simp only
    first | exact k.2 h | exact k.1 h
theorem both10_ok {p : V10 × V10} (h1 : ok10 p.1 = true) (h2 : ok10 p.2 = true) : ok10 (both10 p).1 = true ∧ ok10 (both10 p).2 = true := by
  unfold both10
  split
  · exact ⟨none10_ok, none10_ok⟩
  · exact ⟨h1, h2⟩
theorem both10_has {p : V10 × V10} {u v : Int} (h1 : has10 p.1 u = true) (h2 : has10 p.2 v = true) : has10 (both10 p).1 u = true ∧ has10 (both10 p).2 v = true := by
  unfold both10
  rw [if_neg]
  · exact ⟨h1, h2⟩
  · intro h
    rcases h with h | h
    · exact ((some10_iff _).1 (has10_parts h1).1).2 h
    · exact ((some10_iff _).1 (has10_parts h2).1).2 h
theorem cmp10_ok (c : Int) (a b : V10) : ok10 (cmp10 c a b).1 = true ∧ ok10 (cmp10 c a b).2 = true := by
  unfold cmp10
  split
  · exact ⟨none10_ok, none10_ok⟩
  · split
    · exact both10_ok (meet10_ok _ _) (meet10_ok _ _)
    · exact both10_ok (make10_ok _ _) (make10_ok _ _)
theorem cmp10_has {c : Int} {a b : V10} {p q : Int} (hp : has10 a p = true) (hq : has10 b q = true) (h : cmpP c p q) : has10 (cmp10 c a b).1 p = true ∧ has10 (cmp10 c a b).2 q = true := by
  have x := has10_parts hp
  have y := has10_parts hq
  have k := rangeCmp_has x.2.1 y.2.1 h
  have l1 : has10 (left10 c a b).1 p = true := (make10_has _ _ _).2 ⟨k.1, x.2.2.1⟩
  have l2 : has10 (left10 c a b).2 q = true := (make10_has _ _ _).2 ⟨k.2, y.2.2.1⟩
  unfold cmp10
  rw [if_neg (by simp [x.1, y.1])]
  split
  · rename_i c1
    have e : p = q := by unfold cmpP at h; omega
    subst e
    have m := meet10_has l1 l2
    exact both10_has m m
  · exact both10_has l1 l2
theorem left10_in {c : Int} {a b : V10} (ha : some10 a = true) (hb : some10 b = true) : in10 (left10 c a b).1 a = true ∧ in10 (left10 c a b).2 b = true := by
  have p := some10_parts ha
  have q := some10_parts hb
  obtain ⟨k1, k2, _⟩ := rangeCmp_in (c := c) p.1 q.1
  have m1 := make10_mono k1 (in9_refl p.2.1)
  have m2 := make10_mono k2 (in9_refl q.2.1)
  rw [ok10_eq ((some10_iff a).1 ha).1] at m1
  rw [ok10_eq ((some10_iff b).1 hb).1] at m2
  exact ⟨m1, m2⟩
theorem cmp10_in {c : Int} {a b : V10} (hc : c ≠ 1) (ha : ok10 a = true) (hb : ok10 b = true) : in10 (cmp10 c a b).1 a = true ∧ in10 (cmp10 c a b).2 b = true := by
  unfold cmp10
  split
  · exact ⟨in10_none ha, in10_none hb⟩
  · rename_i h
    simp only [not_or, Bool.not_eq_false] at h
    unfold both10
    split
    · exact ⟨in10_none ha, in10_none hb⟩
    · exact left10_in h.1 h.2
theorem in10_ends {a b : V10} (h : in10 a b = true) (hs : a.1 ≤ a.2.1) : b.1 ≤ a.1 ∧ a.2.1 ≤ b.2.1 := by
  have hn : a ≠ none10 := fun e => by rw [e] at hs; simp [none10] at hs
  unfold in10 at h
  simp only [Bool.and_eq_true, Bool.or_eq_true, decide_eq_false hn] at h
  obtain ⟨⟨h1, h2⟩, h3⟩ := h
  rcases h3 with h3 | h3
  · cases h3
  · have := (rIn_iff _ _).1 h3.1.2
    simp only [rng] at this
    omega
theorem ok10_some {a : V10} (h : ok10 a = true) : a.1 ≤ a.2.1 ↔ a ≠ none10 := by
  constructor
  · intro k e; rw [e] at k; simp [none10] at k
  · intro k; exact (some10_parts ((some10_iff a).2 ⟨h, k⟩)).2.2.2.2.2.1
theorem cmp10_ends {c : Int} {a b : V10} (ha : ok10 a = true) (hb : ok10 b = true) (hx : (cmp10 c a b).1.1 ≤ (cmp10 c a b).1.2.1) :
    a.1 ≤ (cmp10 c a b).1.1 ∧ (cmp10 c a b).1.2.1 ≤ a.2.1 ∧ b.1 ≤ (cmp10 c a b).2.1 ∧ (cmp10 c a b).2.2.1 ≤ b.2.1 := by
  revert hx
  unfold cmp10
  split
  · intro hx; simp [none10] at hx
  · rename_i h
    simp only [not_or, Bool.not_eq_false] at h
    have l := left10_in (c := c) h.1 h.2
    split
    · unfold both10
      split
      · intro hx; simp [none10] at hx
      · rename_i hn
        simp only [or_self] at hn
        intro hx
        have s := some10_parts ((some10_iff _).2 ⟨meet10_ok _ _, hn⟩)
        have m1 := meet10_rng s.2.2.2.1
        have m2 := meet10_rng s.2.2.2.2.1
        have x1 := in10_ends l.1 (by omega)
        have x2 := in10_ends l.2 (by omega)
        simp only
        omega
    · unfold both10
      split
      · intro hx; simp [none10] at hx
      · rename_i hn
        simp only [not_or] at hn
        intro hx
        have x1 := in10_ends l.1 hx
        have x2 := in10_ends l.2 ((ok10_some (make10_ok _ _)).2 hn.2)
        omega
end Go.Proofs.YthbbgkpkijlclaaDoor.num
