/-
  Ranges as pairs of ends: what chapter 8 says of them, in plain terms; no Go text in sight.
-/
import Derived.Test.YthbbgkpkijlclaaDoorN8
namespace Go.Proofs.YthbbgkpkijlclaaDoor.num
open Go.RowKit
set_option linter.unusedVariables false

/-- A range: its ends. -/
abbrev R8 := Int × Int
/-- The range without numbers. -/
def none8 : R8 := (1, 0)
/-- A range as the model tells it in memory. -/
def rv (a : R8) : Value := .agg #[.int .i64 a.1, .int .i64 a.2]
def isN (a : R8) : Bool := decide (a.1 = 1 ∧ a.2 = 0)
theorem isN_iff (a : R8) : isN a = true ↔ (a.1 = 1 ∧ a.2 = 0) := by simp [isN]
theorem isN_not (a : R8) : isN a = false ↔ ¬ (a.1 = 1 ∧ a.2 = 0) := by simp [isN]
theorem isN_eq {a : R8} (h : isN a = true) : a = none8 := by
  obtain ⟨x, y⟩ := a
  obtain ⟨h1, h2⟩ := (isN_iff _).1 h
  simp at h1 h2
  subst h1 h2; rfl
def rOk (a : R8) : Bool := decide (a.1 = 1 ∧ a.2 = 0) || decide (-2147483648 ≤ a.1 ∧ a.2 ≤ 2147483647 ∧ a.1 ≤ a.2)
theorem rOk_iff (a : R8) : rOk a = true ↔ ((a.1 = 1 ∧ a.2 = 0) ∨ (-2147483648 ≤ a.1 ∧ a.2 ≤ 2147483647 ∧ a.1 ≤ a.2)) := by simp [rOk]
theorem rOk_not (a : R8) : rOk a = false ↔ ¬ ((a.1 = 1 ∧ a.2 = 0) ∨ (-2147483648 ≤ a.1 ∧ a.2 ≤ 2147483647 ∧ a.1 ≤ a.2)) := by
  rw [← Bool.not_eq_true, rOk_iff]
theorem rOk_eq (a : R8) : rOk a = (isN a || (okB a.1 && okB a.2 && decide (a.1 ≤ a.2))) := by
  rw [Bool.eq_iff_iff, rOk_iff]
  simp [isN_iff, okB_iff]
  omega
def rHas (a : R8) (v : Int) : Bool := rOk a && decide (a.1 ≤ v ∧ v ≤ a.2)
theorem rHas_iff (a : R8) (v : Int) : rHas a v = true ↔ (-2147483648 ≤ a.1 ∧ a.2 ≤ 2147483647 ∧ a.1 ≤ v ∧ v ≤ a.2) := by
  unfold rHas
  simp [rOk_iff]
  omega
theorem rHas_not (a : R8) (v : Int) : rHas a v = false ↔ ¬ (-2147483648 ≤ a.1 ∧ a.2 ≤ 2147483647 ∧ a.1 ≤ v ∧ v ≤ a.2) := by
  rw [← Bool.not_eq_true, rHas_iff]
theorem rHas_ok {a : R8} {v : Int} (h : rHas a v = true) : rOk a = true := by rw [rHas_iff] at h; rw [rOk_iff]; omega
def rIn (a b : R8) : Bool := rOk a && rOk b && (isN a || decide (b.1 ≤ a.1 ∧ a.2 ≤ b.2))
theorem rIn_iff (a b : R8) : rIn a b = true ↔ (rOk a = true ∧ rOk b = true ∧ ((a.1 = 1 ∧ a.2 = 0) ∨ (b.1 ≤ a.1 ∧ a.2 ≤ b.2))) := by
  unfold rIn
  simp [isN_iff, and_assoc]
theorem rOk_none : rOk none8 = true := by decide
theorem isN_none : isN none8 = true := by decide
theorem some_ok {a : R8} (h : -2147483648 ≤ a.1 ∧ a.2 ≤ 2147483647 ∧ a.1 ≤ a.2) : rOk a = true := by rw [rOk_iff]; omega
/-- The range from one number to another, as far as there are numbers. -/
def cut8 (lo hi : Int) : R8 := if min hi 2147483647 < max lo (-2147483648) then none8 else (max lo (-2147483648), min hi 2147483647)
theorem cut8_ok (lo hi : Int) : rOk (cut8 lo hi) = true := by
  unfold cut8
  split
  · exact rOk_none
  · exact some_ok ⟨by simp only; omega, by simp only; omega, by simp only; omega⟩
theorem cut8_has (lo hi v : Int) : rHas (cut8 lo hi) v = true ↔ (-2147483648 ≤ v ∧ v ≤ 2147483647 ∧ lo ≤ v ∧ v ≤ hi) := by
  rw [rHas_iff]
  unfold cut8
  split
  · show (-2147483648 ≤ (1 : Int) ∧ (0 : Int) ≤ 2147483647 ∧ 1 ≤ v ∧ v ≤ 0) ↔ _
    constructor
    · rintro ⟨_, _, h1, h2⟩; omega
    · rintro ⟨h1, h2, h3, h4⟩; omega
  · show (-2147483648 ≤ max lo (-2147483648) ∧ min hi 2147483647 ≤ 2147483647 ∧ max lo (-2147483648) ≤ v ∧ v ≤ min hi 2147483647) ↔ _
    constructor
    · rintro ⟨_, _, h1, h2⟩; omega
    · rintro ⟨h1, h2, h3, h4⟩; omega
theorem cut8_eq {lo hi : Int} (h1 : -2147483648 ≤ lo) (h2 : hi ≤ 2147483647) (h : lo ≤ hi) : cut8 lo hi = (lo, hi) := by
  unfold cut8
  rw [if_neg (by omega)]
  have e1 : max lo (-2147483648) = lo := by omega
  have e2 : min hi 2147483647 = hi := by omega
  rw [e1, e2]
theorem cut8_none {lo hi : Int} (h : hi < lo ∨ 2147483647 < lo ∨ hi < -2147483648) : cut8 lo hi = none8 := by
  unfold cut8
  rw [if_pos (by omega)]
def join8 (a b : R8) : R8 :=
  if rOk a = false ∨ rOk b = false then none8 else if isN a = true then b else if isN b = true then a else (min a.1 b.1, max a.2 b.2)
def meet8 (a b : R8) : R8 :=
  if rOk a = false ∨ rOk b = false ∨ isN a = true ∨ isN b = true then none8 else cut8 (max a.1 b.1) (min a.2 b.2)
/-- The greatest of some numbers that is at most v, or the least number. -/
def down8 (s : List Int) (v : Int) : Int := s.foldl (fun o x => if x ≤ v ∧ o < x then x else o) (-2147483648)
/-- The least of some numbers that is at least v, or the greatest number. -/
def up8 (s : List Int) (v : Int) : Int := s.foldl (fun o x => if v ≤ x ∧ x < o then x else o) 2147483647
def widen8 (a b : R8) (s : List Int) : R8 :=
  if rOk a = false ∨ rOk b = false ∨ isN a = true ∨ isN b = true then join8 a b
  else (if (join8 a b).1 < a.1 then down8 s (join8 a b).1 else (join8 a b).1, if a.2 < (join8 a b).2 then up8 s (join8 a b).2 else (join8 a b).2)

/-- An ok range that is not none. -/
theorem ok_some {a : R8} (h : rOk a = true) (n : ¬ isN a = true) : -2147483648 ≤ a.1 ∧ a.2 ≤ 2147483647 ∧ a.1 ≤ a.2 := by
  rw [rOk_iff] at h
  rw [isN_iff] at n
  omega
theorem some_not {a : R8} (h : a.1 ≤ a.2) : isN a = false := by rw [isN_not]; omega
theorem rOk_none_of {a : R8} (h : rOk a = true) : isN a = true ↔ a.2 < a.1 := by
  rw [rOk_iff] at h; rw [isN_iff]; omega
theorem join8_ok (a b : R8) : rOk (join8 a b) = true := by
  unfold join8
  split
  · exact rOk_none
  · rename_i h
    simp only [not_or, Bool.not_eq_false] at h
    split
    · exact h.2
    · split
      · exact h.1
      · rename_i n1 n2
        have k1 := ok_some h.1 n1
        have k2 := ok_some h.2 n2
        exact some_ok ⟨by simp only; omega, by simp only; omega, by simp only; omega⟩
theorem meet8_ok (a b : R8) : rOk (meet8 a b) = true := by
  unfold meet8
  split
  · exact rOk_none
  · exact cut8_ok _ _
theorem join8_in_l {a b : R8} (ha : rOk a = true) (hb : rOk b = true) : rIn a (join8 a b) = true := by
  rw [rIn_iff]
  refine ⟨ha, join8_ok _ _, ?_⟩
  unfold join8
  rw [if_neg (by simp [ha, hb])]
  split
  · rename_i n; exact .inl ((isN_iff _).1 n)
  · split
    · exact .inr ⟨by omega, by omega⟩
    · exact .inr ⟨by simp only; omega, by simp only; omega⟩
theorem join8_in_r {a b : R8} (ha : rOk a = true) (hb : rOk b = true) : rIn b (join8 a b) = true := by
  rw [rIn_iff]
  refine ⟨hb, join8_ok _ _, ?_⟩
  unfold join8
  rw [if_neg (by simp [ha, hb])]
  split
  · exact .inr ⟨by omega, by omega⟩
  · split
    · rename_i n; exact .inl ((isN_iff _).1 n)
    · exact .inr ⟨by simp only; omega, by simp only; omega⟩
theorem meet8_has {a b : R8} (ha : rOk a = true) (hb : rOk b = true) (v : Int) : rHas (meet8 a b) v = (rHas a v && rHas b v) := by
  rw [Bool.eq_iff_iff, Bool.and_eq_true]
  unfold meet8
  split
  · rename_i h
    simp only [ha, hb, Bool.true_eq_false, false_or] at h
    have h' : (a.1 = 1 ∧ a.2 = 0) ∨ (b.1 = 1 ∧ b.2 = 0) := by simpa [isN_iff] using h
    simp only [rHas_iff, none8]
    omega
  · rename_i h
    rw [cut8_has]
    simp only [rHas_iff]
    simp only [not_or] at h
    have k1 := ok_some ha h.2.2.1
    have k2 := ok_some hb h.2.2.2
    omega
theorem meet8_in_l {a b : R8} (ha : rOk a = true) (hb : rOk b = true) : rIn (meet8 a b) a = true := by
  rw [rIn_iff]
  refine ⟨meet8_ok _ _, ha, ?_⟩
  unfold meet8 cut8
  split
  · exact .inl ⟨rfl, rfl⟩
  · split
    · exact .inl ⟨rfl, rfl⟩
    · rename_i h _
      simp only [not_or] at h
      have k1 := ok_some ha h.2.2.1
      exact .inr ⟨by simp only; omega, by simp only; omega⟩
theorem meet8_in_r {a b : R8} (ha : rOk a = true) (hb : rOk b = true) : rIn (meet8 a b) b = true := by
  rw [rIn_iff]
  refine ⟨meet8_ok _ _, hb, ?_⟩
  unfold meet8 cut8
  split
  · exact .inl ⟨rfl, rfl⟩
  · split
    · exact .inl ⟨rfl, rfl⟩
    · rename_i h _
      simp only [not_or] at h
      have k1 := ok_some hb h.2.2.2
      exact .inr ⟨by simp only; omega, by simp only; omega⟩

theorem down8_from (s : List Int) (v o : Int) (ho : o ≤ v) : let r := s.foldl (fun o x => if x ≤ v ∧ o < x then x else o) o
    o ≤ r ∧ r ≤ v ∧ (r = o ∨ r ∈ s) := by
  induction s generalizing o with
  | nil => exact ⟨Int.le_refl _, ho, .inl rfl⟩
  | cons x s ih =>
    simp only [List.foldl_cons]
    by_cases h : x ≤ v ∧ o < x
    · rw [if_pos h]
      obtain ⟨h1, h2, h3⟩ := ih x h.1
      refine ⟨by omega, h2, ?_⟩
      rcases h3 with h3 | h3
      · exact .inr (by rw [h3]; exact List.mem_cons_self)
      · exact .inr (List.mem_cons_of_mem _ h3)
    · rw [if_neg h]
      obtain ⟨h1, h2, h3⟩ := ih o ho
      exact ⟨h1, h2, h3.imp id (List.mem_cons_of_mem _)⟩
theorem up8_from (s : List Int) (v o : Int) (ho : v ≤ o) : let r := s.foldl (fun o x => if v ≤ x ∧ x < o then x else o) o
    r ≤ o ∧ v ≤ r ∧ (r = o ∨ r ∈ s) := by
  induction s generalizing o with
  | nil => exact ⟨Int.le_refl _, ho, .inl rfl⟩
  | cons x s ih =>
    simp only [List.foldl_cons]
    by_cases h : v ≤ x ∧ x < o
    · rw [if_pos h]
      obtain ⟨h1, h2, h3⟩ := ih x h.1
      refine ⟨by omega, h2, ?_⟩
      rcases h3 with h3 | h3
      · exact .inr (by rw [h3]; exact List.mem_cons_self)
      · exact .inr (List.mem_cons_of_mem _ h3)
    · rw [if_neg h]
      obtain ⟨h1, h2, h3⟩ := ih o ho
      exact ⟨h1, h2, h3.imp id (List.mem_cons_of_mem _)⟩
theorem down8_bd (s : List Int) (v : Int) (h : -2147483648 ≤ v) : -2147483648 ≤ down8 s v ∧ down8 s v ≤ v ∧ (down8 s v = -2147483648 ∨ down8 s v ∈ s) := down8_from s v _ h
theorem up8_bd (s : List Int) (v : Int) (h : v ≤ 2147483647) : up8 s v ≤ 2147483647 ∧ v ≤ up8 s v ∧ (up8 s v = 2147483647 ∨ up8 s v ∈ s) := up8_from s v _ h
/-- What widening makes of two ok ranges that are not none. -/
theorem widen8_eq {a b : R8} (s : List Int) (ha : rOk a = true) (hb : rOk b = true) (na : ¬ isN a = true) (nb : ¬ isN b = true) :
    widen8 a b s = (if b.1 < a.1 then down8 s b.1 else a.1, if a.2 < b.2 then up8 s b.2 else a.2) := by
  have k1 := ok_some ha na
  have k2 := ok_some hb nb
  have e : join8 a b = (min a.1 b.1, max a.2 b.2) := by
    unfold join8
    rw [if_neg (by simp [ha, hb]), if_neg na, if_neg nb]
  unfold widen8
  rw [if_neg (by simp [ha, hb]; exact ⟨by simpa using na, by simpa using nb⟩), e]
  apply Prod.ext
  · by_cases h : b.1 < a.1
    · have e1 : min a.1 b.1 = b.1 := by omega
      simp only [e1, if_pos h]
    · have e1 : min a.1 b.1 = a.1 := by omega
      simp only [e1, if_neg h, Int.lt_irrefl, if_false]
  · by_cases h : a.2 < b.2
    · have e1 : max a.2 b.2 = b.2 := by omega
      simp only [e1, if_pos h]
    · have e1 : max a.2 b.2 = a.2 := by omega
      simp only [e1, if_neg h, Int.lt_irrefl, if_false]
theorem widen8_join {a b : R8} (s : List Int) (h : isN a = true ∨ isN b = true) : widen8 a b s = join8 a b := by
  unfold widen8
  rw [if_pos (.inr (.inr h))]
theorem widen8_ok (a b : R8) (s : List Int) : rOk (widen8 a b s) = true ∧ (rOk a = true → rOk b = true → rIn (join8 a b) (widen8 a b s) = true) := by
  by_cases h : rOk a = true ∧ rOk b = true ∧ ¬ isN a = true ∧ ¬ isN b = true
  · obtain ⟨ha, hb, na, nb⟩ := h
    have k1 := ok_some ha na
    have k2 := ok_some hb nb
    have e : join8 a b = (min a.1 b.1, max a.2 b.2) := by
      unfold join8
      rw [if_neg (by simp [ha, hb]), if_neg na, if_neg nb]
    have d := down8_bd s b.1 (by omega)
    have u := up8_bd s b.2 (by omega)
    have ok : rOk (widen8 a b s) = true := by
      rw [widen8_eq s ha hb na nb]
      apply some_ok
      refine ⟨?_, ?_, ?_⟩
      · simp only; split <;> omega
      · simp only; split <;> omega
      · simp only; split <;> split <;> omega
    refine ⟨ok, fun _ _ => ?_⟩
    rw [rIn_iff]
    refine ⟨join8_ok _ _, ok, .inr ?_⟩
    rw [widen8_eq s ha hb na nb, e]
    constructor
    · simp only; split <;> omega
    · simp only; split <;> omega
  · have e : widen8 a b s = join8 a b := by
      unfold widen8
      rw [if_pos (by
        revert h
        generalize rOk a = p1
        generalize rOk b = p2
        generalize isN a = p3
        generalize isN b = p4
        revert p1 p2 p3 p4
        decide)]
    rw [e]
    refine ⟨join8_ok _ _, fun _ _ => ?_⟩
    rw [rIn_iff]
    exact ⟨join8_ok _ _, join8_ok _ _, .inr ⟨Int.le_refl _, Int.le_refl _⟩⟩
theorem rIn_trans {a b c : R8} (h : rIn a b = true) (k : rIn b c = true) : rIn a c = true := by
  rw [rIn_iff] at *
  refine ⟨h.1, k.2.1, ?_⟩
  have k1 := h.1
  have k2 := k.1
  rw [rOk_iff] at k1 k2
  omega
theorem rIn_has {a b : R8} {v : Int} (h : rIn a b = true) (k : rHas a v = true) : rHas b v = true := by
  rw [rIn_iff] at h
  rw [rHas_iff] at *
  have k2 := h.2.1
  rw [rOk_iff] at k2
  omega
end Go.Proofs.YthbbgkpkijlclaaDoor.num
