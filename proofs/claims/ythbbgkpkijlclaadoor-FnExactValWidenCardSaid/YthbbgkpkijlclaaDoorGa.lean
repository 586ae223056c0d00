/-
  Rests as pairs (what is divided by, what is left): what chapter 9 says of them, in plain terms; no Go text in sight.
-/
import Derived.Test.YthbbgkpkijlclaaDoorN8
namespace Go.Proofs.YthbbgkpkijlclaaDoor.num
open Go.RowKit
set_option linter.unusedVariables false

/-- The greatest common divisor by size. -/
def gcd9 (a b : Int) : Int := (Int.gcd a b : Int)
theorem gcd9_pos (a b : Int) : 0 ≤ gcd9 a b := by unfold gcd9; omega
theorem gcd9_left (a b : Int) : gcd9 a b ∣ a := Int.gcd_dvd_left a b
theorem gcd9_right (a b : Int) : gcd9 a b ∣ b := Int.gcd_dvd_right a b
theorem gcd9_dvd {a b c : Int} (h1 : c ∣ a) (h2 : c ∣ b) : c ∣ gcd9 a b := Int.dvd_coe_gcd h1 h2
theorem gcd9_zero (a : Int) : gcd9 a 0 = (a.natAbs : Int) := by unfold gcd9; simp
theorem zero_gcd9 (a : Int) : gcd9 0 a = (a.natAbs : Int) := by unfold gcd9; simp
theorem gcd9_abs_left (a b : Int) : gcd9 (a.natAbs : Int) b = gcd9 a b := by unfold gcd9; simp [Int.gcd]
theorem gcd9_abs_right (a b : Int) : gcd9 a (b.natAbs : Int) = gcd9 a b := by unfold gcd9; simp [Int.gcd]
theorem gcd9_neg_left (a b : Int) : gcd9 (-a) b = gcd9 a b := by unfold gcd9; simp
theorem gcd9_neg_right (a b : Int) : gcd9 a (-b) = gcd9 a b := by unfold gcd9; simp
theorem gcd9_comm (a b : Int) : gcd9 a b = gcd9 b a := by unfold gcd9; rw [Int.gcd_comm]
theorem gcd9_assoc (a b c : Int) : gcd9 (gcd9 a b) c = gcd9 a (gcd9 b c) := by unfold gcd9; rw [Int.gcd_assoc]
theorem gcd9_step (a b : Int) : gcd9 b (a.tmod b) = gcd9 a b := by
  unfold gcd9 Int.gcd
  rw [Int.natAbs_tmod, Nat.gcd_comm a.natAbs b.natAbs, Nat.gcd_rec b.natAbs a.natAbs, Nat.gcd_comm]
theorem gcd9_eq_zero {a b : Int} (h : gcd9 a b = 0) : a = 0 ∧ b = 0 := by
  have h1 := gcd9_left a b
  have h2 := gcd9_right a b
  rw [h] at h1 h2
  exact ⟨Int.zero_dvd.1 h1, Int.zero_dvd.1 h2⟩
theorem gcd9_le_left {a : Int} (b : Int) (h : 0 < a) : gcd9 a b ≤ a := Int.le_of_dvd h (gcd9_left a b)
theorem gcd9_le_right (a : Int) {b : Int} (h : 0 < b) : gcd9 a b ≤ b := Int.le_of_dvd h (gcd9_right a b)
theorem gcd9_gt {a b : Int} (h : a ≠ 0 ∨ b ≠ 0) : 0 < gcd9 a b := by
  have h1 := gcd9_pos a b
  rcases Int.lt_or_eq_of_le h1 with h2 | h2
  · exact h2
  · have := gcd9_eq_zero h2.symm; omega
theorem gcd9_bd (a b : Int) (n : Int) (ha : -n ≤ a ∧ a ≤ n) (hb : -n ≤ b ∧ b ≤ n) : gcd9 a b ≤ n := by
  by_cases h : a = 0
  · subst h; rw [zero_gcd9]; omega
  · have : gcd9 a b ≤ (a.natAbs : Int) := by
      rw [← gcd9_abs_left]
      exact gcd9_le_left _ (by omega)
    omega
theorem dvd_iff_emod {a b : Int} : a ∣ b ↔ b % a = 0 := ⟨Int.emod_eq_zero_of_dvd, Int.dvd_of_emod_eq_zero⟩
theorem dvd_iff_tmod {a b : Int} : a ∣ b ↔ b.tmod a = 0 := ⟨Int.tmod_eq_zero_of_dvd, Int.dvd_of_tmod_eq_zero⟩
theorem emod_eq_iff {a b m : Int} : a % m = b % m ↔ m ∣ a - b := by
  rw [dvd_iff_emod]
  exact Int.emod_eq_emod_iff_emod_sub_eq_zero
theorem emod_is {a b m : Int} (h0 : 0 ≤ b) (h1 : b < m) : a % m = b ↔ m ∣ a - b := by
  rw [← emod_eq_iff, Int.emod_eq_of_lt h0 h1]

/-- A rest: what is divided by, and what is left. -/
abbrev T9 := Int × Int
def all9 : T9 := (1, 0)
def qOk (a : T9) : Bool := if a.1 = 0 then okB a.2 else decide (1 ≤ a.1 ∧ a.1 ≤ 65536 ∧ 0 ≤ a.2 ∧ a.2 < a.1)
theorem qOk_iff (a : T9) : qOk a = true ↔ ((a.1 = 0 ∧ -2147483648 ≤ a.2 ∧ a.2 ≤ 2147483647) ∨ (1 ≤ a.1 ∧ a.1 ≤ 65536 ∧ 0 ≤ a.2 ∧ a.2 < a.1)) := by
  unfold qOk
  split
  · rw [okB_iff]; omega
  · rw [decide_eq_true_iff]; omega
theorem qOk_not (a : T9) : qOk a = false ↔ ¬ ((a.1 = 0 ∧ -2147483648 ≤ a.2 ∧ a.2 ≤ 2147483647) ∨ (1 ≤ a.1 ∧ a.1 ≤ 65536 ∧ 0 ≤ a.2 ∧ a.2 < a.1)) := by
  rw [← Bool.not_eq_true, qOk_iff]
def qHas (a : T9) (v : Int) : Bool := qOk a && okB v && (if a.1 = 0 then decide (v = a.2) else decide (v % a.1 = a.2))
theorem qHas_iff (a : T9) (v : Int) : qHas a v = true ↔ (qOk a = true ∧ (-2147483648 ≤ v ∧ v ≤ 2147483647) ∧ a.1 ∣ v - a.2) := by
  unfold qHas
  simp only [Bool.and_eq_true, okB_iff, and_assoc]
  constructor
  · rintro ⟨h1, h2, h3, h4⟩
    refine ⟨h1, h2, h3, ?_⟩
    split at h4
    · rename_i e
      rw [decide_eq_true_iff] at h4
      rw [e, Int.zero_dvd]; omega
    · rename_i e
      rw [decide_eq_true_iff] at h4
      rw [qOk_iff] at h1
      exact (emod_is (by omega) (by omega)).1 h4
  · rintro ⟨h1, h2, h3, h4⟩
    refine ⟨h1, h2, h3, ?_⟩
    split
    · rename_i e
      rw [e, Int.zero_dvd] at h4
      rw [decide_eq_true_iff]; omega
    · rename_i e
      rw [qOk_iff] at h1
      rw [decide_eq_true_iff]
      exact (emod_is (by omega) (by omega)).2 h4
/-- What is divided by, made small enough. -/
def small9 (m : Int) : Int := if 65536 < m then gcd9 m 65536 else m
theorem small9_dvd (m : Int) : small9 m ∣ m := by
  unfold small9; split
  · exact gcd9_left _ _
  · exact Int.dvd_refl _
theorem small9_bd {m : Int} (h : 0 ≤ m) : 0 ≤ small9 m ∧ small9 m ≤ 65536 ∧ (small9 m = 0 ↔ m = 0) := by
  unfold small9; split
  · have h1 := gcd9_gt (a := m) (b := 65536) (.inr (by omega))
    have h2 := gcd9_le_right m (b := 65536) (by omega)
    omega
  · omega
theorem small9_id {m : Int} (h : m ≤ 65536) : small9 m = m := by unfold small9; rw [if_neg (by omega)]
/-- The rest of a number. -/
def make9 (m at' : Int) : T9 := if small9 m = 0 then (0, at') else (small9 m, at' % small9 m)
theorem make9_zero (v : Int) : make9 0 v = (0, v) := by unfold make9; rw [small9_id (by omega), if_pos rfl]
theorem make9_ok {m v : Int} (h : 0 ≤ m) (h0 : m = 0 → -2147483648 ≤ v ∧ v ≤ 2147483647) : qOk (make9 m v) = true := by
  obtain ⟨h1, h2, h3⟩ := small9_bd h
  unfold make9
  split
  · rename_i e
    rw [qOk_iff]; exact .inl ⟨rfl, h0 (h3.1 e)⟩
  · rename_i e
    have k1 := Int.emod_nonneg v e
    have k2 := Int.emod_lt_of_pos v (show 0 < small9 m by omega)
    rw [qOk_iff]; simp only; omega
theorem make9_has {m v u : Int} (h : 0 ≤ m) (hu : -2147483648 ≤ u ∧ u ≤ 2147483647) (hd : m ∣ u - v) : qHas (make9 m v) u = true := by
  obtain ⟨h1, h2, h3⟩ := small9_bd h
  have e0 : m = 0 → v = u := by rintro rfl; rw [Int.zero_dvd] at hd; omega
  rw [qHas_iff]
  refine ⟨make9_ok h (fun e => by have := e0 e; omega), hu, ?_⟩
  unfold make9
  split
  · rename_i e
    simp only
    rw [Int.zero_dvd]; have := e0 (h3.1 e); omega
  · rename_i e
    simp only
    rw [← emod_eq_iff, Int.emod_emod_of_dvd _ (Int.dvd_refl _), emod_eq_iff]
    exact Int.dvd_trans (small9_dvd m) hd
def join9 (a b : T9) : T9 := if qOk a = false ∨ qOk b = false then all9 else make9 (gcd9 (gcd9 a.1 b.1) (a.2 - b.2)) a.2
def in9 (a b : T9) : Bool := qOk a && qOk b && (if b.1 = 0 then decide (a = b) else decide (a.1.tmod b.1 = 0 ∧ a.2 % b.1 = b.2))
theorem in9_iff (a b : T9) : in9 a b = true ↔ (qOk a = true ∧ qOk b = true ∧ b.1 ∣ a.1 ∧ b.1 ∣ a.2 - b.2) := by
  unfold in9
  simp only [Bool.and_eq_true, and_assoc]
  constructor
  · rintro ⟨h1, h2, h3⟩
    refine ⟨h1, h2, ?_⟩
    split at h3
    · rename_i e
      rw [decide_eq_true_iff] at h3
      subst h3
      rw [e, Int.zero_dvd, Int.zero_dvd]; exact ⟨rfl, by omega⟩
    · rename_i e
      rw [decide_eq_true_iff] at h3
      rw [qOk_iff] at h2
      exact ⟨dvd_iff_tmod.2 h3.1, (emod_is (by omega) (by omega)).1 h3.2⟩
  · rintro ⟨h1, h2, h3, h4⟩
    refine ⟨h1, h2, ?_⟩
    split
    · rename_i e
      rw [e, Int.zero_dvd] at h3 h4
      rw [decide_eq_true_iff]
      exact Prod.ext (by omega) (by omega)
    · rename_i e
      rw [qOk_iff] at h2
      rw [decide_eq_true_iff]
      exact ⟨dvd_iff_tmod.1 h3, (emod_is (by omega) (by omega)).2 h4⟩
/-- The program's RestIn asks RestJoin. -/
theorem in9_join {a b : T9} (ha : qOk a = true) (hb : qOk b = true) : decide (join9 a b = b) = in9 a b := by
  rw [Bool.eq_iff_iff, decide_eq_true_iff, in9_iff]
  unfold join9
  rw [if_neg (by simp [ha, hb])]
  generalize hg : gcd9 (gcd9 a.1 b.1) (a.2 - b.2) = g
  have g0 : 0 ≤ g := by rw [← hg]; exact gcd9_pos _ _
  have g1 : g ∣ a.1 := by rw [← hg]; exact Int.dvd_trans (gcd9_left _ _) (gcd9_left _ _)
  have g2 : g ∣ b.1 := by rw [← hg]; exact Int.dvd_trans (gcd9_left _ _) (gcd9_right _ _)
  have g3 : g ∣ a.2 - b.2 := by rw [← hg]; exact gcd9_right _ _
  obtain ⟨s1, s2, s3⟩ := small9_bd g0
  constructor
  · intro e
    refine ⟨ha, hb, ?_⟩
    have e1 : b.1 = small9 g := by
      rw [← e]; unfold make9; split
      · simp only; omega
      · rfl
    rw [e1]
    exact ⟨Int.dvd_trans (small9_dvd g) g1, Int.dvd_trans (small9_dvd g) g3⟩
  · rintro ⟨_, _, h3, h4⟩
    have e : g = b.1 := by
      refine Int.dvd_antisymm g0 ?_ g2 ?_
      · rw [qOk_iff] at hb; omega
      · rw [← hg]; exact gcd9_dvd (gcd9_dvd h3 (Int.dvd_refl _)) h4
    have hb' := hb
    rw [qOk_iff] at hb
    unfold make9
    rw [e, small9_id (by omega)]
    split
    · rename_i z
      rw [z, Int.zero_dvd] at h4
      exact Prod.ext (by simp only; omega) (by simp only; omega)
    · exact Prod.ext rfl ((emod_is (by omega) (by omega)).2 h4)
theorem join9_ok (a b : T9) : qOk (join9 a b) = true := by
  unfold join9
  split
  · decide
  · rename_i h
    have ha : qOk a = true := by simpa using (fun e => h (.inl e))
    refine make9_ok (gcd9_pos _ _) (fun e => ?_)
    have e1 := gcd9_eq_zero e
    have e2 := gcd9_eq_zero e1.1
    rw [qOk_iff] at ha
    omega
theorem join9_in_left {a b : T9} (ha : qOk a = true) (hb : qOk b = true) : in9 a (join9 a b) = true := by
  rw [in9_iff]
  refine ⟨ha, join9_ok a b, ?_⟩
  unfold join9
  rw [if_neg (by simp [ha, hb])]
  generalize hg : gcd9 (gcd9 a.1 b.1) (a.2 - b.2) = g
  have g0 : 0 ≤ g := by rw [← hg]; exact gcd9_pos _ _
  have g1 : g ∣ a.1 := by rw [← hg]; exact Int.dvd_trans (gcd9_left _ _) (gcd9_left _ _)
  obtain ⟨s1, s2, s3⟩ := small9_bd g0
  unfold make9
  split
  · rename_i e
    have := s3.1 e
    subst this
    exact ⟨g1, by simp only; rw [Int.zero_dvd]; omega⟩
  · exact ⟨Int.dvd_trans (small9_dvd g) g1, by simp only; rw [← emod_eq_iff, Int.emod_emod_of_dvd _ (Int.dvd_refl _)]⟩
theorem join9_comm (a b : T9) (ha : qOk a = true) (hb : qOk b = true) : join9 a b = join9 b a := by
  unfold join9
  rw [if_neg (by simp [ha, hb]), if_neg (by simp [ha, hb])]
  have e : gcd9 (gcd9 b.1 a.1) (b.2 - a.2) = gcd9 (gcd9 a.1 b.1) (a.2 - b.2) := by
    rw [gcd9_comm b.1 a.1, ← gcd9_neg_right]; congr 1; omega
  rw [e]
  generalize hg : gcd9 (gcd9 a.1 b.1) (a.2 - b.2) = g
  have g0 : 0 ≤ g := by rw [← hg]; exact gcd9_pos _ _
  have g3 : g ∣ a.2 - b.2 := by rw [← hg]; exact gcd9_right _ _
  obtain ⟨s1, s2, s3⟩ := small9_bd g0
  unfold make9
  split
  · rename_i z
    rw [s3.1 z, Int.zero_dvd] at g3
    rw [show a.2 = b.2 by omega]
  · rw [emod_eq_iff.2 (Int.dvd_trans (small9_dvd g) g3)]
theorem in9_has {a b : T9} (h : in9 a b = true) {v : Int} (hv : qHas a v = true) : qHas b v = true := by
  rw [in9_iff] at h
  rw [qHas_iff] at hv ⊢
  refine ⟨h.2.1, hv.2.1, ?_⟩
  have e : v - b.2 = (v - a.2) + (a.2 - b.2) := by omega
  rw [e]
  exact Int.dvd_add (Int.dvd_trans h.2.2.1 hv.2.2) h.2.2.2
theorem join9_has_left {a b : T9} (hb : qOk b = true) {v : Int} (hv : qHas a v = true) : qHas (join9 a b) v = true :=
  in9_has (join9_in_left ((qHas_iff _ _).1 hv).1 hb) hv
theorem join9_in_right {a b : T9} (ha : qOk a = true) (hb : qOk b = true) : in9 b (join9 a b) = true := by
  rw [join9_comm a b ha hb]; exact join9_in_left hb ha
end Go.Proofs.YthbbgkpkijlclaaDoor.num
