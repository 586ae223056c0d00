/-
  Plain facts on quotients, rests and shifts of two numbers that are ok.
-/
import Derived.Test.YtjpiihjgbllieaaFacts
namespace Go.Proofs.Ytjpiihjgbllieaa.num
open Go.RowKit
theorem rest_make (a b : Int) : a.tdiv b * b + a.tmod b = a := by
  have h := Int.mul_tdiv_add_tmod a b
  rw [Int.mul_comm] at h
  exact h
theorem rest_less (a b : Int) (hb : ¬ b = 0) : a.tmod b * a.tmod b < b * b := by
  have h := Int.natAbs_tmod a b
  have h2 : a.natAbs % b.natAbs < b.natAbs := Nat.mod_lt _ (by omega)
  rw [← Int.natAbs_mul_self' (a.tmod b), ← Int.natAbs_mul_self' b]
  have h3 : (a.tmod b).natAbs < b.natAbs := by omega
  have h4 : (a.tmod b).natAbs * (a.tmod b).natAbs < b.natAbs * b.natAbs := Nat.mul_self_lt_mul_self h3
  exact_mod_cast h4
theorem rest_sign (a b : Int) : 0 ≤ a.tmod b * a := by
  by_cases h0 : 0 ≤ a
  · exact Int.mul_nonneg (Int.tmod_nonneg b h0) h0
  · have h4 := Int.tmod_nonneg (a := -a) b (by omega)
    rw [Int.neg_tmod] at h4
    have h5 : 0 ≤ (-(a.tmod b)) * (-a) := Int.mul_nonneg h4 (by omega)
    rw [Int.neg_mul_neg] at h5
    exact h5
theorem numDo_rem (a b : Int) (hA : okB a = true) (hB : okB b = true) (hb : ¬ b = 0) : numDo 5 a b = (a.tmod b, 0) := by
  have hO : inB 5 1 13 = true := by decide
  obtain ⟨ha1, ha2⟩ := (okB_iff a).1 hA
  have e := exactV_ok5 a b ha1 ha2
  rw [exactV_5] at e
  simp [numDo, hO, hA, hB, hb, exactV_5, e]
theorem numDo_div (a b : Int) (hA : okB a = true) (hB : okB b = true) (hb : ¬ b = 0) : numDo 4 a b = if okB (a.tdiv b) = false then (0, 1) else (a.tdiv b, 0) := by
  have hO : inB 4 1 13 = true := by decide
  simp only [numDo, hO, hA, hB, exactV_4]
  simp [hb]
theorem numDo_div0 (a : Int) (hA : okB a = true) : numDo 4 a 0 = (0, 2) := by
  have hO : inB 4 1 13 = true := by decide
  have z : okB 0 = true := by decide
  simp [numDo, hO, hA, z]
theorem numDo_rem0 (a : Int) (hA : okB a = true) : numDo 5 a 0 = (0, 2) := by
  have hO : inB 5 1 13 = true := by decide
  have z : okB 0 = true := by decide
  simp [numDo, hO, hA, z]
theorem small_ok (n : Int) (h0 : 0 ≤ n) (h1 : n ≤ 31) : okB n = true := by rw [okB_iff]; omega
theorem numDo_shl (a n : Int) (hA : okB a = true) (h0 : 0 ≤ n) (h1 : n ≤ 31) : numDo 9 a n = if okB (a * 2 ^ n.toNat) = false then (0, 1) else (a * 2 ^ n.toNat, 0) := by
  have hO : inB 9 1 13 = true := by decide
  have hS : inB n 0 31 = true := by rw [inB_iff]; omega
  simp only [numDo, hO, hA, small_ok n h0 h1, hS, exactV_9]
  simp
theorem numDo_shr (a n : Int) (hA : okB a = true) (h0 : 0 ≤ n) (h1 : n ≤ 31) : numDo 10 a n = (a / 2 ^ n.toNat, 0) := by
  have hO : inB 10 1 13 = true := by decide
  have hS : inB n 0 31 = true := by rw [inB_iff]; omega
  obtain ⟨ha1, ha2⟩ := (okB_iff a).1 hA
  have e := exactV_ok10 a n ha1 ha2
  rw [exactV_10] at e
  simp [numDo, hO, hA, small_ok n h0 h1, hS, exactV_10, e]
theorem shift_back (a n : Int) : a * 2 ^ n.toNat / 2 ^ n.toNat = a := Int.mul_ediv_cancel _ (by have := two_pow_pos n.toNat; omega)
end Go.Proofs.Ytjpiihjgbllieaa.num
