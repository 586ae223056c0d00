/-
  Plain facts: and, or and xor share the bits of two numbers of 32 bits out; an operator that wraps makes what the other one makes without a fault.
-/
import Derived.Test.YtjpiihjgbllieaaRestF
namespace Go.Proofs.Ytjpiihjgbllieaa.num
open Go.RowKit
theorem bit_or_nat (A B i : Nat) : bit (A ||| B) i + bit A i * bit B i = bit A i + bit B i := by
  simp only [bit_tb, Nat.testBit_or]; cases A.testBit i <;> cases B.testBit i <;> rfl
theorem bit_xor_nat (A B i : Nat) : bit (A ^^^ B) i + bit (A &&& B) i = bit (A ||| B) i := by
  simp only [bit_tb, Nat.testBit_xor, Nat.testBit_and, Nat.testBit_or]; cases A.testBit i <;> cases B.testBit i <;> rfl
theorem share_mod (A B i : Nat) : (A &&& B) % 2 ^ i + (A ||| B) % 2 ^ i = A % 2 ^ i + B % 2 ^ i := by
  induction i with
  | zero => simp [Nat.mod_one]
  | succ i ih =>
    rw [mod_step, mod_step, mod_step A, mod_step B]
    have h := bit_or_nat A B i
    rw [← bit_and] at h
    have h2 : bit (A &&& B) i * 2 ^ i + bit (A ||| B) i * 2 ^ i = bit A i * 2 ^ i + bit B i * 2 ^ i := by
      rw [← Nat.add_mul, ← Nat.add_mul]; congr 1; omega
    omega
theorem xor_mod (A B i : Nat) : (A ^^^ B) % 2 ^ i + (A &&& B) % 2 ^ i = (A ||| B) % 2 ^ i := by
  induction i with
  | zero => simp [Nat.mod_one]
  | succ i ih =>
    rw [mod_step, mod_step, mod_step (A ||| B)]
    have h := bit_xor_nat A B i
    have h2 : bit (A ^^^ B) i * 2 ^ i + bit (A &&& B) i * 2 ^ i = bit (A ||| B) i * 2 ^ i := by
      rw [← Nat.add_mul]; congr 1
    omega
theorem w32_bit (N : Nat) (h : N < 2 ^ 32) : wrap32 (N : Int) = (N : Int) - 4294967296 * ((bit N 31 : Nat) : Int) := by
  unfold bit wrap32
  have e : (2 : Nat) ^ 31 = 2147483648 := by decide
  rw [e]
  omega
theorem share32 (a b : Int) (ha : -2147483648 ≤ a ∧ a ≤ 2147483647) (hb : -2147483648 ≤ b ∧ b ≤ 2147483647) :
    exactV 6 a b + exactV 7 a b = a + b ∧ exactV 8 a b = exactV 7 a b - exactV 6 a b := by
  rw [exactV_6, exactV_7, exactV_8]
  have e6 : bitsN 6 (low a) (low b) = low a &&& low b := rfl
  have e7 : bitsN 7 (low a) (low b) = low a ||| low b := rfl
  have e8 : bitsN 8 (low a) (low b) = low a ^^^ low b := rfl
  rw [e6, e7, e8]
  have hA := low_lt a
  have hB := low_lt b
  have l6 : low a &&& low b < 2 ^ 32 := Nat.and_lt_two_pow _ hB
  have l7 : low a ||| low b < 2 ^ 32 := Nat.or_lt_two_pow hA hB
  have l8 : low a ^^^ low b < 2 ^ 32 := Nat.xor_lt_two_pow hA hB
  have s1 := share_mod (low a) (low b) 32
  have s2 := xor_mod (low a) (low b) 32
  rw [Nat.mod_eq_of_lt l6, Nat.mod_eq_of_lt l7, Nat.mod_eq_of_lt hA, Nat.mod_eq_of_lt hB] at s1
  rw [Nat.mod_eq_of_lt l6, Nat.mod_eq_of_lt l7, Nat.mod_eq_of_lt l8] at s2
  have b1 := bit_or_nat (low a) (low b) 31
  have b2 := bit_xor_nat (low a) (low b) 31
  rw [← bit_and] at b1
  have wa := w32_low a ha.1 ha.2
  have wb := w32_low b hb.1 hb.2
  rw [w32_bit _ hA] at wa
  rw [w32_bit _ hB] at wb
  rw [w32_bit _ l6, w32_bit _ l7, w32_bit _ l8]
  generalize low a &&& low b = x at *
  generalize low a ||| low b = y at *
  generalize low a ^^^ low b = z at *
  omega
theorem numDo_bit (op a b : Int) (h : op = 6 ∨ op = 7 ∨ op = 8) (hA : okB a = true) (hB : okB b = true) : numDo op a b = (exactV op a b, 0) := by
  rcases h with rfl | rfl | rfl
  · have hO : inB 6 1 13 = true := by decide
    simp [numDo, hO, hA, hB, exactV_ok6 a b]
  · have hO : inB 7 1 13 = true := by decide
    simp [numDo, hO, hA, hB, exactV_ok7 a b]
  · have hO : inB 8 1 13 = true := by decide
    simp [numDo, hO, hA, hB, exactV_ok8 a b]
theorem exactV_bd (op a b : Int) (h : op = 6 ∨ op = 7 ∨ op = 8) : -2147483648 ≤ exactV op a b ∧ exactV op a b ≤ 2147483647 := by
  rcases h with rfl | rfl | rfl
  · exact (okB_iff _).1 (exactV_ok6 a b)
  · exact (okB_iff _).1 (exactV_ok7 a b)
  · exact (okB_iff _).1 (exactV_ok8 a b)
theorem w32_okid (v : Int) (h : okB v = true) : wrap32 v = v := by have := w32_eq_iff v; rw [h] at this; simpa using this
theorem wrap_agree (j : Nat) (hj : j < 3) (a b : Int) (hA : okB a = true) (hB : okB b = true) :
    (numDo (11 + j) a b).2 = 0 ∧ ((numDo (1 + j) a b).2 = 0 → (numDo (1 + j) a b).1 = (numDo (11 + j) a b).1) := by
  have hj3 : j = 0 ∨ j = 1 ∨ j = 2 := by omega
  rcases hj3 with rfl | rfl | rfl
  · show (numDo 11 a b).2 = 0 ∧ ((numDo 1 a b).2 = 0 → (numDo 1 a b).1 = (numDo 11 a b).1)
    have hO : inB 1 1 13 = true := by decide
    have hO2 : inB 11 1 13 = true := by decide
    simp only [numDo, hO, hO2, hA, hB, exactV_1, exactV_11]
    cases h : okB (a + b) <;> simp [w32_okid, h]
  · show (numDo 12 a b).2 = 0 ∧ ((numDo 2 a b).2 = 0 → (numDo 2 a b).1 = (numDo 12 a b).1)
    have hO : inB 2 1 13 = true := by decide
    have hO2 : inB 12 1 13 = true := by decide
    simp only [numDo, hO, hO2, hA, hB, exactV_2, exactV_12]
    cases h : okB (a - b) <;> simp [w32_okid, h]
  · show (numDo 13 a b).2 = 0 ∧ ((numDo 3 a b).2 = 0 → (numDo 3 a b).1 = (numDo 13 a b).1)
    have hO : inB 3 1 13 = true := by decide
    have hO2 : inB 13 1 13 = true := by decide
    simp only [numDo, hO, hO2, hA, hB, exactV_3, exactV_13]
    cases h : okB (a * b) <;> simp [w32_okid, h]
end Go.Proofs.Ytjpiihjgbllieaa.num
