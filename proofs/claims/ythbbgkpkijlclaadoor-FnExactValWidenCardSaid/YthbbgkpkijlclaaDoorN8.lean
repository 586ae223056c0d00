/-
  Plain facts on what an operator makes of two numbers; no Go text in sight.
-/
import Derived.Test.YthbbgkpkijlclaaDoorBits
namespace Go.Proofs.YthbbgkpkijlclaaDoor.num
open Go.RowKit
set_option linter.unusedVariables false

theorem floor_eq (a m : Int) (hm : 0 < m) : (a - a % m).tdiv m = a / m := by
  have h : a - a % m = m * (a / m) := by have := Int.mul_ediv_add_emod a m; omega
  rw [h, Int.mul_tdiv_cancel_left _ (by omega)]
theorem div_bd (a m : Int) (hm : 0 < m) (h1 : -2147483648 ≤ a) (h2 : a ≤ 2147483647) : -2147483648 ≤ a / m ∧ a / m ≤ 2147483647 := by
  constructor
  · rw [Int.le_ediv_iff_mul_le hm]
    have : (-2147483648 : Int) * m ≤ -2147483648 * 1 := by omega
    omega
  · have : a / m < 2147483648 := by
      rw [Int.ediv_lt_iff_lt_mul hm]
      omega
    omega
theorem bitsN_or (A B : Nat) : bitsN 7 A B = A ||| B := rfl
theorem bitsN_xor (A B : Nat) : bitsN 8 A B = A ^^^ B := rfl
theorem bitsN_and {op : Int} (h7 : (op == 7) = false) (h8 : (op == 8) = false) (A B : Nat) : bitsN op A B = A &&& B := by
  unfold bitsN; simp at h7 h8; rw [if_neg h7, if_neg h8]

/-- What an operator would make without bound. -/
def exactV (op a b : Int) : Int :=
  if op = 1 ∨ op = 11 then a + b else if op = 2 ∨ op = 12 then a - b else if op = 3 ∨ op = 13 then a * b
  else if op = 4 then a.tdiv b else if op = 5 then a.tmod b else if op = 9 then a * 2 ^ b.toNat
  else if op = 10 then a / 2 ^ b.toNat else wrap32 (bitsN op (low a) (low b) : Nat)
theorem mul_bd (a b : Int) (ha : -2147483648 ≤ a ∧ a ≤ 2147483647) (hb : -2147483648 ≤ b ∧ b ≤ 2147483648) : -4611686018427387904 ≤ a * b ∧ a * b ≤ 4611686018427387904 := by
  have h1 : a * b = a * (b + 2147483648) - 2147483648 * a := by rw [Int.mul_add]; omega
  have h2 : 0 ≤ (2147483647 - a) * (b + 2147483648) := Int.mul_nonneg (by omega) (by omega)
  have h3 : 0 ≤ (a + 2147483648) * (b + 2147483648) := Int.mul_nonneg (by omega) (by omega)
  have h4 : 0 ≤ (2147483647 - a) * (2147483648 - b) := Int.mul_nonneg (by omega) (by omega)
  have h5 : 0 ≤ (a + 2147483648) * (2147483648 - b) := Int.mul_nonneg (by omega) (by omega)
  have e2 : (2147483647 - a) * (b + 2147483648) = 2147483647 * b + 2147483647 * 2147483648 - a * b - a * 2147483648 := by rw [Int.sub_mul, Int.mul_add, Int.mul_add]; omega
  have e3 : (a + 2147483648) * (b + 2147483648) = a * b + a * 2147483648 + 2147483648 * b + 2147483648 * 2147483648 := by rw [Int.add_mul, Int.mul_add, Int.mul_add]; omega
  have e4 : (2147483647 - a) * (2147483648 - b) = 2147483647 * 2147483648 - 2147483647 * b - a * 2147483648 + a * b := by rw [Int.sub_mul, Int.mul_sub, Int.mul_sub]; omega
  have e5 : (a + 2147483648) * (2147483648 - b) = a * 2147483648 - a * b + 2147483648 * 2147483648 - 2147483648 * b := by rw [Int.add_mul, Int.mul_sub, Int.mul_sub]; omega
  omega
theorem tdiv_bd (a b : Int) (ha : -2147483648 ≤ a ∧ a ≤ 2147483647) : -2147483648 ≤ a.tdiv b ∧ a.tdiv b ≤ 2147483648 := by
  have h := Int.natAbs_tdiv_le_natAbs a b
  omega
theorem exactV_1 (a b : Int) : exactV 1 a b = a + b := by simp [exactV]
theorem exactV_2 (a b : Int) : exactV 2 a b = a - b := by simp [exactV]
theorem exactV_3 (a b : Int) : exactV 3 a b = a * b := by simp [exactV]
theorem exactV_4 (a b : Int) : exactV 4 a b = a.tdiv b := by simp [exactV]
theorem exactV_5 (a b : Int) : exactV 5 a b = a.tmod b := by simp [exactV]
theorem exactV_6 (a b : Int) : exactV 6 a b = wrap32 (bitsN 6 (low a) (low b) : Nat) := by simp [exactV]
theorem exactV_7 (a b : Int) : exactV 7 a b = wrap32 (bitsN 7 (low a) (low b) : Nat) := by simp [exactV]
theorem exactV_8 (a b : Int) : exactV 8 a b = wrap32 (bitsN 8 (low a) (low b) : Nat) := by simp [exactV]
theorem exactV_9 (a b : Int) : exactV 9 a b = a * 2 ^ b.toNat := by simp [exactV]
theorem exactV_10 (a b : Int) : exactV 10 a b = a / 2 ^ b.toNat := by simp [exactV]
theorem exactV_11 (a b : Int) : exactV 11 a b = a + b := by simp [exactV]
theorem exactV_12 (a b : Int) : exactV 12 a b = a - b := by simp [exactV]
theorem exactV_13 (a b : Int) : exactV 13 a b = a * b := by simp [exactV]
/-- What the model's NumDo tells: the number and the fault. -/
def numDo (op a b : Int) : Int × Int :=
  if inB op 1 13 = false ∨ okB a = false ∨ okB b = false then (0, 0)
  else if (op = 4 ∨ op = 5) ∧ b = 0 then (0, 2)
  else if (op = 9 ∨ op = 10) ∧ inB b 0 31 = false then (0, 3)
  else if 11 ≤ op then (wrap32 (exactV op a b), 0)
  else if okB (exactV op a b) = false then (0, 1) else (exactV op a b, 0)
end Go.Proofs.YthbbgkpkijlclaaDoor.num
