/-
  Plain facts on bits of numbers of 32 bits: what the machine's and, or and xor of 64 bits make of two of them is the number whose 32 bits are made bit by bit. No Go text in sight.
-/
import Derived.Test.YthbbgkpkijlclaaDoorP0
namespace Go.Proofs.YthbbgkpkijlclaaDoor.num
open Go.RowKit

/-- The 32 bits of a number. -/
def low (a : Int) : Nat := (a % 4294967296).toNat
theorem low_lt (a : Int) : low a < 2 ^ 32 := by unfold low; omega
theorem low_cast (a : Int) : ((low a : Nat) : Int) = a % 4294967296 := by unfold low; omega
theorem w32_low (a : Int) (h1 : -2147483648 ≤ a) (h2 : a ≤ 2147483647) : wrap32 (low a) = a := by
  rw [low_cast]; unfold wrap32; omega

theorem wrap_i64_bv (v : BitVec 64) : IntKind.i64.wrap (v.toNat : Int) = v.toInt := by
  have h := v.isLt
  rw [IntKind.wrap_i64, BitVec.toInt_eq_toNat_cond]
  split <;> omega
theorem w32_bv (v : BitVec 32) : wrap32 (v.toNat : Int) = v.toInt := by
  have h := v.isLt
  unfold wrap32
  rw [BitVec.toInt_eq_toNat_cond]
  split <;> omega
theorem ofInt_ext (a : Int) (h1 : -2147483648 ≤ a) (h2 : a ≤ 2147483647) : BitVec.ofInt 64 a = (BitVec.ofInt 32 a).signExtend 64 := by
  apply BitVec.eq_of_toInt_eq
  rw [BitVec.toInt_signExtend_of_le (by omega), BitVec.toInt_ofInt, BitVec.toInt_ofInt]
  have e1 : a.bmod (2 ^ 64) = a := Int.bmod_eq_of_le (by omega) (by omega)
  have e2 : a.bmod (2 ^ 32) = a := Int.bmod_eq_of_le (by omega) (by omega)
  rw [e1, e2]
theorem low_bv (a : Int) : (BitVec.ofInt 32 a).toNat = low a := by
  rw [BitVec.toNat_ofInt]; rfl

theorem and_low (a b : Int) (ha : -2147483648 ≤ a ∧ a ≤ 2147483647) (hb : -2147483648 ≤ b ∧ b ≤ 2147483647) :
    bits .and .i64 a b = wrap32 ((low a &&& low b : Nat) : Int) := by
  have e : bits .and .i64 a b = IntKind.i64.wrap (((BitVec.ofInt 64 a) &&& (BitVec.ofInt 64 b)).toNat : Int) := rfl
  rw [e, wrap_i64_bv, ofInt_ext a ha.1 ha.2, ofInt_ext b hb.1 hb.2, ← BitVec.signExtend_and, BitVec.toInt_signExtend_of_le (by omega), ← w32_bv, BitVec.toNat_and, low_bv, low_bv]
theorem or_low (a b : Int) (ha : -2147483648 ≤ a ∧ a ≤ 2147483647) (hb : -2147483648 ≤ b ∧ b ≤ 2147483647) :
    bits .or .i64 a b = wrap32 ((low a ||| low b : Nat) : Int) := by
  have e : bits .or .i64 a b = IntKind.i64.wrap (((BitVec.ofInt 64 a) ||| (BitVec.ofInt 64 b)).toNat : Int) := rfl
  rw [e, wrap_i64_bv, ofInt_ext a ha.1 ha.2, ofInt_ext b hb.1 hb.2, ← BitVec.signExtend_or, BitVec.toInt_signExtend_of_le (by omega), ← w32_bv, BitVec.toNat_or, low_bv, low_bv]
theorem xor_low (a b : Int) (ha : -2147483648 ≤ a ∧ a ≤ 2147483647) (hb : -2147483648 ≤ b ∧ b ≤ 2147483647) :
    bits .xor .i64 a b = wrap32 ((low a ^^^ low b : Nat) : Int) := by
  have e : bits .xor .i64 a b = IntKind.i64.wrap (((BitVec.ofInt 64 a) ^^^ (BitVec.ofInt 64 b)).toNat : Int) := rfl
  rw [e, wrap_i64_bv, ofInt_ext a ha.1 ha.2, ofInt_ext b hb.1 hb.2, ← BitVec.signExtend_xor, BitVec.toInt_signExtend_of_le (by omega), ← w32_bv, BitVec.toNat_xor, low_bv, low_bv]

/-- What a bit operator makes of the bits of two numbers. -/
def bitsN (op : Int) (A B : Nat) : Nat := if op = 7 then A ||| B else if op = 8 then A ^^^ B else A &&& B
theorem bitsN_lt (op : Int) (A B : Nat) (hA : A < 2 ^ 32) (hB : B < 2 ^ 32) : bitsN op A B < 2 ^ 32 := by
  unfold bitsN
  split
  · exact Nat.or_lt_two_pow hA hB
  · split
    · exact Nat.xor_lt_two_pow hA hB
    · exact Nat.and_lt_two_pow _ hB

/-- One bit of a number. -/
def bit (A i : Nat) : Nat := A / 2 ^ i % 2
theorem bit_tb (A i : Nat) : bit A i = (A.testBit i).toNat := by unfold bit; rw [Nat.toNat_testBit]
theorem bit_le (A i : Nat) : bit A i ≤ 1 := by unfold bit; omega
theorem bit_and (A B i : Nat) : bit (A &&& B) i = bit A i * bit B i := by
  simp only [bit_tb, Nat.testBit_and]; cases A.testBit i <;> cases B.testBit i <;> rfl
theorem bit_or (A B i : Nat) : (bit (A ||| B) i : Int) = bit A i + bit B i - bit A i * bit B i := by
  simp only [bit_tb, Nat.testBit_or]; cases A.testBit i <;> cases B.testBit i <;> rfl
theorem bit_xor (A B i : Nat) : bit (A ^^^ B) i = (bit A i + bit B i) % 2 := by
  simp only [bit_tb, Nat.testBit_xor]; cases A.testBit i <;> cases B.testBit i <;> rfl
theorem mod_step (N i : Nat) : N % 2 ^ (i + 1) = N % 2 ^ i + bit N i * 2 ^ i := by
  unfold bit; rw [Nat.pow_succ, Nat.mod_mul]; rw [Nat.mul_comm]
end Go.Proofs.YthbbgkpkijlclaaDoor.num
