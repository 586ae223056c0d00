/-
  Plain facts on numbers of 32 and 64 bits, of any program.
-/
import Derived.Test.YthbbgkpkijlclaaDoorRows
import Derived.WalkKit
import Derived.WalkLawsBesides
import Derived.ProofKit
import Derived.OpenShut
namespace Go.Proofs.YthbbgkpkijlclaaDoor.num
open Go.ChangeShapes Go.WideShapes Go.ChangeAt Go.RowKit
set_option linter.unusedVariables false
theorem ret_int {k : IntKind} {a b : Int} (h : a = b) : Ending.returned (.int k a) = .returned (.int k b) := by rw [h]
theorem ret_bool {a b : Bool} (h : a = b) : Ending.returned (.bool a) = .returned (.bool b) := by rw [h]
/-- A number is ok. -/
def okB (v : Int) : Bool := decide (-2147483648 ≤ v ∧ v ≤ 2147483647)
theorem okB_iff (v : Int) : okB v = true ↔ (-2147483648 ≤ v ∧ v ≤ 2147483647) := by simp [okB]
theorem okB_not (v : Int) : okB v = false ↔ ¬ (-2147483648 ≤ v ∧ v ≤ 2147483647) := by simp [okB]
theorem w64_w32 (v : Int) : wrap64 (wrap32 v) = wrap32 v := by unfold wrap64 wrap32; omega
theorem w32_eq_iff (v : Int) : (wrap32 v == v) = okB v := by
  unfold okB wrap32
  rw [Bool.eq_iff_iff]
  simp
  omega
theorem i64_bd {v : Int} (h : (Lit.int .i64 v).wf = true) : -9223372036854775808 ≤ v ∧ v ≤ 9223372036854775807 := by
  have := bounds_i64 h
  omega
/-- A number is within two others. -/
def inB (n lo hi : Int) : Bool := decide (lo ≤ n ∧ n ≤ hi)
theorem inB_iff (n lo hi : Int) : inB n lo hi = true ↔ (lo ≤ n ∧ n ≤ hi) := by simp [inB]
theorem inB_not (n lo hi : Int) : inB n lo hi = false ↔ ¬ (lo ≤ n ∧ n ≤ hi) := by simp [inB]
theorem inB_le {n lo hi : Int} (h : lo ≤ n) : decide (n ≤ hi) = inB n lo hi := by simp [inB, h]
theorem inB_lt {n lo hi : Int} (h : n < lo) : false = inB n lo hi := by
  unfold inB; rw [eq_comm, decide_eq_false_iff_not]; omega
theorem tmod_neg {a m : Int} (hm : 0 < m) (h : a.tmod m < 0) : a.tmod m + m = a % m := by
  have h1 : a.tmod m = a % m - ((if 0 ≤ a ∨ m ∣ a then 0 else m.natAbs : Nat) : Int) := Int.tmod_eq_emod
  have h2 := Int.emod_nonneg a (show m ≠ 0 by omega)
  split at h1 <;> omega
theorem tmod_pos {a m : Int} (hm : 0 < m) (h : 0 ≤ a.tmod m) : a.tmod m = a % m := by
  have h1 : a.tmod m = a % m - ((if 0 ≤ a ∨ m ∣ a then 0 else m.natAbs : Nat) : Int) := Int.tmod_eq_emod
  have h2 := Int.emod_lt_of_pos a hm
  split at h1 <;> omega
theorem w64_id {v : Int} (h1 : -9223372036854775808 ≤ v) (h2 : v ≤ 9223372036854775807) : wrap64 v = v := by unfold wrap64; omega
theorem w32_gt {v : Int} (h : 2147483647 < v % 4294967296) : v % 4294967296 - 4294967296 = wrap32 v := by unfold wrap32; omega
theorem w32_le {v : Int} (h : v % 4294967296 ≤ 2147483647) : v % 4294967296 = wrap32 v := by unfold wrap32; omega
theorem two_pow_le (n m : Nat) (h : n ≤ m) : (2 : Int) ^ n ≤ 2 ^ m := by
  have := Nat.pow_le_pow_right (show 0 < 2 by omega) h
  exact_mod_cast this
theorem two_pow_pos (n : Nat) : (0 : Int) < 2 ^ n := Int.pow_pos (by omega)
theorem ret_two {a b c d : Int} (h : (a, b) = (c, d)) : Ending.returned (.tuple #[.int .i64 a, .int .i64 b]) = .returned (.tuple #[.int .i64 c, .int .i64 d]) := by
  injection h with h1 h2; rw [h1, h2]
theorem hide {p : Prop} (h : p) : Hid p := h
theorem unhide {p : Prop} (h : Hid p) : p := h
theorem w32_ok (v : Int) : okB (wrap32 v) = true := by rw [okB_iff]; unfold wrap32; omega
theorem w32_lo (v : Int) : -2147483648 ≤ wrap32 v := by unfold wrap32; omega
theorem w32_hi (v : Int) : wrap32 v ≤ 2147483647 := by unfold wrap32; omega
theorem bt {w a b : World} (h : Hid (Below w.heap.size w a)) (k : Below a.heap.size a b) : Hid (Below w.heap.size w b) :=
  h.out.trans (k.mono h.out.size)
end Go.Proofs.YthbbgkpkijlclaaDoor.num
