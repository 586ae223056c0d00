/-
  Plain facts on numbers of 32 bits, and contracts of the small functions of numbers: each computes and leaves the world as it was.
-/
import Derived.Test.YtfkmnbldadpaaaaRows
import Derived.WalkKit
import Derived.WalkLawsBesides
import Derived.ProofKit
import Derived.OpenShut
namespace Go.Proofs.Ytfkmnbldadpaaaa.num
open Go.ChangeShapes Go.WideShapes Go.ChangeAt Go.RowKit

theorem ret_int {k : IntKind} {a b : Int} (h : a = b) : Ending.returned (.int k a) = .returned (.int k b) := by rw [h]
theorem ret_bool {a b : Bool} (h : a = b) : Ending.returned (.bool a) = .returned (.bool b) := by rw [h]

/-- A number is ok. -/
def okB (v : Int) : Bool := decide (-2147483648 ≤ v ∧ v ≤ 2147483647)
theorem okB_iff (v : Int) : okB v = true ↔ (-2147483648 ≤ v ∧ v ≤ 2147483647) := by simp [okB]
theorem okB_not (v : Int) : okB v = false ↔ ¬ (-2147483648 ≤ v ∧ v ≤ 2147483647) := by simp [okB]

theorem w64_w32 (v : Int) : wrap64 (wrap32 v) = wrap32 v := by unfold wrap64 wrap32; omega
theorem w32_eq_iff (v : Int) : (wrap32 v == v) = okB v := by
  unfold okB wrap32
  rw [Bool.eq_iff_iff]
  simp
  omega
theorem i64_bd {v : Int} (h : (Lit.int .i64 v).wf = true) : -9223372036854775808 ≤ v ∧ v ≤ 9223372036854775807 := by
  have := bounds_i64 h
  omega

theorem wrapWidth_any (v : Int) (w : World) :
    Calls Try.prog 30 #[.int .i64 v] w fun e w' => e = .returned (.int .i64 (wrap32 v)) ∧ w' = w := by
  go_enter Try.func30, Try.ntmps30
  go_wp2
  go_ret
  exact ⟨ret_int (w64_w32 v), rfl⟩
theorem fits_any (v : Int) (w : World) :
    Calls Try.prog 28 #[.int .i64 v] w fun e w' => e = .returned (.bool (okB v)) ∧ w' = w := by
  go_enter Try.func28, Try.ntmps28
  go_wp2_with (go_at_call 30; refine (wrapWidth_any _ _).mono ?_; rintro e w' ⟨rfl, rfl⟩)
  go_ret
  exact ⟨ret_bool (w32_eq_iff v), rfl⟩
theorem implOk_any (v : Int) (w : World) :
    Calls Try.prog 13 #[.int .i64 v] w fun e w' => e = .returned (.bool (okB v)) ∧ w' = w := by
  go_enter Try.func13, Try.ntmps13
  go_wp2_with (go_at_call 28; refine (fits_any _ _).mono ?_; rintro e w' ⟨rfl, rfl⟩)
  go_ret
  exact ⟨rfl, rfl⟩
theorem implWrap_any (v : Int) (w : World) :
    Calls Try.prog 17 #[.int .i64 v] w fun e w' => e = .returned (.int .i64 (wrap32 v)) ∧ w' = w := by
  go_enter Try.func17, Try.ntmps17
  go_wp2_with (go_at_call 30; refine (wrapWidth_any _ _).mono ?_; rintro e w' ⟨rfl, rfl⟩)
  go_ret
  exact ⟨rfl, rfl⟩

/-- A number is within two others. -/
def inB (n lo hi : Int) : Bool := decide (lo ≤ n ∧ n ≤ hi)
theorem inB_iff (n lo hi : Int) : inB n lo hi = true ↔ (lo ≤ n ∧ n ≤ hi) := by simp [inB]
theorem inB_not (n lo hi : Int) : inB n lo hi = false ↔ ¬ (lo ≤ n ∧ n ≤ hi) := by simp [inB]
theorem inB_le {n lo hi : Int} (h : lo ≤ n) : decide (n ≤ hi) = inB n lo hi := by simp [inB, h]
theorem inB_lt {n lo hi : Int} (h : n < lo) : false = inB n lo hi := by
  unfold inB; rw [eq_comm, decide_eq_false_iff_not]; omega
theorem l1In_any (n lo hi : Int) (w : World) :
    Calls Try.prog 26 #[.int .i64 n, .int .i64 lo, .int .i64 hi] w fun e w' => e = .returned (.bool (inB n lo hi)) ∧ w' = w := by
  go_enter Try.func26, Try.ntmps26
  go_wp2
  all_goals go_ret
  · exact ⟨ret_bool (inB_le ‹_›), rfl⟩
  · exact ⟨ret_bool (inB_lt ‹_›), rfl⟩
theorem specOk_any (v : Int) (w : World) :
    Calls Try.prog 14 #[.int .i64 v] w fun e w' => e = .returned (.bool (okB v)) ∧ w' = w := by
  go_enter Try.func14, Try.ntmps14
  go_wp2_with (go_at_call 26; refine (l1In_any _ _ _ _).mono ?_; rintro e w' ⟨rfl, rfl⟩)
  go_ret
  exact ⟨rfl, rfl⟩

theorem tmod_neg {a m : Int} (hm : 0 < m) (h : a.tmod m < 0) : a.tmod m + m = a % m := by
  have h1 : a.tmod m = a % m - ((if 0 ≤ a ∨ m ∣ a then 0 else m.natAbs : Nat) : Int) := Int.tmod_eq_emod
  have h2 := Int.emod_nonneg a (show m ≠ 0 by omega)
  split at h1 <;> omega
theorem tmod_pos {a m : Int} (hm : 0 < m) (h : 0 ≤ a.tmod m) : a.tmod m = a % m := by
  have h1 : a.tmod m = a % m - ((if 0 ≤ a ∨ m ∣ a then 0 else m.natAbs : Nat) : Int) := Int.tmod_eq_emod
  have h2 := Int.emod_lt_of_pos a hm
  split at h1 <;> omega
theorem w64_id {v : Int} (h1 : -9223372036854775808 ≤ v) (h2 : v ≤ 9223372036854775807) : wrap64 v = v := by unfold wrap64; omega
theorem l1Mod_any (a m : Int) (hm : 0 < m) (hm2 : m ≤ 9223372036854775807) (w : World) :
    Calls Try.prog 29 #[.int .i64 a, .int .i64 m] w fun e w' => e = .returned (.int .i64 (a % m)) ∧ w' = w := by
  have hm3 : ¬ m = 0 := by omega
  go_enter Try.func29, Try.ntmps29
  go_wp2
  all_goals go_ret
  · refine ⟨ret_int ?_, rfl⟩
    have h1 : a.tmod m < 0 := by assumption
    have h2 := Int.emod_nonneg a (show m ≠ 0 by omega)
    have h3 := Int.emod_lt_of_pos a hm
    rw [tmod_neg hm h1]
    exact w64_id (by omega) (by omega)
  · exact ⟨ret_int (tmod_pos hm ‹_›), rfl⟩
theorem w32_gt {v : Int} (h : 2147483647 < v % 4294967296) : v % 4294967296 - 4294967296 = wrap32 v := by unfold wrap32; omega
theorem w32_le {v : Int} (h : v % 4294967296 ≤ 2147483647) : v % 4294967296 = wrap32 v := by unfold wrap32; omega
theorem specWrap_any (v : Int) (w : World) :
    Calls Try.prog 16 #[.int .i64 v] w fun e w' => e = .returned (.int .i64 (wrap32 v)) ∧ w' = w := by
  have h2 := Int.emod_nonneg v (show (4294967296 : Int) ≠ 0 by omega)
  have h3 := Int.emod_lt_of_pos v (show (0 : Int) < 4294967296 by omega)
  go_enter Try.func16, Try.ntmps16
  go_wp2_with (go_at_call 29; refine (l1Mod_any _ _ (by omega) (by omega) _).mono ?_; rintro e w' ⟨rfl, rfl⟩)
  all_goals go_ret
  · exact ⟨ret_int (w32_gt (by omega)), rfl⟩
  · exact ⟨ret_int (w32_le (by omega)), rfl⟩
end Go.Proofs.Ytfkmnbldadpaaaa.num
