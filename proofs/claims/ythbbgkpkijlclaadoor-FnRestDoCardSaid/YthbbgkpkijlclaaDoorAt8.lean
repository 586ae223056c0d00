/-
  A byte of a code, or a mixture of its bytes past its end (the laws' at): it returns a byte and turns nothing.
-/
import Derived.Test.YthbbgkpkijlclaaDoorOp
namespace Go.Proofs.YthbbgkpkijlclaaDoor.num
open Go.ChangeShapes Go.WideShapes Go.ChangeAt Go.RowKit
set_option linter.unusedVariables false
theorem at_none (w : World) (a : Option Addr) (cap : Nat) (i : Int) (hi : 0 ≤ i) (hi2 : i ≤ 1000000) :
    Calls Tryd.prog 94 #[.slice a 0 cap, .int .i64 i] w fun e w' => ∃ v : Int, e = .returned (.int .u8 v) ∧ 0 ≤ v ∧ v ≤ 255 ∧ Below w.heap.size w w' := by
  go_enter Tryd.func94, Tryd.ntmps94
  go_wp2
  go_ret
  exact ⟨_, rfl, by omega, by omega, Below.refl _ _⟩
theorem at_in (w : World) (b off len cap i : Nat) (z : Int) (hil : i < len) (hl : len ≤ 9223372036854775807)
   (hz : w.cell? ⟨b, off + i, none⟩ = some (.int .u8 z)) (hz0 : 0 ≤ z) (hz1 : z ≤ 255) :
    Calls Tryd.prog 94 #[.slice (some ⟨b, off, none⟩) len cap, .int .i64 i] w fun e w' => ∃ v : Int, e = .returned (.int .u8 v) ∧ 0 ≤ v ∧ v ≤ 255 ∧ Below w.heap.size w w' := by
  have hl0 : ((len : Int) == 0) = false := by simp; omega
  go_enter Tryd.func94, Tryd.ntmps94
  go_wp2
  go_ret
  exact ⟨_, rfl, by omega, by omega, Below.refl _ _⟩
theorem at_mix (w : World) (b off len cap k i j : Nat) (z y : Int) (hk : k ≤ 1000000) (hlen : len ≤ 1048576) (hkl : len ≤ k) (h1 : 0 < len)
   (hi : i = k % len) (hj : j = (k * 5 + 1) % len) (hz : w.cell? ⟨b, off + i, none⟩ = some (.int .u8 z)) (hz0 : 0 ≤ z) (hz1 : z ≤ 255)
   (hy : w.cell? ⟨b, off + j, none⟩ = some (.int .u8 y)) (hy0 : 0 ≤ y) (hy1 : y ≤ 255) :
    Calls Tryd.prog 94 #[.slice (some ⟨b, off, none⟩) len cap, .int .i64 k] w fun e w' => ∃ v : Int, e = .returned (.int .u8 v) ∧ 0 ≤ v ∧ v ≤ 255 ∧ Below w.heap.size w w' := by
  have hl0 : ((len : Int) == 0) = false := by simp; omega
  have hil : i < len := by rw [hi]; exact Nat.mod_lt _ h1
  have hjl : j < len := by rw [hj]; exact Nat.mod_lt _ h1
  have ei : (k : Int) % (len : Int) = (i : Int) := by rw [hi]; simp
  have ej : ((k : Int) * 5 + 1) % (len : Int) = (j : Int) := by rw [hj]; simp
  clear hi hj
  go_enter Tryd.func94, Tryd.ntmps94
  go_wp2
  go_quiet (fail)
  go_wp2
  go_ret
  exact ⟨_, rfl, by omega, by omega, rfl, rfl, rfl, Nat.le_refl _, fun _ _ => rfl⟩
theorem at_any (w : World) (a : Option Addr) (len cap : Nat) (i : Int) (h : Code8 w a len) (hl : len ≤ 1048576) (hi : 0 ≤ i) (hi2 : i ≤ 1000000) :
    Calls Tryd.prog 94 #[.slice a len cap, .int .i64 i] w fun e w' => ∃ v : Int, e = .returned (.int .u8 v) ∧ 0 ≤ v ∧ v ≤ 255 ∧ Below w.heap.size w w' := by
  obtain ⟨k, rfl⟩ := Int.eq_ofNat_of_zero_le hi
  by_cases h0 : len = 0
  · subst h0
    exact at_none w a cap k hi hi2
  rcases h with rfl | ⟨b, off, rfl, hbs, hz⟩
  · exact absurd rfl h0
  by_cases hkl : k < len
  · obtain ⟨z, z0, z1, zc⟩ := hz k hkl
    exact at_in w b off len cap k z hkl (by omega) zc z0 z1
  · obtain ⟨z, z0, z1, zc⟩ := hz (k % len) (Nat.mod_lt _ (by omega))
    obtain ⟨y, y0, y1, yc⟩ := hz ((k * 5 + 1) % len) (Nat.mod_lt _ (by omega))
    exact at_mix w b off len cap k _ _ z y (by omega) hl (by omega) (by omega) rfl rfl zc z0 z1 yc y0 y1
end Go.Proofs.YthbbgkpkijlclaaDoor.num
