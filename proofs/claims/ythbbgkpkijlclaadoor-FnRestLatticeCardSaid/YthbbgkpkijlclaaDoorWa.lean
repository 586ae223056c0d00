/-
  The laws' wide.
-/
import Derived.Test.YthbbgkpkijlclaaDoorAt8
import Derived.Test.YthbbgkpkijlclaaDoorSa
import Derived.Test.YthbbgkpkijlclaaDoorBits
namespace Go.Proofs.YthbbgkpkijlclaaDoor.num
open Go.ChangeShapes Go.WideShapes Go.ChangeAt Go.RowKit
set_option linter.unusedVariables false

theorem or_bound {a b : Int} (h0 : 0 ≤ a) (h1 : a ≤ 4294967295) (k0 : 0 ≤ b) (k1 : b ≤ 4294967295) : 0 ≤ bits .or .i64 a b ∧ bits .or .i64 a b ≤ 4294967295 := by
  have e : bits .or .i64 a b = IntKind.i64.wrap (((BitVec.ofInt 64 a) ||| (BitVec.ofInt 64 b)).toNat : Int) := rfl
  obtain ⟨x, rfl⟩ := Int.eq_ofNat_of_zero_le h0
  obtain ⟨y, rfl⟩ := Int.eq_ofNat_of_zero_le k0
  have ex : (BitVec.ofInt 64 (x : Int)).toNat = x := by
    rw [BitVec.toNat_ofInt]; omega
  have ey : (BitVec.ofInt 64 (y : Int)).toNat = y := by
    rw [BitVec.toNat_ofInt]; omega
  rw [BitVec.toNat_or, ex, ey] at e
  have hb : x ||| y < 2 ^ 32 := Nat.or_lt_two_pow (by omega) (by omega)
  rw [e, IntWalk.i64_in _ ⟨by omega, by omega⟩]
  omega
theorem wide_bound {p q r s : Int} (p0 : 0 ≤ p) (p1 : p ≤ 255) (q0 : 0 ≤ q) (q1 : q ≤ 255) (r0 : 0 ≤ r) (r1 : r ≤ 255) (s0 : 0 ≤ s) (s1 : s ≤ 255) :
    0 ≤ bits .or .i64 (bits .or .i64 (bits .or .i64 (p * 16777216) (q * 65536)) (r * 256)) s ∧ bits .or .i64 (bits .or .i64 (bits .or .i64 (p * 16777216) (q * 65536)) (r * 256)) s ≤ 4294967295 := by
  have h1 := or_bound (a := p * 16777216) (b := q * 65536) (by omega) (by omega) (by omega) (by omega)
  have h2 := or_bound (b := r * 256) h1.1 h1.2 (by omega) (by omega)
  exact or_bound h2.1 h2.2 s0 (by omega)
set_option maxRecDepth 100000 in
set_option maxHeartbeats 4000000 in
theorem wide_any (w : World) (a : Option Addr) (len cap : Nat) (i : Int) (h : Code8 w a len) (hl : len ≤ 1048576) (hi : 0 ≤ i) (hi2 : i ≤ 900000) :
    Calls Tryd.prog 95 #[.slice a len cap, .int .i64 i] w fun e w' => ∃ v : Int, e = .returned (.int .i64 v) ∧ 0 ≤ v ∧ v ≤ 4294967295 ∧ Below w.heap.size w w' := by
  have H := hide h
  clear h
  go_enter Tryd.func95, Tryd.ntmps95
  have BB := Below.refl w.heap.size w
  have e1 : IntKind.i64.wrap (i + 1) = i + 1 := IntWalk.i64_in _ ⟨by omega, by omega⟩
  have e2 : IntKind.i64.wrap (i + 2) = i + 2 := IntWalk.i64_in _ ⟨by omega, by omega⟩
  have e3 : IntKind.i64.wrap (i + 3) = i + 3 := IntWalk.i64_in _ ⟨by omega, by omega⟩
  go_wp2_with (go_at_call 94; refine (at_any _ _ _ _ _ ((unhide H).below BB) hl (by omega) (by omega)).mono ?_; rintro e w1 ⟨v, rfl, v0, v1, hb⟩; replace BB := below_up BB BB.size hb)
  go_ret
  exact ⟨_, rfl, (wide_bound (by assumption) (by assumption) (by assumption) (by assumption) (by assumption) (by assumption) (by assumption) (by assumption)).1, (wide_bound (by assumption) (by assumption) (by assumption) (by assumption) (by assumption) (by assumption) (by assumption) (by assumption)).2, BB⟩
end Go.Proofs.YthbbgkpkijlclaaDoor.num
