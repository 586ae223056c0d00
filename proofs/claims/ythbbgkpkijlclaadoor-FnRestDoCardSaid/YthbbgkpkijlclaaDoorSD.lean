/-
  The model's NumDo: a plain function of three numbers, and the contract of the Go text: it computes that function and leaves the world as it was.
-/
import Derived.Test.YthbbgkpkijlclaaDoorBs
import Derived.Test.YthbbgkpkijlclaaDoorN8
namespace Go.Proofs.YthbbgkpkijlclaaDoor.num
open Go.ChangeShapes Go.WideShapes Go.ChangeAt Go.RowKit
set_option linter.unusedVariables false

theorem l1Floor_any (a m : Int) (hm : 0 < m) (hm2 : m ≤ 2147483648) (h1 : -2147483648 ≤ a) (h2 : a ≤ 2147483647) (w : World) :
    Calls Tryd.prog 203 #[.int .i64 a, .int .i64 m] w fun e w' => e = .returned (.int .i64 (a / m)) ∧ w' = w := by
  have hm3 : ¬ m = 0 := by omega
  have b1 := Int.emod_nonneg a hm3
  have b2 := Int.emod_lt_of_pos a hm
  go_enter Tryd.func203, Tryd.ntmps203
  go_wp2_with (go_at_call 92; refine (l1Mod_any _ _ (by omega) (by omega) _).mono ?_; rintro e w' ⟨rfl, rfl⟩)
  go_ret
  refine ⟨ret_int ?_, rfl⟩
  exact floor_eq a m hm

theorem xbit (a : Int) (k : Nat) : (a % 4294967296 / 2 ^ k).tmod 2 = ((bit (low a) k : Nat) : Int) := by
  have h0 : 0 ≤ a % 4294967296 / 2 ^ k := Int.ediv_nonneg (Int.emod_nonneg a (by omega)) (by have := two_pow_pos k; omega)
  rw [Int.tmod_eq_emod_of_nonneg h0, ← low_cast]
  unfold bit
  simp
theorem bstep (N k : Nat) (hk : k < 32) (z : Int) (hz : z = ((bit N k : Nat) : Int)) :
    wrap64 ((N : Int) % 2 ^ k + wrap64 (z * 2 ^ k)) = ((N % 2 ^ (k + 1) : Nat) : Int) := by
  have h1 := two_pow_le k 31 (by omega)
  have h0 := two_pow_pos k
  have e31 : (2 : Int) ^ 31 = 2147483648 := by decide
  have hb := bit_le N k
  have hm0 := Int.emod_nonneg (N : Int) (show (2 : Int) ^ k ≠ 0 by omega)
  have hm1 := Int.emod_lt_of_pos (N : Int) h0
  have e : ((N % 2 ^ (k + 1) : Nat) : Int) = (N : Int) % 2 ^ k + ((bit N k : Nat) : Int) * 2 ^ k := by
    rw [mod_step]; push_cast; rfl
  rw [e, ← hz]
  have hz01 : z = 0 ∨ z = 1 := by omega
  rcases hz01 with h | h <;> rw [h]
  · rw [Int.zero_mul, w64_id (v := 0) (by omega) (by omega), w64_id (by omega) (by omega)]
  · rw [Int.one_mul, w64_id (v := (2 : Int) ^ k) (by omega) (by omega), w64_id (by omega) (by omega)]
theorem z_or (A B k : Nat) : wrap64 (wrap64 (((bit A k : Nat) : Int) + ((bit B k : Nat) : Int)) - wrap64 (((bit A k : Nat) : Int) * ((bit B k : Nat) : Int))) = ((bit (A ||| B) k : Nat) : Int) := by
  rw [bit_or]
  have h1 := bit_le A k
  have h2 := bit_le B k
  generalize bit A k = x at *
  generalize bit B k = y at *
  have hx : x = 0 ∨ x = 1 := by omega
  have hy : y = 0 ∨ y = 1 := by omega
  rcases hx with rfl | rfl <;> rcases hy with rfl | rfl <;> decide +kernel
theorem z_xor (A B k : Nat) : (wrap64 (((bit A k : Nat) : Int) + ((bit B k : Nat) : Int))).tmod 2 = ((bit (A ^^^ B) k : Nat) : Int) := by
  rw [bit_xor]
  have h1 := bit_le A k
  have h2 := bit_le B k
  generalize bit A k = x at *
  generalize bit B k = y at *
  have hx : x = 0 ∨ x = 1 := by omega
  have hy : y = 0 ∨ y = 1 := by omega
  rcases hx with rfl | rfl <;> rcases hy with rfl | rfl <;> decide +kernel
theorem z_and (A B k : Nat) : wrap64 (((bit A k : Nat) : Int) * ((bit B k : Nat) : Int)) = ((bit (A &&& B) k : Nat) : Int) := by
  rw [bit_and]
  have h1 := bit_le A k
  have h2 := bit_le B k
  generalize bit A k = x at *
  generalize bit B k = y at *
  have hx : x = 0 ∨ x = 1 := by omega
  have hy : y = 0 ∨ y = 1 := by omega
  rcases hx with rfl | rfl <;> rcases hy with rfl | rfl <;> decide +kernel
theorem l1Bits_any (op a b : Int) (w : World) :
    Calls Tryd.prog 174 #[.int .i64 op, .int .i64 a, .int .i64 b] w fun e w' => e = .returned (.int .i64 (wrap32 (bitsN op (low a) (low b) : Nat))) ∧ w' = w := by
  have a1 := Int.emod_nonneg a (show (4294967296 : Int) ≠ 0 by omega)
  have a2 := Int.emod_lt_of_pos a (show (0 : Int) < 4294967296 by omega)
  have b1 := Int.emod_nonneg b (show (4294967296 : Int) ≠ 0 by omega)
  have b2 := Int.emod_lt_of_pos b (show (0 : Int) < 4294967296 by omega)
  go_enter Tryd.func174, Tryd.ntmps174
  go_wp2
  go_loop [7, 8] (fun p i => ∃ k : Nat, k ≤ 32 ∧ i = .int .i64 k ∧ p = .int .i64 ((bitsN op (low a) (low b) % 2 ^ k : Nat) : Int)) (fun _ i => 32 - (intOf i).toNat)
  case atStart => exact ⟨0, Nat.zero_le _, rfl, congrArg (Value.int IntKind.i64) (by simp [Nat.mod_one])⟩
  case round =>
    obtain ⟨k, hk, rfl, rfl⟩ := hrel
    by_cases hlt : k < 32
    · go_wp2_with (go_at_call 92; refine (l1Mod_any _ _ (by omega) (by omega) _).mono ?_; rintro e w' ⟨rfl, rfl⟩)
      · have h7 : (op == 7) = true := by assumption
        simp at h7
        subst h7
        refine ⟨⟨k + 1, by omega, by go_num, congrArg (Value.int IntKind.i64) ?_⟩, by simp [intOf]; omega⟩
        rw [xbit, xbit, z_or, bitsN_or]
        exact bstep _ k hlt _ rfl
      · have h8 : (op == 8) = true := by assumption
        simp at h8
        subst h8
        refine ⟨⟨k + 1, by omega, by go_num, congrArg (Value.int IntKind.i64) ?_⟩, by simp [intOf]; omega⟩
        rw [xbit, xbit, z_xor, bitsN_xor]
        exact bstep _ k hlt _ rfl
      · have h7 : (op == 7) = false := by assumption
        have h8 : (op == 8) = false := by assumption
        refine ⟨⟨k + 1, by omega, by go_num, congrArg (Value.int IntKind.i64) ?_⟩, by simp [intOf]; omega⟩
        rw [xbit, xbit, z_and, bitsN_and h7 h8]
        exact bstep _ k hlt _ rfl
    · have hk32 : k = 32 := by omega
      subst hk32
      have e := Nat.mod_eq_of_lt (bitsN_lt op (low a) (low b) (low_lt a) (low_lt b))
      rw [e]
      go_wp2_with (go_at_call 96; refine (specWrap_any _ _).mono ?_; rintro e w' ⟨rfl, rfl⟩)
      go_ret
      exact ⟨rfl, rfl⟩

theorem l1Exact_1 (a b : Int) (ha1 : -2147483648 ≤ a) (ha2 : a ≤ 2147483647) (hb1 : -2147483648 ≤ b) (hb2 : b ≤ 2147483647) (w : World) :
    Calls Tryd.prog 142 #[.int .i64 1, .int .i64 a, .int .i64 b] w fun e w' => e = .returned (.int .i64 (exactV 1 a b)) ∧ w' = w := by
  rw [exactV_1]
  go_enter Tryd.func142, Tryd.ntmps142
  go_wp2
  go_ret
  exact ⟨rfl, rfl⟩
theorem l1Exact_2 (a b : Int) (ha1 : -2147483648 ≤ a) (ha2 : a ≤ 2147483647) (hb1 : -2147483648 ≤ b) (hb2 : b ≤ 2147483647) (w : World) :
    Calls Tryd.prog 142 #[.int .i64 2, .int .i64 a, .int .i64 b] w fun e w' => e = .returned (.int .i64 (exactV 2 a b)) ∧ w' = w := by
  rw [exactV_2]
  go_enter Tryd.func142, Tryd.ntmps142
  go_wp2
  go_ret
  exact ⟨rfl, rfl⟩
theorem l1Exact_3 (a b : Int) (ha1 : -2147483648 ≤ a) (ha2 : a ≤ 2147483647) (hb1 : -2147483648 ≤ b) (hb2 : b ≤ 2147483647) (w : World) :
    Calls Tryd.prog 142 #[.int .i64 3, .int .i64 a, .int .i64 b] w fun e w' => e = .returned (.int .i64 (exactV 3 a b)) ∧ w' = w := by
  rw [exactV_3]
  obtain ⟨m2, m3⟩ := mul_bd a b ⟨ha1, ha2⟩ ⟨hb1, by omega⟩
  go_enter Tryd.func142, Tryd.ntmps142
  go_wp2
  go_ret
  exact ⟨ret_int (by first | rfl | exact w64_id (by omega) (by omega)), rfl⟩
theorem l1Exact_4 (a b : Int) (ha1 : -2147483648 ≤ a) (ha2 : a ≤ 2147483647) (hb1 : -2147483648 ≤ b) (hb2 : b ≤ 2147483647) (hb0 : ¬ b = 0) (w : World) :
    Calls Tryd.prog 142 #[.int .i64 4, .int .i64 a, .int .i64 b] w fun e w' => e = .returned (.int .i64 (exactV 4 a b)) ∧ w' = w := by
  rw [exactV_4]
  obtain ⟨d1, d2⟩ := tdiv_bd a b ⟨ha1, ha2⟩
  go_enter Tryd.func142, Tryd.ntmps142
  go_wp2
  go_ret
  exact ⟨ret_int (by first | rfl | exact w64_id (by omega) (by omega)), rfl⟩
theorem l1Exact_5 (a b : Int) (ha1 : -2147483648 ≤ a) (ha2 : a ≤ 2147483647) (hb1 : -2147483648 ≤ b) (hb2 : b ≤ 2147483647) (hb0 : ¬ b = 0) (w : World) :
    Calls Tryd.prog 142 #[.int .i64 5, .int .i64 a, .int .i64 b] w fun e w' => e = .returned (.int .i64 (exactV 5 a b)) ∧ w' = w := by
  rw [exactV_5]
  go_enter Tryd.func142, Tryd.ntmps142
  go_wp2
  go_ret
  exact ⟨rfl, rfl⟩
theorem l1Exact_6 (a b : Int) (ha1 : -2147483648 ≤ a) (ha2 : a ≤ 2147483647) (hb1 : -2147483648 ≤ b) (hb2 : b ≤ 2147483647) (w : World) :
    Calls Tryd.prog 142 #[.int .i64 6, .int .i64 a, .int .i64 b] w fun e w' => e = .returned (.int .i64 (exactV 6 a b)) ∧ w' = w := by
  rw [exactV_6]
  go_enter Tryd.func142, Tryd.ntmps142
  go_wp2_with (go_at_call 174; refine (l1Bits_any _ _ _ _).mono ?_; rintro e w' ⟨rfl, rfl⟩)
  go_ret
  exact ⟨rfl, rfl⟩
theorem l1Exact_7 (a b : Int) (ha1 : -2147483648 ≤ a) (ha2 : a ≤ 2147483647) (hb1 : -2147483648 ≤ b) (hb2 : b ≤ 2147483647) (w : World) :
    Calls Tryd.prog 142 #[.int .i64 7, .int .i64 a, .int .i64 b] w fun e w' => e = .returned (.int .i64 (exactV 7 a b)) ∧ w' = w := by
  rw [exactV_7]
  go_enter Tryd.func142, Tryd.ntmps142
  go_wp2_with (go_at_call 174; refine (l1Bits_any _ _ _ _).mono ?_; rintro e w' ⟨rfl, rfl⟩)
  go_ret
  exact ⟨rfl, rfl⟩
theorem l1Exact_8 (a b : Int) (ha1 : -2147483648 ≤ a) (ha2 : a ≤ 2147483647) (hb1 : -2147483648 ≤ b) (hb2 : b ≤ 2147483647) (w : World) :
    Calls Tryd.prog 142 #[.int .i64 8, .int .i64 a, .int .i64 b] w fun e w' => e = .returned (.int .i64 (exactV 8 a b)) ∧ w' = w := by
  rw [exactV_8]
  go_enter Tryd.func142, Tryd.ntmps142
  go_wp2_with (go_at_call 174; refine (l1Bits_any _ _ _ _).mono ?_; rintro e w' ⟨rfl, rfl⟩)
  go_ret
  exact ⟨rfl, rfl⟩
theorem l1Exact_9 (a b : Int) (ha1 : -2147483648 ≤ a) (ha2 : a ≤ 2147483647) (hb1 : -2147483648 ≤ b) (hb2 : b ≤ 2147483647) (s1 : 0 ≤ b) (s2 : b ≤ 31) (w : World) :
    Calls Tryd.prog 142 #[.int .i64 9, .int .i64 a, .int .i64 b] w fun e w' => e = .returned (.int .i64 (exactV 9 a b)) ∧ w' = w := by
  rw [exactV_9]
  have p1 := two_pow_pos b.toNat
  have p2 := two_pow_le b.toNat 31 (by omega)
  have e31 : (2 : Int) ^ 31 = 2147483648 := by decide
  obtain ⟨m2, m3⟩ := mul_bd a (2 ^ b.toNat) ⟨ha1, ha2⟩ ⟨by omega, by omega⟩
  clear p2 e31
  go_enter Tryd.func142, Tryd.ntmps142
  go_wp2_with (go_at_call 159; refine (l1Power_any _ (by omega) (by omega) _).mono ?_; rintro e w' ⟨rfl, rfl⟩)
  go_ret
  exact ⟨ret_int (by first | rfl | exact w64_id (by omega) (by omega)), rfl⟩
theorem l1Exact_10 (a b : Int) (ha1 : -2147483648 ≤ a) (ha2 : a ≤ 2147483647) (hb1 : -2147483648 ≤ b) (hb2 : b ≤ 2147483647) (s1 : 0 ≤ b) (s2 : b ≤ 31) (w : World) :
    Calls Tryd.prog 142 #[.int .i64 10, .int .i64 a, .int .i64 b] w fun e w' => e = .returned (.int .i64 (exactV 10 a b)) ∧ w' = w := by
  rw [exactV_10]
  have p1 := two_pow_pos b.toNat
  have p2 := two_pow_le b.toNat 31 (by omega)
  have e31 : (2 : Int) ^ 31 = 2147483648 := by decide
  have p3 : (2 : Int) ^ b.toNat ≤ 2147483648 := by omega
  clear p2 e31
  go_enter Tryd.func142, Tryd.ntmps142
  go_wp2_with (first | (go_at_call 159; refine (l1Power_any _ (by omega) (by omega) _).mono ?_; rintro e w' ⟨rfl, rfl⟩) | (go_at_call 203; refine (l1Floor_any _ _ (by omega) (by omega) (by omega) (by omega) _).mono ?_; rintro e w' ⟨rfl, rfl⟩))
  go_ret
  exact ⟨rfl, rfl⟩
theorem l1Exact_11 (a b : Int) (ha1 : -2147483648 ≤ a) (ha2 : a ≤ 2147483647) (hb1 : -2147483648 ≤ b) (hb2 : b ≤ 2147483647) (w : World) :
    Calls Tryd.prog 142 #[.int .i64 11, .int .i64 a, .int .i64 b] w fun e w' => e = .returned (.int .i64 (exactV 11 a b)) ∧ w' = w := by
  rw [exactV_11]
  go_enter Tryd.func142, Tryd.ntmps142
  go_wp2
  go_ret
  exact ⟨rfl, rfl⟩
theorem l1Exact_12 (a b : Int) (ha1 : -2147483648 ≤ a) (ha2 : a ≤ 2147483647) (hb1 : -2147483648 ≤ b) (hb2 : b ≤ 2147483647) (w : World) :
    Calls Tryd.prog 142 #[.int .i64 12, .int .i64 a, .int .i64 b] w fun e w' => e = .returned (.int .i64 (exactV 12 a b)) ∧ w' = w := by
  rw [exactV_12]
  go_enter Tryd.func142, Tryd.ntmps142
  go_wp2
  go_ret
  exact ⟨rfl, rfl⟩
theorem l1Exact_13 (a b : Int) (ha1 : -2147483648 ≤ a) (ha2 : a ≤ 2147483647) (hb1 : -2147483648 ≤ b) (hb2 : b ≤ 2147483647) (w : World) :
    Calls Tryd.prog 142 #[.int .i64 13, .int .i64 a, .int .i64 b] w fun e w' => e = .returned (.int .i64 (exactV 13 a b)) ∧ w' = w := by
  rw [exactV_13]
  obtain ⟨m2, m3⟩ := mul_bd a b ⟨ha1, ha2⟩ ⟨hb1, by omega⟩
  go_enter Tryd.func142, Tryd.ntmps142
  go_wp2
  go_ret
  exact ⟨ret_int (by first | rfl | exact w64_id (by omega) (by omega)), rfl⟩
theorem l1Exact_any (op a b : Int) (ho1 : 1 ≤ op) (ho2 : op ≤ 13) (ha1 : -2147483648 ≤ a) (ha2 : a ≤ 2147483647) (hb1 : -2147483648 ≤ b) (hb2 : b ≤ 2147483647)
    (hz : op = 4 ∨ op = 5 → ¬ b = 0) (hs : op = 9 ∨ op = 10 → 0 ≤ b ∧ b ≤ 31) (w : World) :
    Calls Tryd.prog 142 #[.int .i64 op, .int .i64 a, .int .i64 b] w fun e w' => e = .returned (.int .i64 (exactV op a b)) ∧ w' = w := by
  have h : op = 1 ∨ op = 2 ∨ op = 3 ∨ op = 4 ∨ op = 5 ∨ op = 6 ∨ op = 7 ∨ op = 8 ∨ op = 9 ∨ op = 10 ∨ op = 11 ∨ op = 12 ∨ op = 13 := by omega
  rcases h with rfl | rfl | rfl | rfl | rfl | rfl | rfl | rfl | rfl | rfl | rfl | rfl | rfl
  · exact l1Exact_1 a b ha1 ha2 hb1 hb2 w
  · exact l1Exact_2 a b ha1 ha2 hb1 hb2 w
  · exact l1Exact_3 a b ha1 ha2 hb1 hb2 w
  · exact l1Exact_4 a b ha1 ha2 hb1 hb2 (hz (.inl rfl)) w
  · exact l1Exact_5 a b ha1 ha2 hb1 hb2 (hz (.inr rfl)) w
  · exact l1Exact_6 a b ha1 ha2 hb1 hb2 w
  · exact l1Exact_7 a b ha1 ha2 hb1 hb2 w
  · exact l1Exact_8 a b ha1 ha2 hb1 hb2 w
  · exact l1Exact_9 a b ha1 ha2 hb1 hb2 (hs (.inl rfl)).1 (hs (.inl rfl)).2 w
  · exact l1Exact_10 a b ha1 ha2 hb1 hb2 (hs (.inr rfl)).1 (hs (.inr rfl)).2 w
  · exact l1Exact_11 a b ha1 ha2 hb1 hb2 w
  · exact l1Exact_12 a b ha1 ha2 hb1 hb2 w
  · exact l1Exact_13 a b ha1 ha2 hb1 hb2 w

theorem specDo_1 (a b : Int) (hA : okB a = true) (hB : okB b = true) (w : World) :
    Calls Tryd.prog 65 #[.int .i64 1, .int .i64 a, .int .i64 b] w fun e w' => e = .returned (.tuple #[.int .i64 (numDo 1 a b).1, .int .i64 (numDo 1 a b).2]) ∧ w' = w := by
  have hO : inB 1 1 13 = true := by decide
  obtain ⟨ha1, ha2⟩ := (okB_iff a).1 hA
  obtain ⟨hb1, hb2⟩ := (okB_iff b).1 hB
  cases hV : okB (exactV 1 a b)
  · have e : numDo 1 a b = (0, 1) := by simp [numDo, hO, hA, hB, hV]
    rw [e]
    clear e
    go_enter Tryd.func65, Tryd.ntmps65
    go_wp2_with (first | (go_at_call 97; refine (l1In_any _ _ _ _).mono ?_; rintro e w' ⟨rfl, rfl⟩) | (go_at_call 66; refine (specOk_any _ _).mono ?_; rintro e w' ⟨rfl, rfl⟩) | (go_at_call 96; refine (specWrap_any _ _).mono ?_; rintro e w' ⟨rfl, rfl⟩) | (go_at_call 142; refine (l1Exact_1 _ _ ha1 ha2 hb1 hb2 _).mono ?_; rintro e w' ⟨rfl, rfl⟩))
    go_ret2
    exact ⟨rfl, rfl⟩
  · have e : numDo 1 a b = (exactV 1 a b, 0) := by simp [numDo, hO, hA, hB, hV]
    rw [e]
    clear e
    go_enter Tryd.func65, Tryd.ntmps65
    go_wp2_with (first | (go_at_call 97; refine (l1In_any _ _ _ _).mono ?_; rintro e w' ⟨rfl, rfl⟩) | (go_at_call 66; refine (specOk_any _ _).mono ?_; rintro e w' ⟨rfl, rfl⟩) | (go_at_call 96; refine (specWrap_any _ _).mono ?_; rintro e w' ⟨rfl, rfl⟩) | (go_at_call 142; refine (l1Exact_1 _ _ ha1 ha2 hb1 hb2 _).mono ?_; rintro e w' ⟨rfl, rfl⟩))
    go_ret2
    exact ⟨rfl, rfl⟩
theorem specDo_2 (a b : Int) (hA : okB a = true) (hB : okB b = true) (w : World) :
    Calls Tryd.prog 65 #[.int .i64 2, .int .i64 a, .int .i64 b] w fun e w' => e = .returned (.tuple #[.int .i64 (numDo 2 a b).1, .int .i64 (numDo 2 a b).2]) ∧ w' = w := by
  have hO : inB 2 1 13 = true := by decide
  obtain ⟨ha1, ha2⟩ := (okB_iff a).1 hA
  obtain ⟨hb1, hb2⟩ := (okB_iff b).1 hB
  cases hV : okB (exactV 2 a b)
  · have e : numDo 2 a b = (0, 1) := by simp [numDo, hO, hA, hB, hV]
    rw [e]
    clear e
    go_enter Tryd.func65, Tryd.ntmps65
    go_wp2_with (first | (go_at_call 97; refine (l1In_any _ _ _ _).mono ?_; rintro e w' ⟨rfl, rfl⟩) | (go_at_call 66; refine (specOk_any _ _).mono ?_; rintro e w' ⟨rfl, rfl⟩) | (go_at_call 96; refine (specWrap_any _ _).mono ?_; rintro e w' ⟨rfl, rfl⟩) | (go_at_call 142; refine (l1Exact_2 _ _ ha1 ha2 hb1 hb2 _).mono ?_; rintro e w' ⟨rfl, rfl⟩))
    go_ret2
    exact ⟨rfl, rfl⟩
  · have e : numDo 2 a b = (exactV 2 a b, 0) := by simp [numDo, hO, hA, hB, hV]
    rw [e]
    clear e
    go_enter Tryd.func65, Tryd.ntmps65
    go_wp2_with (first | (go_at_call 97; refine (l1In_any _ _ _ _).mono ?_; rintro e w' ⟨rfl, rfl⟩) | (go_at_call 66; refine (specOk_any _ _).mono ?_; rintro e w' ⟨rfl, rfl⟩) | (go_at_call 96; refine (specWrap_any _ _).mono ?_; rintro e w' ⟨rfl, rfl⟩) | (go_at_call 142; refine (l1Exact_2 _ _ ha1 ha2 hb1 hb2 _).mono ?_; rintro e w' ⟨rfl, rfl⟩))
    go_ret2
    exact ⟨rfl, rfl⟩
theorem specDo_3 (a b : Int) (hA : okB a = true) (hB : okB b = true) (w : World) :
    Calls Tryd.prog 65 #[.int .i64 3, .int .i64 a, .int .i64 b] w fun e w' => e = .returned (.tuple #[.int .i64 (numDo 3 a b).1, .int .i64 (numDo 3 a b).2]) ∧ w' = w := by
  have hO : inB 3 1 13 = true := by decide
  obtain ⟨ha1, ha2⟩ := (okB_iff a).1 hA
  obtain ⟨hb1, hb2⟩ := (okB_iff b).1 hB
  cases hV : okB (exactV 3 a b)
  · have e : numDo 3 a b = (0, 1) := by simp [numDo, hO, hA, hB, hV]
    rw [e]
    clear e
    go_enter Tryd.func65, Tryd.ntmps65
    go_wp2_with (first | (go_at_call 97; refine (l1In_any _ _ _ _).mono ?_; rintro e w' ⟨rfl, rfl⟩) | (go_at_call 66; refine (specOk_any _ _).mono ?_; rintro e w' ⟨rfl, rfl⟩) | (go_at_call 96; refine (specWrap_any _ _).mono ?_; rintro e w' ⟨rfl, rfl⟩) | (go_at_call 142; refine (l1Exact_3 _ _ ha1 ha2 hb1 hb2 _).mono ?_; rintro e w' ⟨rfl, rfl⟩))
    go_ret2
    exact ⟨rfl, rfl⟩
  · have e : numDo 3 a b = (exactV 3 a b, 0) := by simp [numDo, hO, hA, hB, hV]
    rw [e]
    clear e
    go_enter Tryd.func65, Tryd.ntmps65
    go_wp2_with (first | (go_at_call 97; refine (l1In_any _ _ _ _).mono ?_; rintro e w' ⟨rfl, rfl⟩) | (go_at_call 66; refine (specOk_any _ _).mono ?_; rintro e w' ⟨rfl, rfl⟩) | (go_at_call 96; refine (specWrap_any _ _).mono ?_; rintro e w' ⟨rfl, rfl⟩) | (go_at_call 142; refine (l1Exact_3 _ _ ha1 ha2 hb1 hb2 _).mono ?_; rintro e w' ⟨rfl, rfl⟩))
    go_ret2
    exact ⟨rfl, rfl⟩
theorem specDo_4 (a b : Int) (hA : okB a = true) (hB : okB b = true) (w : World) :
    Calls Tryd.prog 65 #[.int .i64 4, .int .i64 a, .int .i64 b] w fun e w' => e = .returned (.tuple #[.int .i64 (numDo 4 a b).1, .int .i64 (numDo 4 a b).2]) ∧ w' = w := by
  have hO : inB 4 1 13 = true := by decide
  obtain ⟨ha1, ha2⟩ := (okB_iff a).1 hA
  obtain ⟨hb1, hb2⟩ := (okB_iff b).1 hB
  by_cases hb0 : b = 0
  · subst hb0
    have e : numDo 4 a 0 = (0, 2) := by simp [numDo, hO, hA, hB]
    rw [e]
    clear e
    go_enter Tryd.func65, Tryd.ntmps65
    go_wp2_with (first | (go_at_call 97; refine (l1In_any _ _ _ _).mono ?_; rintro e w' ⟨rfl, rfl⟩) | (go_at_call 66; refine (specOk_any _ _).mono ?_; rintro e w' ⟨rfl, rfl⟩))
    go_ret2
    exact ⟨rfl, rfl⟩
  have hb00 : (b == 0) = false := by simp [hb0]
  cases hV : okB (exactV 4 a b)
  · have e : numDo 4 a b = (0, 1) := by simp [numDo, hO, hA, hB, hV, hb0]
    rw [e]
    clear e
    go_enter Tryd.func65, Tryd.ntmps65
    go_wp2_with (first | (go_at_call 97; refine (l1In_any _ _ _ _).mono ?_; rintro e w' ⟨rfl, rfl⟩) | (go_at_call 66; refine (specOk_any _ _).mono ?_; rintro e w' ⟨rfl, rfl⟩) | (go_at_call 96; refine (specWrap_any _ _).mono ?_; rintro e w' ⟨rfl, rfl⟩) | (go_at_call 142; refine (l1Exact_4 _ _ ha1 ha2 hb1 hb2 hb0 _).mono ?_; rintro e w' ⟨rfl, rfl⟩))
    go_ret2
    exact ⟨rfl, rfl⟩
  · have e : numDo 4 a b = (exactV 4 a b, 0) := by simp [numDo, hO, hA, hB, hV, hb0]
    rw [e]
    clear e
    go_enter Tryd.func65, Tryd.ntmps65
    go_wp2_with (first | (go_at_call 97; refine (l1In_any _ _ _ _).mono ?_; rintro e w' ⟨rfl, rfl⟩) | (go_at_call 66; refine (specOk_any _ _).mono ?_; rintro e w' ⟨rfl, rfl⟩) | (go_at_call 96; refine (specWrap_any _ _).mono ?_; rintro e w' ⟨rfl, rfl⟩) | (go_at_call 142; refine (l1Exact_4 _ _ ha1 ha2 hb1 hb2 hb0 _).mono ?_; rintro e w' ⟨rfl, rfl⟩))
    go_ret2
    exact ⟨rfl, rfl⟩
theorem specDo_5 (a b : Int) (hA : okB a = true) (hB : okB b = true) (w : World) :
    Calls Tryd.prog 65 #[.int .i64 5, .int .i64 a, .int .i64 b] w fun e w' => e = .returned (.tuple #[.int .i64 (numDo 5 a b).1, .int .i64 (numDo 5 a b).2]) ∧ w' = w := by
  have hO : inB 5 1 13 = true := by decide
  obtain ⟨ha1, ha2⟩ := (okB_iff a).1 hA
  obtain ⟨hb1, hb2⟩ := (okB_iff b).1 hB
  by_cases hb0 : b = 0
  · subst hb0
    have e : numDo 5 a 0 = (0, 2) := by simp [numDo, hO, hA, hB]
    rw [e]
    clear e
    go_enter Tryd.func65, Tryd.ntmps65
    go_wp2_with (first | (go_at_call 97; refine (l1In_any _ _ _ _).mono ?_; rintro e w' ⟨rfl, rfl⟩) | (go_at_call 66; refine (specOk_any _ _).mono ?_; rintro e w' ⟨rfl, rfl⟩))
    go_ret2
    exact ⟨rfl, rfl⟩
  have hb00 : (b == 0) = false := by simp [hb0]
  cases hV : okB (exactV 5 a b)
  · have e : numDo 5 a b = (0, 1) := by simp [numDo, hO, hA, hB, hV, hb0]
    rw [e]
    clear e
    go_enter Tryd.func65, Tryd.ntmps65
    go_wp2_with (first | (go_at_call 97; refine (l1In_any _ _ _ _).mono ?_; rintro e w' ⟨rfl, rfl⟩) | (go_at_call 66; refine (specOk_any _ _).mono ?_; rintro e w' ⟨rfl, rfl⟩) | (go_at_call 96; refine (specWrap_any _ _).mono ?_; rintro e w' ⟨rfl, rfl⟩) | (go_at_call 142; refine (l1Exact_5 _ _ ha1 ha2 hb1 hb2 hb0 _).mono ?_; rintro e w' ⟨rfl, rfl⟩))
    go_ret2
    exact ⟨rfl, rfl⟩
  · have e : numDo 5 a b = (exactV 5 a b, 0) := by simp [numDo, hO, hA, hB, hV, hb0]
    rw [e]
    clear e
    go_enter Tryd.func65, Tryd.ntmps65
    go_wp2_with (first | (go_at_call 97; refine (l1In_any _ _ _ _).mono ?_; rintro e w' ⟨rfl, rfl⟩) | (go_at_call 66; refine (specOk_any _ _).mono ?_; rintro e w' ⟨rfl, rfl⟩) | (go_at_call 96; refine (specWrap_any _ _).mono ?_; rintro e w' ⟨rfl, rfl⟩) | (go_at_call 142; refine (l1Exact_5 _ _ ha1 ha2 hb1 hb2 hb0 _).mono ?_; rintro e w' ⟨rfl, rfl⟩))
    go_ret2
    exact ⟨rfl, rfl⟩
theorem specDo_6 (a b : Int) (hA : okB a = true) (hB : okB b = true) (w : World) :
    Calls Tryd.prog 65 #[.int .i64 6, .int .i64 a, .int .i64 b] w fun e w' => e = .returned (.tuple #[.int .i64 (numDo 6 a b).1, .int .i64 (numDo 6 a b).2]) ∧ w' = w := by
  have hO : inB 6 1 13 = true := by decide
  obtain ⟨ha1, ha2⟩ := (okB_iff a).1 hA
  obtain ⟨hb1, hb2⟩ := (okB_iff b).1 hB
  cases hV : okB (exactV 6 a b)
  · have e : numDo 6 a b = (0, 1) := by simp [numDo, hO, hA, hB, hV]
    rw [e]
    clear e
    go_enter Tryd.func65, Tryd.ntmps65
    go_wp2_with (first | (go_at_call 97; refine (l1In_any _ _ _ _).mono ?_; rintro e w' ⟨rfl, rfl⟩) | (go_at_call 66; refine (specOk_any _ _).mono ?_; rintro e w' ⟨rfl, rfl⟩) | (go_at_call 96; refine (specWrap_any _ _).mono ?_; rintro e w' ⟨rfl, rfl⟩) | (go_at_call 142; refine (l1Exact_6 _ _ ha1 ha2 hb1 hb2 _).mono ?_; rintro e w' ⟨rfl, rfl⟩))
    go_ret2
    exact ⟨rfl, rfl⟩
  · have e : numDo 6 a b = (exactV 6 a b, 0) := by simp [numDo, hO, hA, hB, hV]
    rw [e]
    clear e
    go_enter Tryd.func65, Tryd.ntmps65
    go_wp2_with (first | (go_at_call 97; refine (l1In_any _ _ _ _).mono ?_; rintro e w' ⟨rfl, rfl⟩) | (go_at_call 66; refine (specOk_any _ _).mono ?_; rintro e w' ⟨rfl, rfl⟩) | (go_at_call 96; refine (specWrap_any _ _).mono ?_; rintro e w' ⟨rfl, rfl⟩) | (go_at_call 142; refine (l1Exact_6 _ _ ha1 ha2 hb1 hb2 _).mono ?_; rintro e w' ⟨rfl, rfl⟩))
    go_ret2
    exact ⟨rfl, rfl⟩
theorem specDo_7 (a b : Int) (hA : okB a = true) (hB : okB b = true) (w : World) :
    Calls Tryd.prog 65 #[.int .i64 7, .int .i64 a, .int .i64 b] w fun e w' => e = .returned (.tuple #[.int .i64 (numDo 7 a b).1, .int .i64 (numDo 7 a b).2]) ∧ w' = w := by
  have hO : inB 7 1 13 = true := by decide
  obtain ⟨ha1, ha2⟩ := (okB_iff a).1 hA
  obtain ⟨hb1, hb2⟩ := (okB_iff b).1 hB
  cases hV : okB (exactV 7 a b)
  · have e : numDo 7 a b = (0, 1) := by simp [numDo, hO, hA, hB, hV]
    rw [e]
    clear e
    go_enter Tryd.func65, Tryd.ntmps65
    go_wp2_with (first | (go_at_call 97; refine (l1In_any _ _ _ _).mono ?_; rintro e w' ⟨rfl, rfl⟩) | (go_at_call 66; refine (specOk_any _ _).mono ?_; rintro e w' ⟨rfl, rfl⟩) | (go_at_call 96; refine (specWrap_any _ _).mono ?_; rintro e w' ⟨rfl, rfl⟩) | (go_at_call 142; refine (l1Exact_7 _ _ ha1 ha2 hb1 hb2 _).mono ?_; rintro e w' ⟨rfl, rfl⟩))
    go_ret2
    exact ⟨rfl, rfl⟩
  · have e : numDo 7 a b = (exactV 7 a b, 0) := by simp [numDo, hO, hA, hB, hV]
    rw [e]
    clear e
    go_enter Tryd.func65, Tryd.ntmps65
    go_wp2_with (first | (go_at_call 97; refine (l1In_any _ _ _ _).mono ?_; rintro e w' ⟨rfl, rfl⟩) | (go_at_call 66; refine (specOk_any _ _).mono ?_; rintro e w' ⟨rfl, rfl⟩) | (go_at_call 96; refine (specWrap_any _ _).mono ?_; rintro e w' ⟨rfl, rfl⟩) | (go_at_call 142; refine (l1Exact_7 _ _ ha1 ha2 hb1 hb2 _).mono ?_; rintro e w' ⟨rfl, rfl⟩))
    go_ret2
    exact ⟨rfl, rfl⟩
theorem specDo_8 (a b : Int) (hA : okB a = true) (hB : okB b = true) (w : World) :
    Calls Tryd.prog 65 #[.int .i64 8, .int .i64 a, .int .i64 b] w fun e w' => e = .returned (.tuple #[.int .i64 (numDo 8 a b).1, .int .i64 (numDo 8 a b).2]) ∧ w' = w := by
  have hO : inB 8 1 13 = true := by decide
  obtain ⟨ha1, ha2⟩ := (okB_iff a).1 hA
  obtain ⟨hb1, hb2⟩ := (okB_iff b).1 hB
  cases hV : okB (exactV 8 a b)
  · have e : numDo 8 a b = (0, 1) := by simp [numDo, hO, hA, hB, hV]
    rw [e]
    clear e
    go_enter Tryd.func65, Tryd.ntmps65
    go_wp2_with (first | (go_at_call 97; refine (l1In_any _ _ _ _).mono ?_; rintro e w' ⟨rfl, rfl⟩) | (go_at_call 66; refine (specOk_any _ _).mono ?_; rintro e w' ⟨rfl, rfl⟩) | (go_at_call 96; refine (specWrap_any _ _).mono ?_; rintro e w' ⟨rfl, rfl⟩) | (go_at_call 142; refine (l1Exact_8 _ _ ha1 ha2 hb1 hb2 _).mono ?_; rintro e w' ⟨rfl, rfl⟩))
    go_ret2
    exact ⟨rfl, rfl⟩
  · have e : numDo 8 a b = (exactV 8 a b, 0) := by simp [numDo, hO, hA, hB, hV]
    rw [e]
    clear e
    go_enter Tryd.func65, Tryd.ntmps65
    go_wp2_with (first | (go_at_call 97; refine (l1In_any _ _ _ _).mono ?_; rintro e w' ⟨rfl, rfl⟩) | (go_at_call 66; refine (specOk_any _ _).mono ?_; rintro e w' ⟨rfl, rfl⟩) | (go_at_call 96; refine (specWrap_any _ _).mono ?_; rintro e w' ⟨rfl, rfl⟩) | (go_at_call 142; refine (l1Exact_8 _ _ ha1 ha2 hb1 hb2 _).mono ?_; rintro e w' ⟨rfl, rfl⟩))
    go_ret2
    exact ⟨rfl, rfl⟩
theorem specDo_9 (a b : Int) (hA : okB a = true) (hB : okB b = true) (w : World) :
    Calls Tryd.prog 65 #[.int .i64 9, .int .i64 a, .int .i64 b] w fun e w' => e = .returned (.tuple #[.int .i64 (numDo 9 a b).1, .int .i64 (numDo 9 a b).2]) ∧ w' = w := by
  have hO : inB 9 1 13 = true := by decide
  obtain ⟨ha1, ha2⟩ := (okB_iff a).1 hA
  obtain ⟨hb1, hb2⟩ := (okB_iff b).1 hB
  cases hS : inB b 0 31
  · have e : numDo 9 a b = (0, 3) := by simp [numDo, hO, hA, hB, hS]
    rw [e]
    clear e
    go_enter Tryd.func65, Tryd.ntmps65
    go_wp2_with (first | (go_at_call 97; refine (l1In_any _ _ _ _).mono ?_; rintro e w' ⟨rfl, rfl⟩) | (go_at_call 66; refine (specOk_any _ _).mono ?_; rintro e w' ⟨rfl, rfl⟩))
    go_ret2
    exact ⟨rfl, rfl⟩
  obtain ⟨s1, s2⟩ := (inB_iff b 0 31).1 hS
  cases hV : okB (exactV 9 a b)
  · have e : numDo 9 a b = (0, 1) := by simp [numDo, hO, hA, hB, hV, hS]
    rw [e]
    clear e
    go_enter Tryd.func65, Tryd.ntmps65
    go_wp2_with (first | (go_at_call 97; refine (l1In_any _ _ _ _).mono ?_; rintro e w' ⟨rfl, rfl⟩) | (go_at_call 66; refine (specOk_any _ _).mono ?_; rintro e w' ⟨rfl, rfl⟩) | (go_at_call 96; refine (specWrap_any _ _).mono ?_; rintro e w' ⟨rfl, rfl⟩) | (go_at_call 142; refine (l1Exact_9 _ _ ha1 ha2 hb1 hb2 s1 s2 _).mono ?_; rintro e w' ⟨rfl, rfl⟩))
    go_ret2
    exact ⟨rfl, rfl⟩
  · have e : numDo 9 a b = (exactV 9 a b, 0) := by simp [numDo, hO, hA, hB, hV, hS]
    rw [e]
    clear e
    go_enter Tryd.func65, Tryd.ntmps65
    go_wp2_with (first | (go_at_call 97; refine (l1In_any _ _ _ _).mono ?_; rintro e w' ⟨rfl, rfl⟩) | (go_at_call 66; refine (specOk_any _ _).mono ?_; rintro e w' ⟨rfl, rfl⟩) | (go_at_call 96; refine (specWrap_any _ _).mono ?_; rintro e w' ⟨rfl, rfl⟩) | (go_at_call 142; refine (l1Exact_9 _ _ ha1 ha2 hb1 hb2 s1 s2 _).mono ?_; rintro e w' ⟨rfl, rfl⟩))
    go_ret2
    exact ⟨rfl, rfl⟩
theorem specDo_10 (a b : Int) (hA : okB a = true) (hB : okB b = true) (w : World) :
    Calls Tryd.prog 65 #[.int .i64 10, .int .i64 a, .int .i64 b] w fun e w' => e = .returned (.tuple #[.int .i64 (numDo 10 a b).1, .int .i64 (numDo 10 a b).2]) ∧ w' = w := by
  have hO : inB 10 1 13 = true := by decide
  obtain ⟨ha1, ha2⟩ := (okB_iff a).1 hA
  obtain ⟨hb1, hb2⟩ := (okB_iff b).1 hB
  cases hS : inB b 0 31
  · have e : numDo 10 a b = (0, 3) := by simp [numDo, hO, hA, hB, hS]
    rw [e]
    clear e
    go_enter Tryd.func65, Tryd.ntmps65
    go_wp2_with (first | (go_at_call 97; refine (l1In_any _ _ _ _).mono ?_; rintro e w' ⟨rfl, rfl⟩) | (go_at_call 66; refine (specOk_any _ _).mono ?_; rintro e w' ⟨rfl, rfl⟩))
    go_ret2
    exact ⟨rfl, rfl⟩
  obtain ⟨s1, s2⟩ := (inB_iff b 0 31).1 hS
  cases hV : okB (exactV 10 a b)
  · have e : numDo 10 a b = (0, 1) := by simp [numDo, hO, hA, hB, hV, hS]
    rw [e]
    clear e
    go_enter Tryd.func65, Tryd.ntmps65
    go_wp2_with (first | (go_at_call 97; refine (l1In_any _ _ _ _).mono ?_; rintro e w' ⟨rfl, rfl⟩) | (go_at_call 66; refine (specOk_any _ _).mono ?_; rintro e w' ⟨rfl, rfl⟩) | (go_at_call 96; refine (specWrap_any _ _).mono ?_; rintro e w' ⟨rfl, rfl⟩) | (go_at_call 142; refine (l1Exact_10 _ _ ha1 ha2 hb1 hb2 s1 s2 _).mono ?_; rintro e w' ⟨rfl, rfl⟩))
    go_ret2
    exact ⟨rfl, rfl⟩
  · have e : numDo 10 a b = (exactV 10 a b, 0) := by simp [numDo, hO, hA, hB, hV, hS]
    rw [e]
    clear e
    go_enter Tryd.func65, Tryd.ntmps65
    go_wp2_with (first | (go_at_call 97; refine (l1In_any _ _ _ _).mono ?_; rintro e w' ⟨rfl, rfl⟩) | (go_at_call 66; refine (specOk_any _ _).mono ?_; rintro e w' ⟨rfl, rfl⟩) | (go_at_call 96; refine (specWrap_any _ _).mono ?_; rintro e w' ⟨rfl, rfl⟩) | (go_at_call 142; refine (l1Exact_10 _ _ ha1 ha2 hb1 hb2 s1 s2 _).mono ?_; rintro e w' ⟨rfl, rfl⟩))
    go_ret2
    exact ⟨rfl, rfl⟩
theorem specDo_11 (a b : Int) (hA : okB a = true) (hB : okB b = true) (w : World) :
    Calls Tryd.prog 65 #[.int .i64 11, .int .i64 a, .int .i64 b] w fun e w' => e = .returned (.tuple #[.int .i64 (numDo 11 a b).1, .int .i64 (numDo 11 a b).2]) ∧ w' = w := by
  have hO : inB 11 1 13 = true := by decide
  obtain ⟨ha1, ha2⟩ := (okB_iff a).1 hA
  obtain ⟨hb1, hb2⟩ := (okB_iff b).1 hB
  have e : numDo 11 a b = (wrap32 (exactV 11 a b), 0) := by simp [numDo, hO, hA, hB]
  rw [e]
  clear e
  go_enter Tryd.func65, Tryd.ntmps65
  go_wp2_with (first | (go_at_call 97; refine (l1In_any _ _ _ _).mono ?_; rintro e w' ⟨rfl, rfl⟩) | (go_at_call 66; refine (specOk_any _ _).mono ?_; rintro e w' ⟨rfl, rfl⟩) | (go_at_call 96; refine (specWrap_any _ _).mono ?_; rintro e w' ⟨rfl, rfl⟩) | (go_at_call 142; refine (l1Exact_11 _ _ ha1 ha2 hb1 hb2 _).mono ?_; rintro e w' ⟨rfl, rfl⟩))
  go_ret2
  exact ⟨rfl, rfl⟩
theorem specDo_12 (a b : Int) (hA : okB a = true) (hB : okB b = true) (w : World) :
    Calls Tryd.prog 65 #[.int .i64 12, .int .i64 a, .int .i64 b] w fun e w' => e = .returned (.tuple #[.int .i64 (numDo 12 a b).1, .int .i64 (numDo 12 a b).2]) ∧ w' = w := by
  have hO : inB 12 1 13 = true := by decide
  obtain ⟨ha1, ha2⟩ := (okB_iff a).1 hA
  obtain ⟨hb1, hb2⟩ := (okB_iff b).1 hB
  have e : numDo 12 a b = (wrap32 (exactV 12 a b), 0) := by simp [numDo, hO, hA, hB]
  rw [e]
  clear e
  go_enter Tryd.func65, Tryd.ntmps65
  go_wp2_with (first | (go_at_call 97; refine (l1In_any _ _ _ _).mono ?_; rintro e w' ⟨rfl, rfl⟩) | (go_at_call 66; refine (specOk_any _ _).mono ?_; rintro e w' ⟨rfl, rfl⟩) | (go_at_call 96; refine (specWrap_any _ _).mono ?_; rintro e w' ⟨rfl, rfl⟩) | (go_at_call 142; refine (l1Exact_12 _ _ ha1 ha2 hb1 hb2 _).mono ?_; rintro e w' ⟨rfl, rfl⟩))
  go_ret2
  exact ⟨rfl, rfl⟩
theorem specDo_13 (a b : Int) (hA : okB a = true) (hB : okB b = true) (w : World) :
    Calls Tryd.prog 65 #[.int .i64 13, .int .i64 a, .int .i64 b] w fun e w' => e = .returned (.tuple #[.int .i64 (numDo 13 a b).1, .int .i64 (numDo 13 a b).2]) ∧ w' = w := by
  have hO : inB 13 1 13 = true := by decide
  obtain ⟨ha1, ha2⟩ := (okB_iff a).1 hA
  obtain ⟨hb1, hb2⟩ := (okB_iff b).1 hB
  have e : numDo 13 a b = (wrap32 (exactV 13 a b), 0) := by simp [numDo, hO, hA, hB]
  rw [e]
  clear e
  go_enter Tryd.func65, Tryd.ntmps65
  go_wp2_with (first | (go_at_call 97; refine (l1In_any _ _ _ _).mono ?_; rintro e w' ⟨rfl, rfl⟩) | (go_at_call 66; refine (specOk_any _ _).mono ?_; rintro e w' ⟨rfl, rfl⟩) | (go_at_call 96; refine (specWrap_any _ _).mono ?_; rintro e w' ⟨rfl, rfl⟩) | (go_at_call 142; refine (l1Exact_13 _ _ ha1 ha2 hb1 hb2 _).mono ?_; rintro e w' ⟨rfl, rfl⟩))
  go_ret2
  exact ⟨rfl, rfl⟩
theorem specDo_any (op a b : Int) (w : World) :
    Calls Tryd.prog 65 #[.int .i64 op, .int .i64 a, .int .i64 b] w fun e w' => e = .returned (.tuple #[.int .i64 (numDo op a b).1, .int .i64 (numDo op a b).2]) ∧ w' = w := by
  cases hO : inB op 1 13
  · have e : numDo op a b = (0, 0) := by simp [numDo, hO]
    rw [e]
    clear e
    go_enter Tryd.func65, Tryd.ntmps65
    go_wp2_with (first | (go_at_call 97; refine (l1In_any _ _ _ _).mono ?_; rintro e w' ⟨rfl, rfl⟩) | (go_at_call 66; refine (specOk_any _ _).mono ?_; rintro e w' ⟨rfl, rfl⟩))
    go_ret2
    exact ⟨rfl, rfl⟩
  cases hA : okB a
  · have e : numDo op a b = (0, 0) := by simp [numDo, hA]
    rw [e]
    clear e
    go_enter Tryd.func65, Tryd.ntmps65
    go_wp2_with (first | (go_at_call 97; refine (l1In_any _ _ _ _).mono ?_; rintro e w' ⟨rfl, rfl⟩) | (go_at_call 66; refine (specOk_any _ _).mono ?_; rintro e w' ⟨rfl, rfl⟩))
    go_ret2
    exact ⟨rfl, rfl⟩
  cases hB : okB b
  · have e : numDo op a b = (0, 0) := by simp [numDo, hB]
    rw [e]
    clear e
    go_enter Tryd.func65, Tryd.ntmps65
    go_wp2_with (first | (go_at_call 97; refine (l1In_any _ _ _ _).mono ?_; rintro e w' ⟨rfl, rfl⟩) | (go_at_call 66; refine (specOk_any _ _).mono ?_; rintro e w' ⟨rfl, rfl⟩))
    go_ret2
    exact ⟨rfl, rfl⟩
  obtain ⟨ho1, ho2⟩ := (inB_iff op 1 13).1 hO
  have h : op = 1 ∨ op = 2 ∨ op = 3 ∨ op = 4 ∨ op = 5 ∨ op = 6 ∨ op = 7 ∨ op = 8 ∨ op = 9 ∨ op = 10 ∨ op = 11 ∨ op = 12 ∨ op = 13 := by omega
  rcases h with rfl | rfl | rfl | rfl | rfl | rfl | rfl | rfl | rfl | rfl | rfl | rfl | rfl
  · exact specDo_1 a b hA hB w
  · exact specDo_2 a b hA hB w
  · exact specDo_3 a b hA hB w
  · exact specDo_4 a b hA hB w
  · exact specDo_5 a b hA hB w
  · exact specDo_6 a b hA hB w
  · exact specDo_7 a b hA hB w
  · exact specDo_8 a b hA hB w
  · exact specDo_9 a b hA hB w
  · exact specDo_10 a b hA hB w
  · exact specDo_11 a b hA hB w
  · exact specDo_12 a b hA hB w
  · exact specDo_13 a b hA hB w
end Go.Proofs.YthbbgkpkijlclaaDoor.num
