/-
  impl's operators, one function literal each: what each tells, or panics with. The world stays as it was.
-/
import Derived.Test.YtfkmnbldadpaaaaSpecDo
namespace Go.Proofs.Ytfkmnbldadpaaaa.num
open Go.ChangeShapes Go.WideShapes Go.ChangeAt Go.RowKit
set_option linter.unusedVariables false
theorem mustFit_yes (v : Int) (h : okB v = true) (w : World) :
    Calls Try.prog 33 #[.int .i64 v] w fun e w' => e = .returned (.int .i64 v) ∧ w' = w := by
  go_enter Try.func33, Try.ntmps33
  go_wp2_with (go_at_call 13; refine (implOk_any _ _).mono ?_; rintro e w' ⟨rfl, rfl⟩)
  go_ret
  exact ⟨rfl, rfl⟩
theorem mustFit_no (v : Int) (h : okB v = false) (w : World) :
    Calls Try.prog 33 #[.int .i64 v] w fun e w' => e = .panicked [{ v := .iface 42 (.int .i64 1), recovered := false }] ∧ w' = w := by
  go_enter Try.func33, Try.ntmps33
  go_wp2_with (go_at_call 13; refine (implOk_any _ _).mono ?_; rintro e w' ⟨rfl, rfl⟩)
  exact ⟨rfl, rfl, rfl⟩
theorem mustDivide_yes (b : Int) (h : ¬ b = 0) (w : World) :
    Calls Try.prog 37 #[.int .i64 b] w fun e w' => e = .returned (.int .i64 b) ∧ w' = w := by
  go_enter Try.func37, Try.ntmps37
  go_wp2
  go_ret
  exact ⟨rfl, rfl⟩
theorem mustDivide_no (w : World) :
    Calls Try.prog 37 #[.int .i64 0] w fun e w' => e = .panicked [{ v := .iface 42 (.int .i64 2), recovered := false }] ∧ w' = w := by
  go_enter Try.func37, Try.ntmps37
  go_wp2
  exact ⟨rfl, rfl, rfl⟩
theorem mustShift_yes (b : Int) (h1 : 0 ≤ b) (h2 : b ≤ 31) (w : World) :
    Calls Try.prog 43 #[.int .i64 b] w fun e w' => e = .returned (.int .i64 b) ∧ w' = w := by
  go_enter Try.func43, Try.ntmps43
  go_wp2
  go_ret
  exact ⟨rfl, rfl⟩
theorem mustShift_no (b : Int) (h : b < 0 ∨ 31 < b) (w : World) :
    Calls Try.prog 43 #[.int .i64 b] w fun e w' => e = .panicked [{ v := .iface 42 (.int .i64 3), recovered := false }] ∧ w' = w := by
  rcases h with h | h
  · go_enter Try.func43, Try.ntmps43
    go_wp2
    exact ⟨rfl, rfl, rfl⟩
  · have h' : ¬ b < 0 := by omega
    go_enter Try.func43, Try.ntmps43
    go_wp2
    exact ⟨rfl, rfl, rfl⟩
theorem w64_mul {a b : Int} (h1 : -4611686018427387904 ≤ a * b) (h2 : a * b ≤ 4611686018427387904) : wrap64 (a * b) = a * b := w64_id (by omega) (by omega)
theorem cl1_ok (a b : Int) (ha1 : -2147483648 ≤ a) (ha2 : a ≤ 2147483647) (hb1 : -2147483648 ≤ b) (hb2 : b ≤ 2147483647) (hV : okB (exactV 1 a b) = true) (w : World) :
    Calls Try.prog 32 #[.int .i64 a, .int .i64 b] w fun e w' => e = .returned (.int .i64 (exactV 1 a b)) ∧ w' = w := by
  rw [exactV_1] at *
  have hw : wrap64 (a + b) = a + b := w64_id (by omega) (by omega)
  have H : Hid (okB (a + b) = true) := hV
  clear hV
  go_enter Try.func32, Try.ntmps32
  go_wp2_with (first | (go_at_call 33; refine (mustFit_yes _ H.out _).mono ?_; rintro e w' ⟨rfl, rfl⟩))
  go_ret
  exact ⟨rfl, rfl⟩
theorem cl1_no (a b : Int) (ha1 : -2147483648 ≤ a) (ha2 : a ≤ 2147483647) (hb1 : -2147483648 ≤ b) (hb2 : b ≤ 2147483647) (hV : okB (exactV 1 a b) = false) (w : World) :
    Calls Try.prog 32 #[.int .i64 a, .int .i64 b] w fun e w' => e = .panicked [{ v := .iface 42 (.int .i64 1), recovered := false }] ∧ w' = w := by
  rw [exactV_1] at *
  have hw : wrap64 (a + b) = a + b := w64_id (by omega) (by omega)
  have H : Hid (okB (a + b) = false) := hV
  clear hV
  go_enter Try.func32, Try.ntmps32
  go_wp2_with (first | (go_at_call 33; refine (mustFit_no _ H.out _).mono ?_; rintro e w' ⟨rfl, rfl⟩))
  exact ⟨rfl, rfl, rfl⟩
theorem cl2_ok (a b : Int) (ha1 : -2147483648 ≤ a) (ha2 : a ≤ 2147483647) (hb1 : -2147483648 ≤ b) (hb2 : b ≤ 2147483647) (hV : okB (exactV 2 a b) = true) (w : World) :
    Calls Try.prog 34 #[.int .i64 a, .int .i64 b] w fun e w' => e = .returned (.int .i64 (exactV 2 a b)) ∧ w' = w := by
  rw [exactV_2] at *
  have hw : wrap64 (a - b) = a - b := w64_id (by omega) (by omega)
  have H : Hid (okB (a - b) = true) := hV
  clear hV
  go_enter Try.func34, Try.ntmps34
  go_wp2_with (first | (go_at_call 33; refine (mustFit_yes _ H.out _).mono ?_; rintro e w' ⟨rfl, rfl⟩))
  go_ret
  exact ⟨rfl, rfl⟩
theorem cl2_no (a b : Int) (ha1 : -2147483648 ≤ a) (ha2 : a ≤ 2147483647) (hb1 : -2147483648 ≤ b) (hb2 : b ≤ 2147483647) (hV : okB (exactV 2 a b) = false) (w : World) :
    Calls Try.prog 34 #[.int .i64 a, .int .i64 b] w fun e w' => e = .panicked [{ v := .iface 42 (.int .i64 1), recovered := false }] ∧ w' = w := by
  rw [exactV_2] at *
  have hw : wrap64 (a - b) = a - b := w64_id (by omega) (by omega)
  have H : Hid (okB (a - b) = false) := hV
  clear hV
  go_enter Try.func34, Try.ntmps34
  go_wp2_with (first | (go_at_call 33; refine (mustFit_no _ H.out _).mono ?_; rintro e w' ⟨rfl, rfl⟩))
  exact ⟨rfl, rfl, rfl⟩
theorem cl3_ok (a b : Int) (ha1 : -2147483648 ≤ a) (ha2 : a ≤ 2147483647) (hb1 : -2147483648 ≤ b) (hb2 : b ≤ 2147483647) (hV : okB (exactV 3 a b) = true) (w : World) :
    Calls Try.prog 35 #[.int .i64 a, .int .i64 b] w fun e w' => e = .returned (.int .i64 (exactV 3 a b)) ∧ w' = w := by
  rw [exactV_3] at *
  obtain ⟨m2, m3⟩ := mul_bd a b ⟨ha1, ha2⟩ ⟨hb1, by omega⟩
  have hw : wrap64 (a * b) = a * b := w64_mul m2 m3
  have H : Hid (okB (a * b) = true) := hV
  clear hV
  go_enter Try.func35, Try.ntmps35
  go_wp2_with (first | (go_at_call 33; refine (mustFit_yes _ H.out _).mono ?_; rintro e w' ⟨rfl, rfl⟩))
  go_ret
  exact ⟨rfl, rfl⟩
theorem cl3_no (a b : Int) (ha1 : -2147483648 ≤ a) (ha2 : a ≤ 2147483647) (hb1 : -2147483648 ≤ b) (hb2 : b ≤ 2147483647) (hV : okB (exactV 3 a b) = false) (w : World) :
    Calls Try.prog 35 #[.int .i64 a, .int .i64 b] w fun e w' => e = .panicked [{ v := .iface 42 (.int .i64 1), recovered := false }] ∧ w' = w := by
  rw [exactV_3] at *
  obtain ⟨m2, m3⟩ := mul_bd a b ⟨ha1, ha2⟩ ⟨hb1, by omega⟩
  have hw : wrap64 (a * b) = a * b := w64_mul m2 m3
  have H : Hid (okB (a * b) = false) := hV
  clear hV
  go_enter Try.func35, Try.ntmps35
  go_wp2_with (first | (go_at_call 33; refine (mustFit_no _ H.out _).mono ?_; rintro e w' ⟨rfl, rfl⟩))
  exact ⟨rfl, rfl, rfl⟩
theorem cl4_ok (a b : Int) (ha1 : -2147483648 ≤ a) (ha2 : a ≤ 2147483647) (hb1 : -2147483648 ≤ b) (hb2 : b ≤ 2147483647) (hb0 : ¬ b = 0) (hV : okB (exactV 4 a b) = true) (w : World) :
    Calls Try.prog 36 #[.int .i64 a, .int .i64 b] w fun e w' => e = .returned (.int .i64 (exactV 4 a b)) ∧ w' = w := by
  rw [exactV_4] at *
  obtain ⟨d1, d2⟩ := tdiv_bd a b ⟨ha1, ha2⟩
  have hw : wrap64 (a.tdiv b) = a.tdiv b := w64_id (by omega) (by omega)
  have H : Hid (okB (a.tdiv b) = true) := hV
  clear hV
  go_enter Try.func36, Try.ntmps36
  go_wp2_with (first | (go_at_call 37; refine (mustDivide_yes _ hb0 _).mono ?_; rintro e w' ⟨rfl, rfl⟩) | (go_at_call 33; refine (mustFit_yes _ H.out _).mono ?_; rintro e w' ⟨rfl, rfl⟩))
  go_ret
  exact ⟨rfl, rfl⟩
theorem cl4_no (a b : Int) (ha1 : -2147483648 ≤ a) (ha2 : a ≤ 2147483647) (hb1 : -2147483648 ≤ b) (hb2 : b ≤ 2147483647) (hb0 : ¬ b = 0) (hV : okB (exactV 4 a b) = false) (w : World) :
    Calls Try.prog 36 #[.int .i64 a, .int .i64 b] w fun e w' => e = .panicked [{ v := .iface 42 (.int .i64 1), recovered := false }] ∧ w' = w := by
  rw [exactV_4] at *
  obtain ⟨d1, d2⟩ := tdiv_bd a b ⟨ha1, ha2⟩
  have hw : wrap64 (a.tdiv b) = a.tdiv b := w64_id (by omega) (by omega)
  have H : Hid (okB (a.tdiv b) = false) := hV
  clear hV
  go_enter Try.func36, Try.ntmps36
  go_wp2_with (first | (go_at_call 37; refine (mustDivide_yes _ hb0 _).mono ?_; rintro e w' ⟨rfl, rfl⟩) | (go_at_call 33; refine (mustFit_no _ H.out _).mono ?_; rintro e w' ⟨rfl, rfl⟩))
  exact ⟨rfl, rfl, rfl⟩
theorem cl4_zero (a : Int) (w : World) :
    Calls Try.prog 36 #[.int .i64 a, .int .i64 0] w fun e w' => e = .panicked [{ v := .iface 42 (.int .i64 2), recovered := false }] ∧ w' = w := by
  go_enter Try.func36, Try.ntmps36
  go_wp2_with (go_at_call 37; refine (mustDivide_no _).mono ?_; rintro e w' ⟨rfl, rfl⟩)
  exact ⟨rfl, rfl, rfl⟩
theorem cl5_ok (a b : Int) (ha1 : -2147483648 ≤ a) (ha2 : a ≤ 2147483647) (hb1 : -2147483648 ≤ b) (hb2 : b ≤ 2147483647) (hb0 : ¬ b = 0) (w : World) :
    Calls Try.prog 38 #[.int .i64 a, .int .i64 b] w fun e w' => e = .returned (.int .i64 (exactV 5 a b)) ∧ w' = w := by
  rw [exactV_5]
  go_enter Try.func38, Try.ntmps38
  go_wp2_with (first | (go_at_call 37; refine (mustDivide_yes _ hb0 _).mono ?_; rintro e w' ⟨rfl, rfl⟩))
  go_ret
  exact ⟨rfl, rfl⟩
theorem cl5_zero (a : Int) (w : World) :
    Calls Try.prog 38 #[.int .i64 a, .int .i64 0] w fun e w' => e = .panicked [{ v := .iface 42 (.int .i64 2), recovered := false }] ∧ w' = w := by
  go_enter Try.func38, Try.ntmps38
  go_wp2_with (go_at_call 37; refine (mustDivide_no _).mono ?_; rintro e w' ⟨rfl, rfl⟩)
  exact ⟨rfl, rfl, rfl⟩
theorem cl6_ok (a b : Int) (ha1 : -2147483648 ≤ a) (ha2 : a ≤ 2147483647) (hb1 : -2147483648 ≤ b) (hb2 : b ≤ 2147483647) (w : World) :
    Calls Try.prog 39 #[.int .i64 a, .int .i64 b] w fun e w' => e = .returned (.int .i64 (exactV 6 a b)) ∧ w' = w := by
  have e1 : bits .and .i64 a b = exactV 6 a b := by rw [exactV_6, and_low a b ⟨ha1, ha2⟩ ⟨hb1, hb2⟩]; rfl
  rw [← e1]
  clear e1
  go_enter Try.func39, Try.ntmps39
  go_wp2
  go_ret
  exact ⟨rfl, rfl⟩
theorem cl7_ok (a b : Int) (ha1 : -2147483648 ≤ a) (ha2 : a ≤ 2147483647) (hb1 : -2147483648 ≤ b) (hb2 : b ≤ 2147483647) (w : World) :
    Calls Try.prog 40 #[.int .i64 a, .int .i64 b] w fun e w' => e = .returned (.int .i64 (exactV 7 a b)) ∧ w' = w := by
  have e1 : bits .or .i64 a b = exactV 7 a b := by rw [exactV_7, or_low a b ⟨ha1, ha2⟩ ⟨hb1, hb2⟩]; rfl
  rw [← e1]
  clear e1
  go_enter Try.func40, Try.ntmps40
  go_wp2
  go_ret
  exact ⟨rfl, rfl⟩
theorem cl8_ok (a b : Int) (ha1 : -2147483648 ≤ a) (ha2 : a ≤ 2147483647) (hb1 : -2147483648 ≤ b) (hb2 : b ≤ 2147483647) (w : World) :
    Calls Try.prog 41 #[.int .i64 a, .int .i64 b] w fun e w' => e = .returned (.int .i64 (exactV 8 a b)) ∧ w' = w := by
  have e1 : bits .xor .i64 a b = exactV 8 a b := by rw [exactV_8, xor_low a b ⟨ha1, ha2⟩ ⟨hb1, hb2⟩]; rfl
  rw [← e1]
  clear e1
  go_enter Try.func41, Try.ntmps41
  go_wp2
  go_ret
  exact ⟨rfl, rfl⟩
theorem cl9_ok (a b : Int) (ha1 : -2147483648 ≤ a) (ha2 : a ≤ 2147483647) (hb1 : -2147483648 ≤ b) (hb2 : b ≤ 2147483647) (s1 : 0 ≤ b) (s2 : b ≤ 31) (hV : okB (exactV 9 a b) = true) (w : World) :
    Calls Try.prog 42 #[.int .i64 a, .int .i64 b] w fun e w' => e = .returned (.int .i64 (exactV 9 a b)) ∧ w' = w := by
  rw [exactV_9] at *
  have p1 := two_pow_pos b.toNat
  have p2 := two_pow_le b.toNat 31 (by omega)
  have e31 : (2 : Int) ^ 31 = 2147483648 := by decide
  obtain ⟨m2, m3⟩ := mul_bd a (2 ^ b.toNat) ⟨ha1, ha2⟩ ⟨by omega, by omega⟩
  clear p2 e31
  have hw : wrap64 (a * 2 ^ b.toNat) = a * 2 ^ b.toNat := w64_mul m2 m3
  have H : Hid (okB (a * 2 ^ b.toNat) = true) := hV
  clear hV
  go_enter Try.func42, Try.ntmps42
  go_wp2_with (first | (go_at_call 43; refine (mustShift_yes _ s1 s2 _).mono ?_; rintro e w' ⟨rfl, rfl⟩) | (go_at_call 33; refine (mustFit_yes _ H.out _).mono ?_; rintro e w' ⟨rfl, rfl⟩))
  go_ret
  exact ⟨rfl, rfl⟩
theorem cl9_no (a b : Int) (ha1 : -2147483648 ≤ a) (ha2 : a ≤ 2147483647) (hb1 : -2147483648 ≤ b) (hb2 : b ≤ 2147483647) (s1 : 0 ≤ b) (s2 : b ≤ 31) (hV : okB (exactV 9 a b) = false) (w : World) :
    Calls Try.prog 42 #[.int .i64 a, .int .i64 b] w fun e w' => e = .panicked [{ v := .iface 42 (.int .i64 1), recovered := false }] ∧ w' = w := by
  rw [exactV_9] at *
  have p1 := two_pow_pos b.toNat
  have p2 := two_pow_le b.toNat 31 (by omega)
  have e31 : (2 : Int) ^ 31 = 2147483648 := by decide
  obtain ⟨m2, m3⟩ := mul_bd a (2 ^ b.toNat) ⟨ha1, ha2⟩ ⟨by omega, by omega⟩
  clear p2 e31
  have hw : wrap64 (a * 2 ^ b.toNat) = a * 2 ^ b.toNat := w64_mul m2 m3
  have H : Hid (okB (a * 2 ^ b.toNat) = false) := hV
  clear hV
  go_enter Try.func42, Try.ntmps42
  go_wp2_with (first | (go_at_call 43; refine (mustShift_yes _ s1 s2 _).mono ?_; rintro e w' ⟨rfl, rfl⟩) | (go_at_call 33; refine (mustFit_no _ H.out _).mono ?_; rintro e w' ⟨rfl, rfl⟩))
  exact ⟨rfl, rfl, rfl⟩
theorem cl9_shift (a b : Int) (h : b < 0 ∨ 31 < b) (w : World) :
    Calls Try.prog 42 #[.int .i64 a, .int .i64 b] w fun e w' => e = .panicked [{ v := .iface 42 (.int .i64 3), recovered := false }] ∧ w' = w := by
  have H : Hid (b < 0 ∨ 31 < b) := h
  clear h
  go_enter Try.func42, Try.ntmps42
  go_wp2_with (go_at_call 43; refine (mustShift_no _ H.out _).mono ?_; rintro e w' ⟨rfl, rfl⟩)
  exact ⟨rfl, rfl, rfl⟩
theorem cl10_ok (a b : Int) (ha1 : -2147483648 ≤ a) (ha2 : a ≤ 2147483647) (hb1 : -2147483648 ≤ b) (hb2 : b ≤ 2147483647) (s1 : 0 ≤ b) (s2 : b ≤ 31) (w : World) :
    Calls Try.prog 44 #[.int .i64 a, .int .i64 b] w fun e w' => e = .returned (.int .i64 (exactV 10 a b)) ∧ w' = w := by
  rw [exactV_10]
  go_enter Try.func44, Try.ntmps44
  go_wp2_with (first | (go_at_call 43; refine (mustShift_yes _ s1 s2 _).mono ?_; rintro e w' ⟨rfl, rfl⟩))
  go_ret
  exact ⟨rfl, rfl⟩
theorem cl10_shift (a b : Int) (h : b < 0 ∨ 31 < b) (w : World) :
    Calls Try.prog 44 #[.int .i64 a, .int .i64 b] w fun e w' => e = .panicked [{ v := .iface 42 (.int .i64 3), recovered := false }] ∧ w' = w := by
  have H : Hid (b < 0 ∨ 31 < b) := h
  clear h
  go_enter Try.func44, Try.ntmps44
  go_wp2_with (go_at_call 43; refine (mustShift_no _ H.out _).mono ?_; rintro e w' ⟨rfl, rfl⟩)
  exact ⟨rfl, rfl, rfl⟩
theorem cl11_ok (a b : Int) (ha1 : -2147483648 ≤ a) (ha2 : a ≤ 2147483647) (hb1 : -2147483648 ≤ b) (hb2 : b ≤ 2147483647) (w : World) :
    Calls Try.prog 45 #[.int .i64 a, .int .i64 b] w fun e w' => e = .returned (.int .i64 (wrap32 (exactV 11 a b))) ∧ w' = w := by
  rw [exactV_11]
  go_enter Try.func45, Try.ntmps45
  go_wp2_with (go_at_call 17; refine (implWrap_any _ _).mono ?_; rintro e w' ⟨rfl, rfl⟩)
  go_ret
  exact ⟨rfl, rfl⟩
theorem cl12_ok (a b : Int) (ha1 : -2147483648 ≤ a) (ha2 : a ≤ 2147483647) (hb1 : -2147483648 ≤ b) (hb2 : b ≤ 2147483647) (w : World) :
    Calls Try.prog 46 #[.int .i64 a, .int .i64 b] w fun e w' => e = .returned (.int .i64 (wrap32 (exactV 12 a b))) ∧ w' = w := by
  rw [exactV_12]
  go_enter Try.func46, Try.ntmps46
  go_wp2_with (go_at_call 17; refine (implWrap_any _ _).mono ?_; rintro e w' ⟨rfl, rfl⟩)
  go_ret
  exact ⟨rfl, rfl⟩
theorem cl13_ok (a b : Int) (ha1 : -2147483648 ≤ a) (ha2 : a ≤ 2147483647) (hb1 : -2147483648 ≤ b) (hb2 : b ≤ 2147483647) (w : World) :
    Calls Try.prog 47 #[.int .i64 a, .int .i64 b] w fun e w' => e = .returned (.int .i64 (wrap32 (exactV 13 a b))) ∧ w' = w := by
  rw [exactV_13]
  obtain ⟨m2, m3⟩ := mul_bd a b ⟨ha1, ha2⟩ ⟨hb1, by omega⟩
  have hw : wrap64 (a * b) = a * b := w64_mul m2 m3
  go_enter Try.func47, Try.ntmps47
  go_wp2_with (go_at_call 17; refine (implWrap_any _ _).mono ?_; rintro e w' ⟨rfl, rfl⟩)
  go_ret
  exact ⟨rfl, rfl⟩
end Go.Proofs.Ytfkmnbldadpaaaa.num
