/-
  impl's operators, one function literal each, without bound: what each reckons, or panics with. The world stays as it was.
-/
import Derived.Test.YthbbgkpkijlclaaDoorSD
import Derived.Laws.EntriesVeiled
namespace Go.Proofs.YthbbgkpkijlclaaDoor.num
open Go.ChangeShapes Go.WideShapes Go.ChangeAt Go.RowKit
set_option linter.unusedVariables false
theorem mustFit_yes (v : Int) (h : okB v = true) (w : World) :
    Calls Tryd.prog 133 #[.int .i64 v] w fun e w' => e = .returned (.int .i64 v) ∧ w' = w := by
  go_enter Tryd.func133, Tryd.ntmps133
  go_wp2_with (go_at_call 132; refine (implOk_any _ _).mono ?_; rintro e w' ⟨rfl, rfl⟩)
  go_ret
  exact ⟨rfl, rfl⟩
theorem mustFit_no (v : Int) (h : okB v = false) (w : World) :
    Calls Tryd.prog 133 #[.int .i64 v] w fun e w' => e = .panicked [{ v := .iface 168 (.int .i64 1), recovered := false }] ∧ w' = w := by
  go_enter Tryd.func133, Tryd.ntmps133
  go_wp2_with (go_at_call 132; refine (implOk_any _ _).mono ?_; rintro e w' ⟨rfl, rfl⟩)
  exact ⟨rfl, rfl, rfl⟩
theorem mustDivide_yes (b : Int) (h : ¬ b = 0) (w : World) :
    Calls Tryd.prog 181 #[.int .i64 b] w fun e w' => e = .returned (.int .i64 b) ∧ w' = w := by
  go_enter Tryd.func181, Tryd.ntmps181
  go_wp2
  go_ret
  exact ⟨rfl, rfl⟩
theorem mustDivide_no (w : World) :
    Calls Tryd.prog 181 #[.int .i64 0] w fun e w' => e = .panicked [{ v := .iface 168 (.int .i64 2), recovered := false }] ∧ w' = w := by
  go_enter Tryd.func181, Tryd.ntmps181
  go_wp2
  exact ⟨rfl, rfl, rfl⟩
theorem mustShift_yes (b : Int) (h1 : 0 ≤ b) (h2 : b ≤ 31) (w : World) :
    Calls Tryd.prog 187 #[.int .i64 b] w fun e w' => e = .returned (.int .i64 b) ∧ w' = w := by
  go_enter Tryd.func187, Tryd.ntmps187
  go_wp2
  go_ret
  exact ⟨rfl, rfl⟩
theorem mustShift_no (b : Int) (h : b < 0 ∨ 31 < b) (w : World) :
    Calls Tryd.prog 187 #[.int .i64 b] w fun e w' => e = .panicked [{ v := .iface 168 (.int .i64 3), recovered := false }] ∧ w' = w := by
  rcases h with h | h
  · go_enter Tryd.func187, Tryd.ntmps187
    go_wp2
    exact ⟨rfl, rfl, rfl⟩
  · have h' : ¬ b < 0 := by omega
    go_enter Tryd.func187, Tryd.ntmps187
    go_wp2
    exact ⟨rfl, rfl, rfl⟩
theorem w64_mul {a b : Int} (h1 : -4611686018427387904 ≤ a * b) (h2 : a * b ≤ 4611686018427387904) : wrap64 (a * b) = a * b := w64_id (by omega) (by omega)
theorem cl1_v (a b : Int) (ha1 : -2147483648 ≤ a) (ha2 : a ≤ 2147483647) (hb1 : -2147483648 ≤ b) (hb2 : b ≤ 2147483647) (w : World) :
    Calls Tryd.prog 177 #[.int .i64 a, .int .i64 b] w fun e w' => e = .returned (.int .i64 (exactV 1 a b)) ∧ w' = w := by
  rw [exactV_1]
  have hw : wrap64 (a + b) = a + b := w64_id (by omega) (by omega)
  go_enter Tryd.func177, Tryd.ntmps177
  go_wp2
  go_ret
  exact ⟨rfl, rfl⟩
theorem cl2_v (a b : Int) (ha1 : -2147483648 ≤ a) (ha2 : a ≤ 2147483647) (hb1 : -2147483648 ≤ b) (hb2 : b ≤ 2147483647) (w : World) :
    Calls Tryd.prog 178 #[.int .i64 a, .int .i64 b] w fun e w' => e = .returned (.int .i64 (exactV 2 a b)) ∧ w' = w := by
  rw [exactV_2]
  have hw : wrap64 (a - b) = a - b := w64_id (by omega) (by omega)
  go_enter Tryd.func178, Tryd.ntmps178
  go_wp2
  go_ret
  exact ⟨rfl, rfl⟩
theorem cl11_v (a b : Int) (ha1 : -2147483648 ≤ a) (ha2 : a ≤ 2147483647) (hb1 : -2147483648 ≤ b) (hb2 : b ≤ 2147483647) (w : World) :
    Calls Tryd.prog 189 #[.int .i64 a, .int .i64 b] w fun e w' => e = .returned (.int .i64 (exactV 11 a b)) ∧ w' = w := by
  rw [exactV_11]
  have hw : wrap64 (a + b) = a + b := w64_id (by omega) (by omega)
  go_enter Tryd.func189, Tryd.ntmps189
  go_wp2
  go_ret
  exact ⟨rfl, rfl⟩
theorem cl12_v (a b : Int) (ha1 : -2147483648 ≤ a) (ha2 : a ≤ 2147483647) (hb1 : -2147483648 ≤ b) (hb2 : b ≤ 2147483647) (w : World) :
    Calls Tryd.prog 190 #[.int .i64 a, .int .i64 b] w fun e w' => e = .returned (.int .i64 (exactV 12 a b)) ∧ w' = w := by
  rw [exactV_12]
  have hw : wrap64 (a - b) = a - b := w64_id (by omega) (by omega)
  go_enter Tryd.func190, Tryd.ntmps190
  go_wp2
  go_ret
  exact ⟨rfl, rfl⟩
theorem cl3_v (a b : Int) (ha1 : -2147483648 ≤ a) (ha2 : a ≤ 2147483647) (hb1 : -2147483648 ≤ b) (hb2 : b ≤ 2147483647) (w : World) :
    Calls Tryd.prog 179 #[.int .i64 a, .int .i64 b] w fun e w' => e = .returned (.int .i64 (exactV 3 a b)) ∧ w' = w := by
  rw [exactV_3]
  obtain ⟨m2, m3⟩ := mul_bd a b ⟨ha1, ha2⟩ ⟨hb1, by omega⟩
  have hw : wrap64 (a * b) = a * b := w64_mul m2 m3
  go_enter Tryd.func179, Tryd.ntmps179
  go_wp2
  go_ret
  exact ⟨rfl, rfl⟩
theorem cl13_v (a b : Int) (ha1 : -2147483648 ≤ a) (ha2 : a ≤ 2147483647) (hb1 : -2147483648 ≤ b) (hb2 : b ≤ 2147483647) (w : World) :
    Calls Tryd.prog 191 #[.int .i64 a, .int .i64 b] w fun e w' => e = .returned (.int .i64 (exactV 13 a b)) ∧ w' = w := by
  rw [exactV_13]
  obtain ⟨m2, m3⟩ := mul_bd a b ⟨ha1, ha2⟩ ⟨hb1, by omega⟩
  have hw : wrap64 (a * b) = a * b := w64_mul m2 m3
  go_enter Tryd.func191, Tryd.ntmps191
  go_wp2
  go_ret
  exact ⟨rfl, rfl⟩
theorem cl4_v (a b : Int) (ha1 : -2147483648 ≤ a) (ha2 : a ≤ 2147483647) (hb1 : -2147483648 ≤ b) (hb2 : b ≤ 2147483647) (hb0 : ¬ b = 0) (w : World) :
    Calls Tryd.prog 180 #[.int .i64 a, .int .i64 b] w fun e w' => e = .returned (.int .i64 (exactV 4 a b)) ∧ w' = w := by
  rw [exactV_4]
  obtain ⟨d1, d2⟩ := tdiv_bd a b ⟨ha1, ha2⟩
  have hw : wrap64 (a.tdiv b) = a.tdiv b := w64_id (by omega) (by omega)
  go_enter Tryd.func180, Tryd.ntmps180
  go_wp2_with (go_at_call 181; refine (mustDivide_yes _ hb0 _).mono ?_; rintro e w' ⟨rfl, rfl⟩)
  go_ret
  exact ⟨rfl, rfl⟩
theorem cl5_v (a b : Int) (ha1 : -2147483648 ≤ a) (ha2 : a ≤ 2147483647) (hb1 : -2147483648 ≤ b) (hb2 : b ≤ 2147483647) (hb0 : ¬ b = 0) (w : World) :
    Calls Tryd.prog 182 #[.int .i64 a, .int .i64 b] w fun e w' => e = .returned (.int .i64 (exactV 5 a b)) ∧ w' = w := by
  rw [exactV_5]
  go_enter Tryd.func182, Tryd.ntmps182
  go_wp2_with (go_at_call 181; refine (mustDivide_yes _ hb0 _).mono ?_; rintro e w' ⟨rfl, rfl⟩)
  go_ret
  exact ⟨rfl, rfl⟩
theorem cl9_v (a b : Int) (ha1 : -2147483648 ≤ a) (ha2 : a ≤ 2147483647) (hb1 : -2147483648 ≤ b) (hb2 : b ≤ 2147483647) (s1 : 0 ≤ b) (s2 : b ≤ 31) (w : World) :
    Calls Tryd.prog 186 #[.int .i64 a, .int .i64 b] w fun e w' => e = .returned (.int .i64 (exactV 9 a b)) ∧ w' = w := by
  rw [exactV_9]
  have p1 := two_pow_pos b.toNat
  have p2 := two_pow_le b.toNat 31 (by omega)
  have e31 : (2 : Int) ^ 31 = 2147483648 := by decide
  obtain ⟨m2, m3⟩ := mul_bd a (2 ^ b.toNat) ⟨ha1, ha2⟩ ⟨by omega, by omega⟩
  clear p2 e31
  have hw : wrap64 (a * 2 ^ b.toNat) = a * 2 ^ b.toNat := w64_mul m2 m3
  go_enter Tryd.func186, Tryd.ntmps186
  go_wp2_with (go_at_call 187; refine (mustShift_yes _ s1 s2 _).mono ?_; rintro e w' ⟨rfl, rfl⟩)
  go_ret
  exact ⟨rfl, rfl⟩
theorem cl10_v (a b : Int) (ha1 : -2147483648 ≤ a) (ha2 : a ≤ 2147483647) (hb1 : -2147483648 ≤ b) (hb2 : b ≤ 2147483647) (s1 : 0 ≤ b) (s2 : b ≤ 31) (w : World) :
    Calls Tryd.prog 188 #[.int .i64 a, .int .i64 b] w fun e w' => e = .returned (.int .i64 (exactV 10 a b)) ∧ w' = w := by
  rw [exactV_10]
  go_enter Tryd.func188, Tryd.ntmps188
  go_wp2_with (go_at_call 187; refine (mustShift_yes _ s1 s2 _).mono ?_; rintro e w' ⟨rfl, rfl⟩)
  go_ret
  exact ⟨rfl, rfl⟩
theorem cl6_v (a b : Int) (ha1 : -2147483648 ≤ a) (ha2 : a ≤ 2147483647) (hb1 : -2147483648 ≤ b) (hb2 : b ≤ 2147483647) (w : World) :
    Calls Tryd.prog 183 #[.int .i64 a, .int .i64 b] w fun e w' => e = .returned (.int .i64 (exactV 6 a b)) ∧ w' = w := by
  have e1 : bits .and .i64 a b = exactV 6 a b := by rw [exactV_6, and_low a b ⟨ha1, ha2⟩ ⟨hb1, hb2⟩]; rfl
  rw [← e1]
  clear e1
  go_enter Tryd.func183, Tryd.ntmps183
  go_wp2
  go_ret
  exact ⟨rfl, rfl⟩
theorem cl7_v (a b : Int) (ha1 : -2147483648 ≤ a) (ha2 : a ≤ 2147483647) (hb1 : -2147483648 ≤ b) (hb2 : b ≤ 2147483647) (w : World) :
    Calls Tryd.prog 184 #[.int .i64 a, .int .i64 b] w fun e w' => e = .returned (.int .i64 (exactV 7 a b)) ∧ w' = w := by
  have e1 : bits .or .i64 a b = exactV 7 a b := by rw [exactV_7, or_low a b ⟨ha1, ha2⟩ ⟨hb1, hb2⟩]; rfl
  rw [← e1]
  clear e1
  go_enter Tryd.func184, Tryd.ntmps184
  go_wp2
  go_ret
  exact ⟨rfl, rfl⟩
theorem cl8_v (a b : Int) (ha1 : -2147483648 ≤ a) (ha2 : a ≤ 2147483647) (hb1 : -2147483648 ≤ b) (hb2 : b ≤ 2147483647) (w : World) :
    Calls Tryd.prog 185 #[.int .i64 a, .int .i64 b] w fun e w' => e = .returned (.int .i64 (exactV 8 a b)) ∧ w' = w := by
  have e1 : bits .xor .i64 a b = exactV 8 a b := by rw [exactV_8, xor_low a b ⟨ha1, ha2⟩ ⟨hb1, hb2⟩]; rfl
  rw [← e1]
  clear e1
  go_enter Tryd.func185, Tryd.ntmps185
  go_wp2
  go_ret
  exact ⟨rfl, rfl⟩
theorem cl4_zero (a : Int) (w : World) :
    Calls Tryd.prog 180 #[.int .i64 a, .int .i64 0] w fun e w' => e = .panicked [{ v := .iface 168 (.int .i64 2), recovered := false }] ∧ w' = w := by
  go_enter Tryd.func180, Tryd.ntmps180
  go_wp2_with (go_at_call 181; refine (mustDivide_no _).mono ?_; rintro e w' ⟨rfl, rfl⟩)
  exact ⟨rfl, rfl, rfl⟩
theorem cl5_zero (a : Int) (w : World) :
    Calls Tryd.prog 182 #[.int .i64 a, .int .i64 0] w fun e w' => e = .panicked [{ v := .iface 168 (.int .i64 2), recovered := false }] ∧ w' = w := by
  go_enter Tryd.func182, Tryd.ntmps182
  go_wp2_with (go_at_call 181; refine (mustDivide_no _).mono ?_; rintro e w' ⟨rfl, rfl⟩)
  exact ⟨rfl, rfl, rfl⟩
theorem cl9_shift (a b : Int) (h : b < 0 ∨ 31 < b) (w : World) :
    Calls Tryd.prog 186 #[.int .i64 a, .int .i64 b] w fun e w' => e = .panicked [{ v := .iface 168 (.int .i64 3), recovered := false }] ∧ w' = w := by
  have H : Hid (b < 0 ∨ 31 < b) := h
  clear h
  go_enter Tryd.func186, Tryd.ntmps186
  go_wp2_with (go_at_call 187; refine (mustShift_no _ H.out _).mono ?_; rintro e w' ⟨rfl, rfl⟩)
  exact ⟨rfl, rfl, rfl⟩
theorem cl10_shift (a b : Int) (h : b < 0 ∨ 31 < b) (w : World) :
    Calls Tryd.prog 188 #[.int .i64 a, .int .i64 b] w fun e w' => e = .panicked [{ v := .iface 168 (.int .i64 3), recovered := false }] ∧ w' = w := by
  have H : Hid (b < 0 ∨ 31 < b) := h
  clear h
  go_enter Tryd.func188, Tryd.ntmps188
  go_wp2_with (go_at_call 187; refine (mustShift_no _ H.out _).mono ?_; rintro e w' ⟨rfl, rfl⟩)
  exact ⟨rfl, rfl, rfl⟩
/-- The function literal of an operator. -/
def kOf (op : Int) : Nat :=
  if op = 1 then 177 else if op = 2 then 178 else if op = 3 then 179 else if op = 4 then 180 else if op = 5 then 182 else if op = 6 then 183 else if op = 7 then 184 else if op = 8 then 185 else if op = 9 then 186 else if op = 10 then 188 else if op = 11 then 189 else if op = 12 then 190 else 191
theorem kOf_1 : kOf 1 = 177 := by decide
theorem kOf_2 : kOf 2 = 178 := by decide
theorem kOf_3 : kOf 3 = 179 := by decide
theorem kOf_4 : kOf 4 = 180 := by decide
theorem kOf_5 : kOf 5 = 182 := by decide
theorem kOf_6 : kOf 6 = 183 := by decide
theorem kOf_7 : kOf 7 = 184 := by decide
theorem kOf_8 : kOf 8 = 185 := by decide
theorem kOf_9 : kOf 9 = 186 := by decide
theorem kOf_10 : kOf 10 = 188 := by decide
theorem kOf_11 : kOf 11 = 189 := by decide
theorem kOf_12 : kOf 12 = 190 := by decide
theorem kOf_13 : kOf 13 = 191 := by decide
theorem op_cases (op : Int) (h : inB op 1 13 = true) : op = 1 ∨ op = 2 ∨ op = 3 ∨ op = 4 ∨ op = 5 ∨ op = 6 ∨ op = 7 ∨ op = 8 ∨ op = 9 ∨ op = 10 ∨ op = 11 ∨ op = 12 ∨ op = 13 := by
  have := (inB_iff op 1 13).1 h
  omega
set_option maxRecDepth 100000 in
set_option maxHeartbeats 4000000 in
theorem oper_any (op : Int) (h : inB op 1 13 = true) (w : World) :
    Calls Tryd.prog 119 #[.int .i64 op] w fun e w' => e = .returned (.func (Fn.func (kOf op)) #[] #[]) ∧ Below w.heap.size w w' := by
  rcases op_cases op h with rfl | rfl | rfl | rfl | rfl | rfl | rfl | rfl | rfl | rfl | rfl | rfl | rfl
  all_goals
    simp only [kOf_1, kOf_2, kOf_3, kOf_4, kOf_5, kOf_6, kOf_7, kOf_8, kOf_9, kOf_10, kOf_11, kOf_12, kOf_13]
    go_enter Tryd.func119, Tryd.ntmps119
    go_wp2
    go_ret
    exact ⟨rfl, (Below.refl _ _).alloc (Nat.le_refl _) _⟩
set_option maxRecDepth 100000 in
theorem oper_none (op : Int) (h : inB op 1 13 = false) (w : World) :
    Calls Tryd.prog 119 #[.int .i64 op] w fun e w' => e = .returned .nilFunc ∧ Below w.heap.size w w' := by
  have h0 : op < 0 ∨ op = 0 ∨ 14 ≤ op := by rw [inB_not] at h; omega
  clear h
  rcases h0 with h | rfl | h
  · go_enter Tryd.func119, Tryd.ntmps119
    go_wp2
    go_ret
    exact ⟨rfl, (Below.refl _ _).alloc (Nat.le_refl _) _⟩
  · go_enter Tryd.func119, Tryd.ntmps119
    go_wp2
    go_ret
    exact ⟨rfl, (Below.refl _ _).alloc (Nat.le_refl _) _⟩
  · have h' : ¬ op < 0 := by omega
    go_enter Tryd.func119, Tryd.ntmps119
    go_wp2
    go_ret
    exact ⟨rfl, (Below.refl _ _).alloc (Nat.le_refl _) _⟩
theorem enter_1 (args : Array Value) (w : World) : (callFunc 177 args).run Tryd.prog w = .ok (.enter 177 args) w := by kernel_rfl
theorem enter_2 (args : Array Value) (w : World) : (callFunc 178 args).run Tryd.prog w = .ok (.enter 178 args) w := by kernel_rfl
theorem enter_3 (args : Array Value) (w : World) : (callFunc 179 args).run Tryd.prog w = .ok (.enter 179 args) w := by kernel_rfl
theorem enter_4 (args : Array Value) (w : World) : (callFunc 180 args).run Tryd.prog w = .ok (.enter 180 args) w := by kernel_rfl
theorem enter_5 (args : Array Value) (w : World) : (callFunc 182 args).run Tryd.prog w = .ok (.enter 182 args) w := by kernel_rfl
theorem enter_6 (args : Array Value) (w : World) : (callFunc 183 args).run Tryd.prog w = .ok (.enter 183 args) w := by kernel_rfl
theorem enter_7 (args : Array Value) (w : World) : (callFunc 184 args).run Tryd.prog w = .ok (.enter 184 args) w := by kernel_rfl
theorem enter_8 (args : Array Value) (w : World) : (callFunc 185 args).run Tryd.prog w = .ok (.enter 185 args) w := by kernel_rfl
theorem enter_9 (args : Array Value) (w : World) : (callFunc 186 args).run Tryd.prog w = .ok (.enter 186 args) w := by kernel_rfl
theorem enter_10 (args : Array Value) (w : World) : (callFunc 188 args).run Tryd.prog w = .ok (.enter 188 args) w := by kernel_rfl
theorem enter_11 (args : Array Value) (w : World) : (callFunc 189 args).run Tryd.prog w = .ok (.enter 189 args) w := by kernel_rfl
theorem enter_12 (args : Array Value) (w : World) : (callFunc 190 args).run Tryd.prog w = .ok (.enter 190 args) w := by kernel_rfl
theorem enter_13 (args : Array Value) (w : World) : (callFunc 191 args).run Tryd.prog w = .ok (.enter 191 args) w := by kernel_rfl
theorem enter_any (op : Int) (h : inB op 1 13 = true) (args : Array Value) (w : World) : (callFunc (kOf op) args).run Tryd.prog w = .ok (.enter (kOf op) args) w := by
  rcases op_cases op h with rfl | rfl | rfl | rfl | rfl | rfl | rfl | rfl | rfl | rfl | rfl | rfl | rfl
  · rw [kOf_1]; exact enter_1 _ _
  · rw [kOf_2]; exact enter_2 _ _
  · rw [kOf_3]; exact enter_3 _ _
  · rw [kOf_4]; exact enter_4 _ _
  · rw [kOf_5]; exact enter_5 _ _
  · rw [kOf_6]; exact enter_6 _ _
  · rw [kOf_7]; exact enter_7 _ _
  · rw [kOf_8]; exact enter_8 _ _
  · rw [kOf_9]; exact enter_9 _ _
  · rw [kOf_10]; exact enter_10 _ _
  · rw [kOf_11]; exact enter_11 _ _
  · rw [kOf_12]; exact enter_12 _ _
  · rw [kOf_13]; exact enter_13 _ _
/-- What an operator reckons where it has no fault of its own. -/
theorem reckon_any (op a b : Int) (h : inB op 1 13 = true) (ha1 : -2147483648 ≤ a) (ha2 : a ≤ 2147483647) (hb1 : -2147483648 ≤ b) (hb2 : b ≤ 2147483647) (h0 : ¬ ((op = 4 ∨ op = 5) ∧ b = 0)) (h1 : (op = 9 ∨ op = 10) → 0 ≤ b ∧ b ≤ 31) (w : World) :
    Calls Tryd.prog (kOf op) #[.int .i64 a, .int .i64 b] w fun e w' => e = .returned (.int .i64 (exactV op a b)) ∧ w' = w := by
  rcases op_cases op h with rfl | rfl | rfl | rfl | rfl | rfl | rfl | rfl | rfl | rfl | rfl | rfl | rfl
  · rw [kOf_1]; exact cl1_v a b ha1 ha2 hb1 hb2 w
  · rw [kOf_2]; exact cl2_v a b ha1 ha2 hb1 hb2 w
  · rw [kOf_3]; exact cl3_v a b ha1 ha2 hb1 hb2 w
  · rw [kOf_4]; exact cl4_v a b ha1 ha2 hb1 hb2 (fun e => h0 ⟨by omega, e⟩) w
  · rw [kOf_5]; exact cl5_v a b ha1 ha2 hb1 hb2 (fun e => h0 ⟨by omega, e⟩) w
  · rw [kOf_6]; exact cl6_v a b ha1 ha2 hb1 hb2 w
  · rw [kOf_7]; exact cl7_v a b ha1 ha2 hb1 hb2 w
  · rw [kOf_8]; exact cl8_v a b ha1 ha2 hb1 hb2 w
  · rw [kOf_9]; have s : 0 ≤ b ∧ b ≤ 31 := h1 (by omega)
    exact cl9_v a b ha1 ha2 hb1 hb2 s.1 s.2 w
  · rw [kOf_10]; have s : 0 ≤ b ∧ b ≤ 31 := h1 (by omega)
    exact cl10_v a b ha1 ha2 hb1 hb2 s.1 s.2 w
  · rw [kOf_11]; exact cl11_v a b ha1 ha2 hb1 hb2 w
  · rw [kOf_12]; exact cl12_v a b ha1 ha2 hb1 hb2 w
  · rw [kOf_13]; exact cl13_v a b ha1 ha2 hb1 hb2 w
theorem eql_func (K : Nat) (w : World) : (binOp BinOp.eql 103 (.func (Fn.func K) #[] #[]) .nilFunc).run Tryd.prog w = .ok (.bool false) w := by kernel_rfl
theorem eql_nil (w : World) : (binOp BinOp.eql 103 .nilFunc .nilFunc).run Tryd.prog w = .ok (.bool true) w := by kernel_rfl
end Go.Proofs.YthbbgkpkijlclaaDoor.num
