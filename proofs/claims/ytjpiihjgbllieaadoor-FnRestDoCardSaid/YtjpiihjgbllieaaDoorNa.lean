/-
  impl's operators, one function literal each, without bound: what each reckons, or panics with. The world stays as it was.
-/
import Derived.Test.YtjpiihjgbllieaaDoorSD
import Derived.Laws.EntriesVeiled
namespace Go.Proofs.YtjpiihjgbllieaaDoor.num
open Go.ChangeShapes Go.WideShapes Go.ChangeAt Go.RowKit
set_option linter.unusedVariables false
theorem mustFit_yes (v : Int) (h : okB v = true) (w : World) :
    Calls Tryd.prog 105 #[.int .i64 v] w fun e w' => e = .returned (.int .i64 v) ∧ w' = w := by
  go_enter Tryd.func105, Tryd.ntmps105
  go_wp2_with (go_at_call 68; refine (implOk_any _ _).mono ?_; rintro e w' ⟨rfl, rfl⟩)
  go_ret
  exact ⟨rfl, rfl⟩
theorem mustFit_no (v : Int) (h : okB v = false) (w : World) :
    Calls Tryd.prog 105 #[.int .i64 v] w fun e w' => e = .panicked [{ v := .iface 129 (.int .i64 1), recovered := false }] ∧ w' = w := by
  go_enter Tryd.func105, Tryd.ntmps105
  go_wp2_with (go_at_call 68; refine (implOk_any _ _).mono ?_; rintro e w' ⟨rfl, rfl⟩)
  exact ⟨rfl, rfl, rfl⟩
theorem mustDivide_yes (b : Int) (h : ¬ b = 0) (w : World) :
    Calls Tryd.prog 121 #[.int .i64 b] w fun e w' => e = .returned (.int .i64 b) ∧ w' = w := by
  go_enter Tryd.func121, Tryd.ntmps121
  go_wp2
  go_ret
  exact ⟨rfl, rfl⟩
theorem mustDivide_no (w : World) :
    Calls Tryd.prog 121 #[.int .i64 0] w fun e w' => e = .panicked [{ v := .iface 129 (.int .i64 2), recovered := false }] ∧ w' = w := by
  go_enter Tryd.func121, Tryd.ntmps121
  go_wp2
  exact ⟨rfl, rfl, rfl⟩
theorem mustShift_yes (b : Int) (h1 : 0 ≤ b) (h2 : b ≤ 31) (w : World) :
    Calls Tryd.prog 127 #[.int .i64 b] w fun e w' => e = .returned (.int .i64 b) ∧ w' = w := by
  go_enter Tryd.func127, Tryd.ntmps127
  go_wp2
  go_ret
  exact ⟨rfl, rfl⟩
theorem mustShift_no (b : Int) (h : b < 0 ∨ 31 < b) (w : World) :
    Calls Tryd.prog 127 #[.int .i64 b] w fun e w' => e = .panicked [{ v := .iface 129 (.int .i64 3), recovered := false }] ∧ w' = w := by
  rcases h with h | h
  · go_enter Tryd.func127, Tryd.ntmps127
    go_wp2
    exact ⟨rfl, rfl, rfl⟩
  · have h' : ¬ b < 0 := by omega
    go_enter Tryd.func127, Tryd.ntmps127
    go_wp2
    exact ⟨rfl, rfl, rfl⟩
theorem w64_mul {a b : Int} (h1 : -4611686018427387904 ≤ a * b) (h2 : a * b ≤ 4611686018427387904) : wrap64 (a * b) = a * b := w64_id (by omega) (by omega)
theorem cl1_v (a b : Int) (ha1 : -2147483648 ≤ a) (ha2 : a ≤ 2147483647) (hb1 : -2147483648 ≤ b) (hb2 : b ≤ 2147483647) (w : World) :
    Calls Tryd.prog 117 #[.int .i64 a, .int .i64 b] w fun e w' => e = .returned (.int .i64 (exactV 1 a b)) ∧ w' = w := by
  rw [exactV_1]
  have hw : wrap64 (a + b) = a + b := w64_id (by omega) (by omega)
  go_enter Tryd.func117, Tryd.ntmps117
  go_wp2
  go_ret
  exact ⟨rfl, rfl⟩
theorem cl2_v (a b : Int) (ha1 : -2147483648 ≤ a) (ha2 : a ≤ 2147483647) (hb1 : -2147483648 ≤ b) (hb2 : b ≤ 2147483647) (w : World) :
    Calls Tryd.prog 118 #[.int .i64 a, .int .i64 b] w fun e w' => e = .returned (.int .i64 (exactV 2 a b)) ∧ w' = w := by
  rw [exactV_2]
  have hw : wrap64 (a - b) = a - b := w64_id (by omega) (by omega)
  go_enter Tryd.func118, Tryd.ntmps118
  go_wp2
  go_ret
  exact ⟨rfl, rfl⟩
theorem cl11_v (a b : Int) (ha1 : -2147483648 ≤ a) (ha2 : a ≤ 2147483647) (hb1 : -2147483648 ≤ b) (hb2 : b ≤ 2147483647) (w : World) :
    Calls Tryd.prog 129 #[.int .i64 a, .int .i64 b] w fun e w' => e = .returned (.int .i64 (exactV 11 a b)) ∧ w' = w := by
  rw [exactV_11]
  have hw : wrap64 (a + b) = a + b := w64_id (by omega) (by omega)
  go_enter Tryd.func129, Tryd.ntmps129
  go_wp2
  go_ret
  exact ⟨rfl, rfl⟩
theorem cl12_v (a b : Int) (ha1 : -2147483648 ≤ a) (ha2 : a ≤ 2147483647) (hb1 : -2147483648 ≤ b) (hb2 : b ≤ 2147483647) (w : World) :
    Calls Tryd.prog 130 #[.int .i64 a, .int .i64 b] w fun e w' => e = .returned (.int .i64 (exactV 12 a b)) ∧ w' = w := by
  rw [exactV_12]
  have hw : wrap64 (a - b) = a - b := w64_id (by omega) (by omega)
  go_enter Tryd.func130, Tryd.ntmps130
  go_wp2
  go_ret
  exact ⟨rfl, rfl⟩
theorem cl3_v (a b : Int) (ha1 : -2147483648 ≤ a) (ha2 : a ≤ 2147483647) (hb1 : -2147483648 ≤ b) (hb2 : b ≤ 2147483647) (w : World) :
    Calls Tryd.prog 119 #[.int .i64 a, .int .i64 b] w fun e w' => e = .returned (.int .i64 (exactV 3 a b)) ∧ w' = w := by
  rw [exactV_3]
  obtain ⟨m2, m3⟩ := mul_bd a b ⟨ha1, ha2⟩ ⟨hb1, by omega⟩
  have hw : wrap64 (a * b) = a * b := w64_mul m2 m3
  go_enter Tryd.func119, Tryd.ntmps119
  go_wp2
  go_ret
  exact ⟨rfl, rfl⟩
theorem cl13_v (a b : Int) (ha1 : -2147483648 ≤ a) (ha2 : a ≤ 2147483647) (hb1 : -2147483648 ≤ b) (hb2 : b ≤ 2147483647) (w : World) :
    Calls Tryd.prog 131 #[.int .i64 a, .int .i64 b] w fun e w' => e = .returned (.int .i64 (exactV 13 a b)) ∧ w' = w := by
  rw [exactV_13]
  obtain ⟨m2, m3⟩ := mul_bd a b ⟨ha1, ha2⟩ ⟨hb1, by omega⟩
  have hw : wrap64 (a * b) = a * b := w64_mul m2 m3
  go_enter Tryd.func131, Tryd.ntmps131
  go_wp2
  go_ret
  exact ⟨rfl, rfl⟩
theorem cl4_v (a b : Int) (ha1 : -2147483648 ≤ a) (ha2 : a ≤ 2147483647) (hb1 : -2147483648 ≤ b) (hb2 : b ≤ 2147483647) (hb0 : ¬ b = 0) (w : World) :
    Calls Tryd.prog 120 #[.int .i64 a, .int .i64 b] w fun e w' => e = .returned (.int .i64 (exactV 4 a b)) ∧ w' = w := by
  rw [exactV_4]
  obtain ⟨d1, d2⟩ := tdiv_bd a b ⟨ha1, ha2⟩
  have hw : wrap64 (a.tdiv b) = a.tdiv b := w64_id (by omega) (by omega)
  go_enter Tryd.func120, Tryd.ntmps120
  go_wp2_with (go_at_call 121; refine (mustDivide_yes _ hb0 _).mono ?_; rintro e w' ⟨rfl, rfl⟩)
  go_ret
  exact ⟨rfl, rfl⟩
theorem cl5_v (a b : Int) (ha1 : -2147483648 ≤ a) (ha2 : a ≤ 2147483647) (hb1 : -2147483648 ≤ b) (hb2 : b ≤ 2147483647) (hb0 : ¬ b = 0) (w : World) :
    Calls Tryd.prog 122 #[.int .i64 a, .int .i64 b] w fun e w' => e = .returned (.int .i64 (exactV 5 a b)) ∧ w' = w := by
  rw [exactV_5]
  go_enter Tryd.func122, Tryd.ntmps122
  go_wp2_with (go_at_call 121; refine (mustDivide_yes _ hb0 _).mono ?_; rintro e w' ⟨rfl, rfl⟩)
  go_ret
  exact ⟨rfl, rfl⟩
theorem cl9_v (a b : Int) (ha1 : -2147483648 ≤ a) (ha2 : a ≤ 2147483647) (hb1 : -2147483648 ≤ b) (hb2 : b ≤ 2147483647) (s1 : 0 ≤ b) (s2 : b ≤ 31) (w : World) :
    Calls Tryd.prog 126 #[.int .i64 a, .int .i64 b] w fun e w' => e = .returned (.int .i64 (exactV 9 a b)) ∧ w' = w := by
  rw [exactV_9]
  have p1 := two_pow_pos b.toNat
  have p2 := two_pow_le b.toNat 31 (by omega)
  have e31 : (2 : Int) ^ 31 = 2147483648 := by decide
  obtain ⟨m2, m3⟩ := mul_bd a (2 ^ b.toNat) ⟨ha1, ha2⟩ ⟨by omega, by omega⟩
  clear p2 e31
  have hw : wrap64 (a * 2 ^ b.toNat) = a * 2 ^ b.toNat := w64_mul m2 m3
  go_enter Tryd.func126, Tryd.ntmps126
  go_wp2_with (go_at_call 127; refine (mustShift_yes _ s1 s2 _).mono ?_; rintro e w' ⟨rfl, rfl⟩)
  go_ret
  exact ⟨rfl, rfl⟩
theorem cl10_v (a b : Int) (ha1 : -2147483648 ≤ a) (ha2 : a ≤ 2147483647) (hb1 : -2147483648 ≤ b) (hb2 : b ≤ 2147483647) (s1 : 0 ≤ b) (s2 : b ≤ 31) (w : World) :
    Calls Tryd.prog 128 #[.int .i64 a, .int .i64 b] w fun e w' => e = .returned (.int .i64 (exactV 10 a b)) ∧ w' = w := by
  rw [exactV_10]
  go_enter Tryd.func128, Tryd.ntmps128
  go_wp2_with (go_at_call 127; refine (mustShift_yes _ s1 s2 _).mono ?_; rintro e w' ⟨rfl, rfl⟩)
  go_ret
  exact ⟨rfl, rfl⟩
theorem cl6_v (a b : Int) (ha1 : -2147483648 ≤ a) (ha2 : a ≤ 2147483647) (hb1 : -2147483648 ≤ b) (hb2 : b ≤ 2147483647) (w : World) :
    Calls Tryd.prog 123 #[.int .i64 a, .int .i64 b] w fun e w' => e = .returned (.int .i64 (exactV 6 a b)) ∧ w' = w := by
  have e1 : bits .and .i64 a b = exactV 6 a b := by rw [exactV_6, and_low a b ⟨ha1, ha2⟩ ⟨hb1, hb2⟩]; rfl
  rw [← e1]
  clear e1
  go_enter Tryd.func123, Tryd.ntmps123
  go_wp2
  go_ret
  exact ⟨rfl, rfl⟩
theorem cl7_v (a b : Int) (ha1 : -2147483648 ≤ a) (ha2 : a ≤ 2147483647) (hb1 : -2147483648 ≤ b) (hb2 : b ≤ 2147483647) (w : World) :
    Calls Tryd.prog 124 #[.int .i64 a, .int .i64 b] w fun e w' => e = .returned (.int .i64 (exactV 7 a b)) ∧ w' = w := by
  have e1 : bits .or .i64 a b = exactV 7 a b := by rw [exactV_7, or_low a b ⟨ha1, ha2⟩ ⟨hb1, hb2⟩]; rfl
  rw [← e1]
  clear e1
  go_enter Tryd.func124, Tryd.ntmps124
  go_wp2
  go_ret
  exact ⟨rfl, rfl⟩
theorem cl8_v (a b : Int) (ha1 : -2147483648 ≤ a) (ha2 : a ≤ 2147483647) (hb1 : -2147483648 ≤ b) (hb2 : b ≤ 2147483647) (w : World) :
    Calls Tryd.prog 125 #[.int .i64 a, .int .i64 b] w fun e w' => e = .returned (.int .i64 (exactV 8 a b)) ∧ w' = w := by
  have e1 : bits .xor .i64 a b = exactV 8 a b := by rw [exactV_8, xor_low a b ⟨ha1, ha2⟩ ⟨hb1, hb2⟩]; rfl
  rw [← e1]
  clear e1
  go_enter Tryd.func125, Tryd.ntmps125
  go_wp2
  go_ret
  exact ⟨rfl, rfl⟩
theorem cl4_zero (a : Int) (w : World) :
    Calls Tryd.prog 120 #[.int .i64 a, .int .i64 0] w fun e w' => e = .panicked [{ v := .iface 129 (.int .i64 2), recovered := false }] ∧ w' = w := by
  go_enter Tryd.func120, Tryd.ntmps120
  go_wp2_with (go_at_call 121; refine (mustDivide_no _).mono ?_; rintro e w' ⟨rfl, rfl⟩)
  exact ⟨rfl, rfl, rfl⟩
theorem cl5_zero (a : Int) (w : World) :
    Calls Tryd.prog 122 #[.int .i64 a, .int .i64 0] w fun e w' => e = .panicked [{ v := .iface 129 (.int .i64 2), recovered := false }] ∧ w' = w := by
  go_enter Tryd.func122, Tryd.ntmps122
  go_wp2_with (go_at_call 121; refine (mustDivide_no _).mono ?_; rintro e w' ⟨rfl, rfl⟩)
  exact ⟨rfl, rfl, rfl⟩
theorem cl9_shift (a b : Int) (h : b < 0 ∨ 31 < b) (w : World) :
    Calls Tryd.prog 126 #[.int .i64 a, .int .i64 b] w fun e w' => e = .panicked [{ v := .iface 129 (.int .i64 3), recovered := false }] ∧ w' = w := by
  have H : Hid (b < 0 ∨ 31 < b) := h
  clear h
  go_enter Tryd.func126, Tryd.ntmps126
  go_wp2_with (go_at_call 127; refine (mustShift_no _ H.out _).mono ?_; rintro e w' ⟨rfl, rfl⟩)
  exact ⟨rfl, rfl, rfl⟩
theorem cl10_shift (a b : Int) (h : b < 0 ∨ 31 < b) (w : World) :
    Calls Tryd.prog 128 #[.int .i64 a, .int .i64 b] w fun e w' => e = .panicked [{ v := .iface 129 (.int .i64 3), recovered := false }] ∧ w' = w := by
  have H : Hid (b < 0 ∨ 31 < b) := h
  clear h
  go_enter Tryd.func128, Tryd.ntmps128
  go_wp2_with (go_at_call 127; refine (mustShift_no _ H.out _).mono ?_; rintro e w' ⟨rfl, rfl⟩)
  exact ⟨rfl, rfl, rfl⟩
/-- The function literal of an operator. -/
def kOf (op : Int) : Nat :=
  if op = 1 then 117 else if op = 2 then 118 else if op = 3 then 119 else if op = 4 then 120 else if op = 5 then 122 else if op = 6 then 123 else if op = 7 then 124 else if op = 8 then 125 else if op = 9 then 126 else if op = 10 then 128 else if op = 11 then 129 else if op = 12 then 130 else 131
theorem kOf_1 : kOf 1 = 117 := by decide
theorem kOf_2 : kOf 2 = 118 := by decide
theorem kOf_3 : kOf 3 = 119 := by decide
theorem kOf_4 : kOf 4 = 120 := by decide
theorem kOf_5 : kOf 5 = 122 := by decide
theorem kOf_6 : kOf 6 = 123 := by decide
theorem kOf_7 : kOf 7 = 124 := by decide
theorem kOf_8 : kOf 8 = 125 := by decide
theorem kOf_9 : kOf 9 = 126 := by decide
theorem kOf_10 : kOf 10 = 128 := by decide
theorem kOf_11 : kOf 11 = 129 := by decide
theorem kOf_12 : kOf 12 = 130 := by decide
theorem kOf_13 : kOf 13 = 131 := by decide
theorem op_cases (op : Int) (h : inB op 1 13 = true) : op = 1 ∨ op = 2 ∨ op = 3 ∨ op = 4 ∨ op = 5 ∨ op = 6 ∨ op = 7 ∨ op = 8 ∨ op = 9 ∨ op = 10 ∨ op = 11 ∨ op = 12 ∨ op = 13 := by
  have := (inB_iff op 1 13).1 h
  omega
set_option maxRecDepth 100000 in
set_option maxHeartbeats 4000000 in
theorem oper_any (op : Int) (h : inB op 1 13 = true) (w : World) :
    Calls Tryd.prog 58 #[.int .i64 op] w fun e w' => e = .returned (.func (Fn.func (kOf op)) #[] #[]) ∧ Below w.heap.size w w' := by
  rcases op_cases op h with rfl | rfl | rfl | rfl | rfl | rfl | rfl | rfl | rfl | rfl | rfl | rfl | rfl
  all_goals
    simp only [kOf_1, kOf_2, kOf_3, kOf_4, kOf_5, kOf_6, kOf_7, kOf_8, kOf_9, kOf_10, kOf_11, kOf_12, kOf_13]
    go_enter Tryd.func58, Tryd.ntmps58
    go_wp2
    go_ret
    exact ⟨rfl, (Below.refl _ _).alloc (Nat.le_refl _) _⟩
set_option maxRecDepth 100000 in
theorem oper_none (op : Int) (h : inB op 1 13 = false) (w : World) :
    Calls Tryd.prog 58 #[.int .i64 op] w fun e w' => e = .returned .nilFunc ∧ Below w.heap.size w w' := by
  have h0 : op < 0 ∨ op = 0 ∨ 14 ≤ op := by rw [inB_not] at h; omega
  clear h
  rcases h0 with h | rfl | h
  · go_enter Tryd.func58, Tryd.ntmps58
    go_wp2
    go_ret
    exact ⟨rfl, (Below.refl _ _).alloc (Nat.le_refl _) _⟩
  · go_enter Tryd.func58, Tryd.ntmps58
    go_wp2
    go_ret
    exact ⟨rfl, (Below.refl _ _).alloc (Nat.le_refl _) _⟩
  · have h' : ¬ op < 0 := by omega
    go_enter Tryd.func58, Tryd.ntmps58
    go_wp2
    go_ret
    exact ⟨rfl, (Below.refl _ _).alloc (Nat.le_refl _) _⟩
theorem enter_1 (args : Array Value) (w : World) : (callFunc 117 args).run Tryd.prog w = .ok (.enter 117 args) w := by kernel_rfl
theorem enter_2 (args : Array Value) (w : World) : (callFunc 118 args).run Tryd.prog w = .ok (.enter 118 args) w := by kernel_rfl
theorem enter_3 (args : Array Value) (w : World) : (callFunc 119 args).run Tryd.prog w = .ok (.enter 119 args) w := by kernel_rfl
theorem enter_4 (args : Array Value) (w : World) : (callFunc 120 args).run Tryd.prog w = .ok (.enter 120 args) w := by kernel_rfl
theorem enter_5 (args : Array Value) (w : World) : (callFunc 122 args).run Tryd.prog w = .ok (.enter 122 args) w := by kernel_rfl
theorem enter_6 (args : Array Value) (w : World) : (callFunc 123 args).run Tryd.prog w = .ok (.enter 123 args) w := by kernel_rfl
theorem enter_7 (args : Array Value) (w : World) : (callFunc 124 args).run Tryd.prog w = .ok (.enter 124 args) w := by kernel_rfl
theorem enter_8 (args : Array Value) (w : World) : (callFunc 125 args).run Tryd.prog w = .ok (.enter 125 args) w := by kernel_rfl
theorem enter_9 (args : Array Value) (w : World) : (callFunc 126 args).run Tryd.prog w = .ok (.enter 126 args) w := by kernel_rfl
theorem enter_10 (args : Array Value) (w : World) : (callFunc 128 args).run Tryd.prog w = .ok (.enter 128 args) w := by kernel_rfl
theorem enter_11 (args : Array Value) (w : World) : (callFunc 129 args).run Tryd.prog w = .ok (.enter 129 args) w := by kernel_rfl
theorem enter_12 (args : Array Value) (w : World) : (callFunc 130 args).run Tryd.prog w = .ok (.enter 130 args) w := by kernel_rfl
theorem enter_13 (args : Array Value) (w : World) : (callFunc 131 args).run Tryd.prog w = .ok (.enter 131 args) w := by kernel_rfl
theorem enter_any (op : Int) (h : inB op 1 13 = true) (args : Array Value) (w : World) : (callFunc (kOf op) args).run Tryd.prog w = .ok (.enter (kOf op) args) w := by
  rcases op_cases op h with rfl | rfl | rfl | rfl | rfl | rfl | rfl | rfl | rfl | rfl | rfl | rfl | rfl
  · rw [kOf_1]; exact enter_1 _ _
  · rw [kOf_2]; exact enter_2 _ _
  · rw [kOf_3]; exact enter_3 _ _
  · rw [kOf_4]; exact enter_4 _ _
  · rw [kOf_5]; exact enter_5 _ _
  · rw [kOf_6]; exact enter_6 _ _
  · rw [kOf_7]; exact enter_7 _ _
  · rw [kOf_8]; exact enter_8 _ _
  · rw [kOf_9]; exact enter_9 _ _
  · rw [kOf_10]; exact enter_10 _ _
  · rw [kOf_11]; exact enter_11 _ _
  · rw [kOf_12]; exact enter_12 _ _
  · rw [kOf_13]; exact enter_13 _ _
/-- What an operator reckons where it has no fault of its own. -/
theorem reckon_any (op a b : Int) (h : inB op 1 13 = true) (ha1 : -2147483648 ≤ a) (ha2 : a ≤ 2147483647) (hb1 : -2147483648 ≤ b) (hb2 : b ≤ 2147483647) (h0 : ¬ ((op = 4 ∨ op = 5) ∧ b = 0)) (h1 : (op = 9 ∨ op = 10) → 0 ≤ b ∧ b ≤ 31) (w : World) :
    Calls Tryd.prog (kOf op) #[.int .i64 a, .int .i64 b] w fun e w' => e = .returned (.int .i64 (exactV op a b)) ∧ w' = w := by
  rcases op_cases op h with rfl | rfl | rfl | rfl | rfl | rfl | rfl | rfl | rfl | rfl | rfl | rfl | rfl
  · rw [kOf_1]; exact cl1_v a b ha1 ha2 hb1 hb2 w
  · rw [kOf_2]; exact cl2_v a b ha1 ha2 hb1 hb2 w
  · rw [kOf_3]; exact cl3_v a b ha1 ha2 hb1 hb2 w
  · rw [kOf_4]; exact cl4_v a b ha1 ha2 hb1 hb2 (fun e => h0 ⟨by omega, e⟩) w
  · rw [kOf_5]; exact cl5_v a b ha1 ha2 hb1 hb2 (fun e => h0 ⟨by omega, e⟩) w
  · rw [kOf_6]; exact cl6_v a b ha1 ha2 hb1 hb2 w
  · rw [kOf_7]; exact cl7_v a b ha1 ha2 hb1 hb2 w
  · rw [kOf_8]; exact cl8_v a b ha1 ha2 hb1 hb2 w
  · rw [kOf_9]; have s : 0 ≤ b ∧ b ≤ 31 := h1 (by omega)
    exact cl9_v a b ha1 ha2 hb1 hb2 s.1 s.2 w
  · rw [kOf_10]; have s : 0 ≤ b ∧ b ≤ 31 := h1 (by omega)
    exact cl10_v a b ha1 ha2 hb1 hb2 s.1 s.2 w
  · rw [kOf_11]; exact cl11_v a b ha1 ha2 hb1 hb2 w
  · rw [kOf_12]; exact cl12_v a b ha1 ha2 hb1 hb2 w
  · rw [kOf_13]; exact cl13_v a b ha1 ha2 hb1 hb2 w
theorem eql_func (K : Nat) (w : World) : (binOp BinOp.eql 72 (.func (Fn.func K) #[] #[]) .nilFunc).run Tryd.prog w = .ok (.bool false) w := by kernel_rfl
theorem eql_nil (w : World) : (binOp BinOp.eql 72 .nilFunc .nilFunc).run Tryd.prog w = .ok (.bool true) w := by kernel_rfl
end Go.Proofs.YtjpiihjgbllieaaDoor.num
