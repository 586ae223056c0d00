/-
  impl's NumDo tells the number and the fault of the model's, whatever the three ints are; old memory stays as it was.
-/
import Derived.Test.YtfkmnbldadpaaaaOper
namespace Go.Proofs.Ytfkmnbldadpaaaa.num
open Go.ChangeShapes Go.WideShapes Go.ChangeAt Go.RowKit
set_option linter.unusedVariables false
theorem tmod_ok (a b : Int) (ha1 : -2147483648 ≤ a) (ha2 : a ≤ 2147483647) : okB (a.tmod b) = true := by
  rw [okB_iff]
  have h := Int.natAbs_tmod a b
  have h2 : a.natAbs % b.natAbs ≤ a.natAbs := Nat.mod_le _ _
  have h3 := Int.tmod_nonneg (a := a) b
  by_cases h0 : 0 ≤ a
  · have := h3 h0; omega
  · have h4 := Int.tmod_nonneg (a := -a) b (by omega)
    rw [Int.neg_tmod] at h4
    omega
theorem w32_ok (v : Int) : okB (wrap32 v) = true := by rw [okB_iff]; unfold wrap32; omega
theorem exactV_ok5 (a b : Int) (ha1 : -2147483648 ≤ a) (ha2 : a ≤ 2147483647) : okB (exactV 5 a b) = true := by rw [exactV_5]; exact tmod_ok a b ha1 ha2
theorem exactV_ok6 (a b : Int) : okB (exactV 6 a b) = true := by rw [exactV_6]; exact w32_ok _
theorem exactV_ok7 (a b : Int) : okB (exactV 7 a b) = true := by rw [exactV_7]; exact w32_ok _
theorem exactV_ok8 (a b : Int) : okB (exactV 8 a b) = true := by rw [exactV_8]; exact w32_ok _
theorem exactV_ok10 (a b : Int) (ha1 : -2147483648 ≤ a) (ha2 : a ≤ 2147483647) : okB (exactV 10 a b) = true := by
  rw [exactV_10, okB_iff]; exact div_bd a _ (two_pow_pos _) ha1 ha2
theorem numDo_out (op a b : Int) (h : inB op 1 13 = false ∨ okB a = false ∨ okB b = false) : numDo op a b = (0, 0) := by
  unfold numDo; rw [if_pos h]
theorem implDo_1 (a b : Int) (hA : okB a = true) (hB : okB b = true) (w : World) :
    Calls Try.prog 11 #[.int .i64 1, .int .i64 a, .int .i64 b] w fun e w' => e = .returned (.tuple #[.int .i64 (numDo 1 a b).1, .int .i64 (numDo 1 a b).2]) ∧ Below w.heap.size w w' := by
  have hO : inB 1 1 13 = true := by decide
  have hef := eql_func
  obtain ⟨ha1, ha2⟩ := (okB_iff a).1 hA
  obtain ⟨hb1, hb2⟩ := (okB_iff b).1 hB
  cases hV : okB (exactV 1 a b)
  · have e : numDo 1 a b = (0, 1) := by simp [numDo, hO, hA, hB, hV]
    have HV := hide hV
    clear hV
    rw [e]
    clear e
    go_enter Try.func11, Try.ntmps11
    go_wp2_with fail
    refine (oper_1 _).mono ?_
    rintro e w1 ⟨rfl, hb⟩
    have HB := hide hb
    clear hb
    go_wp2_with (go_at_call 13; refine (implOk_any _ _).mono ?_; rintro e w' ⟨rfl, rfl⟩)
    refine (try_no 32 a b 1 enter_1 (hide (cl1_no a b ha1 ha2 hb1 hb2 (unhide HV))) _).mono ?_
    rintro e w2 ⟨rfl, hb2⟩
    have HB2 := hide hb2
    clear hb2
    go_wp2
    go_ret2
    exact ⟨rfl, (unhide HB).trans ((unhide HB2).mono (unhide HB).size)⟩
  · have e : numDo 1 a b = (exactV 1 a b, 0) := by simp [numDo, hO, hA, hB, hV]
    have HV := hide hV
    clear hV
    rw [e]
    clear e
    go_enter Try.func11, Try.ntmps11
    go_wp2_with fail
    refine (oper_1 _).mono ?_
    rintro e w1 ⟨rfl, hb⟩
    have HB := hide hb
    clear hb
    go_wp2_with (go_at_call 13; refine (implOk_any _ _).mono ?_; rintro e w' ⟨rfl, rfl⟩)
    refine (try_ok 32 a b _ enter_1 (hide (cl1_ok a b ha1 ha2 hb1 hb2 (unhide HV))) _).mono ?_
    rintro e w2 ⟨rfl, hb2⟩
    have HB2 := hide hb2
    clear hb2
    go_wp2
    go_ret2
    exact ⟨rfl, (unhide HB).trans ((unhide HB2).mono (unhide HB).size)⟩
theorem implDo_2 (a b : Int) (hA : okB a = true) (hB : okB b = true) (w : World) :
    Calls Try.prog 11 #[.int .i64 2, .int .i64 a, .int .i64 b] w fun e w' => e = .returned (.tuple #[.int .i64 (numDo 2 a b).1, .int .i64 (numDo 2 a b).2]) ∧ Below w.heap.size w w' := by
  have hO : inB 2 1 13 = true := by decide
  have hef := eql_func
  obtain ⟨ha1, ha2⟩ := (okB_iff a).1 hA
  obtain ⟨hb1, hb2⟩ := (okB_iff b).1 hB
  cases hV : okB (exactV 2 a b)
  · have e : numDo 2 a b = (0, 1) := by simp [numDo, hO, hA, hB, hV]
    have HV := hide hV
    clear hV
    rw [e]
    clear e
    go_enter Try.func11, Try.ntmps11
    go_wp2_with fail
    refine (oper_2 _).mono ?_
    rintro e w1 ⟨rfl, hb⟩
    have HB := hide hb
    clear hb
    go_wp2_with (go_at_call 13; refine (implOk_any _ _).mono ?_; rintro e w' ⟨rfl, rfl⟩)
    refine (try_no 34 a b 1 enter_2 (hide (cl2_no a b ha1 ha2 hb1 hb2 (unhide HV))) _).mono ?_
    rintro e w2 ⟨rfl, hb2⟩
    have HB2 := hide hb2
    clear hb2
    go_wp2
    go_ret2
    exact ⟨rfl, (unhide HB).trans ((unhide HB2).mono (unhide HB).size)⟩
  · have e : numDo 2 a b = (exactV 2 a b, 0) := by simp [numDo, hO, hA, hB, hV]
    have HV := hide hV
    clear hV
    rw [e]
    clear e
    go_enter Try.func11, Try.ntmps11
    go_wp2_with fail
    refine (oper_2 _).mono ?_
    rintro e w1 ⟨rfl, hb⟩
    have HB := hide hb
    clear hb
    go_wp2_with (go_at_call 13; refine (implOk_any _ _).mono ?_; rintro e w' ⟨rfl, rfl⟩)
    refine (try_ok 34 a b _ enter_2 (hide (cl2_ok a b ha1 ha2 hb1 hb2 (unhide HV))) _).mono ?_
    rintro e w2 ⟨rfl, hb2⟩
    have HB2 := hide hb2
    clear hb2
    go_wp2
    go_ret2
    exact ⟨rfl, (unhide HB).trans ((unhide HB2).mono (unhide HB).size)⟩
theorem implDo_3 (a b : Int) (hA : okB a = true) (hB : okB b = true) (w : World) :
    Calls Try.prog 11 #[.int .i64 3, .int .i64 a, .int .i64 b] w fun e w' => e = .returned (.tuple #[.int .i64 (numDo 3 a b).1, .int .i64 (numDo 3 a b).2]) ∧ Below w.heap.size w w' := by
  have hO : inB 3 1 13 = true := by decide
  have hef := eql_func
  obtain ⟨ha1, ha2⟩ := (okB_iff a).1 hA
  obtain ⟨hb1, hb2⟩ := (okB_iff b).1 hB
  cases hV : okB (exactV 3 a b)
  · have e : numDo 3 a b = (0, 1) := by simp [numDo, hO, hA, hB, hV]
    have HV := hide hV
    clear hV
    rw [e]
    clear e
    go_enter Try.func11, Try.ntmps11
    go_wp2_with fail
    refine (oper_3 _).mono ?_
    rintro e w1 ⟨rfl, hb⟩
    have HB := hide hb
    clear hb
    go_wp2_with (go_at_call 13; refine (implOk_any _ _).mono ?_; rintro e w' ⟨rfl, rfl⟩)
    refine (try_no 35 a b 1 enter_3 (hide (cl3_no a b ha1 ha2 hb1 hb2 (unhide HV))) _).mono ?_
    rintro e w2 ⟨rfl, hb2⟩
    have HB2 := hide hb2
    clear hb2
    go_wp2
    go_ret2
    exact ⟨rfl, (unhide HB).trans ((unhide HB2).mono (unhide HB).size)⟩
  · have e : numDo 3 a b = (exactV 3 a b, 0) := by simp [numDo, hO, hA, hB, hV]
    have HV := hide hV
    clear hV
    rw [e]
    clear e
    go_enter Try.func11, Try.ntmps11
    go_wp2_with fail
    refine (oper_3 _).mono ?_
    rintro e w1 ⟨rfl, hb⟩
    have HB := hide hb
    clear hb
    go_wp2_with (go_at_call 13; refine (implOk_any _ _).mono ?_; rintro e w' ⟨rfl, rfl⟩)
    refine (try_ok 35 a b _ enter_3 (hide (cl3_ok a b ha1 ha2 hb1 hb2 (unhide HV))) _).mono ?_
    rintro e w2 ⟨rfl, hb2⟩
    have HB2 := hide hb2
    clear hb2
    go_wp2
    go_ret2
    exact ⟨rfl, (unhide HB).trans ((unhide HB2).mono (unhide HB).size)⟩
theorem implDo_4 (a b : Int) (hA : okB a = true) (hB : okB b = true) (w : World) :
    Calls Try.prog 11 #[.int .i64 4, .int .i64 a, .int .i64 b] w fun e w' => e = .returned (.tuple #[.int .i64 (numDo 4 a b).1, .int .i64 (numDo 4 a b).2]) ∧ Below w.heap.size w w' := by
  have hO : inB 4 1 13 = true := by decide
  have hef := eql_func
  obtain ⟨ha1, ha2⟩ := (okB_iff a).1 hA
  obtain ⟨hb1, hb2⟩ := (okB_iff b).1 hB
  by_cases hb0 : b = 0
  · subst hb0
    have e : numDo 4 a 0 = (0, 2) := by simp [numDo, hO, hA, hB]
    rw [e]
    clear e
    go_enter Try.func11, Try.ntmps11
    go_wp2_with fail
    refine (oper_4 _).mono ?_
    rintro e w1 ⟨rfl, hb⟩
    have HB := hide hb
    clear hb
    go_wp2_with (go_at_call 13; refine (implOk_any _ _).mono ?_; rintro e w' ⟨rfl, rfl⟩)
    refine (try_no 36 a 0 2 enter_4 (hide (cl4_zero a)) _).mono ?_
    rintro e w2 ⟨rfl, hb2⟩
    have HB2 := hide hb2
    clear hb2
    go_wp2
    go_ret2
    exact ⟨rfl, (unhide HB).trans ((unhide HB2).mono (unhide HB).size)⟩
  cases hV : okB (exactV 4 a b)
  · have e : numDo 4 a b = (0, 1) := by simp [numDo, hO, hA, hB, hV, hb0]
    have HV := hide hV
    clear hV
    rw [e]
    clear e
    go_enter Try.func11, Try.ntmps11
    go_wp2_with fail
    refine (oper_4 _).mono ?_
    rintro e w1 ⟨rfl, hb⟩
    have HB := hide hb
    clear hb
    go_wp2_with (go_at_call 13; refine (implOk_any _ _).mono ?_; rintro e w' ⟨rfl, rfl⟩)
    refine (try_no 36 a b 1 enter_4 (hide (cl4_no a b ha1 ha2 hb1 hb2 hb0 (unhide HV))) _).mono ?_
    rintro e w2 ⟨rfl, hb2⟩
    have HB2 := hide hb2
    clear hb2
    go_wp2
    go_ret2
    exact ⟨rfl, (unhide HB).trans ((unhide HB2).mono (unhide HB).size)⟩
  · have e : numDo 4 a b = (exactV 4 a b, 0) := by simp [numDo, hO, hA, hB, hV, hb0]
    have HV := hide hV
    clear hV
    rw [e]
    clear e
    go_enter Try.func11, Try.ntmps11
    go_wp2_with fail
    refine (oper_4 _).mono ?_
    rintro e w1 ⟨rfl, hb⟩
    have HB := hide hb
    clear hb
    go_wp2_with (go_at_call 13; refine (implOk_any _ _).mono ?_; rintro e w' ⟨rfl, rfl⟩)
    refine (try_ok 36 a b _ enter_4 (hide (cl4_ok a b ha1 ha2 hb1 hb2 hb0 (unhide HV))) _).mono ?_
    rintro e w2 ⟨rfl, hb2⟩
    have HB2 := hide hb2
    clear hb2
    go_wp2
    go_ret2
    exact ⟨rfl, (unhide HB).trans ((unhide HB2).mono (unhide HB).size)⟩
theorem implDo_5 (a b : Int) (hA : okB a = true) (hB : okB b = true) (w : World) :
    Calls Try.prog 11 #[.int .i64 5, .int .i64 a, .int .i64 b] w fun e w' => e = .returned (.tuple #[.int .i64 (numDo 5 a b).1, .int .i64 (numDo 5 a b).2]) ∧ Below w.heap.size w w' := by
  have hO : inB 5 1 13 = true := by decide
  have hef := eql_func
  obtain ⟨ha1, ha2⟩ := (okB_iff a).1 hA
  obtain ⟨hb1, hb2⟩ := (okB_iff b).1 hB
  by_cases hb0 : b = 0
  · subst hb0
    have e : numDo 5 a 0 = (0, 2) := by simp [numDo, hO, hA, hB]
    rw [e]
    clear e
    go_enter Try.func11, Try.ntmps11
    go_wp2_with fail
    refine (oper_5 _).mono ?_
    rintro e w1 ⟨rfl, hb⟩
    have HB := hide hb
    clear hb
    go_wp2_with (go_at_call 13; refine (implOk_any _ _).mono ?_; rintro e w' ⟨rfl, rfl⟩)
    refine (try_no 38 a 0 2 enter_5 (hide (cl5_zero a)) _).mono ?_
    rintro e w2 ⟨rfl, hb2⟩
    have HB2 := hide hb2
    clear hb2
    go_wp2
    go_ret2
    exact ⟨rfl, (unhide HB).trans ((unhide HB2).mono (unhide HB).size)⟩
  · have e : numDo 5 a b = (exactV 5 a b, 0) := by simp [numDo, hO, hA, hB, exactV_ok5 a b ha1 ha2, hb0]
    rw [e]
    clear e
    go_enter Try.func11, Try.ntmps11
    go_wp2_with fail
    refine (oper_5 _).mono ?_
    rintro e w1 ⟨rfl, hb⟩
    have HB := hide hb
    clear hb
    go_wp2_with (go_at_call 13; refine (implOk_any _ _).mono ?_; rintro e w' ⟨rfl, rfl⟩)
    refine (try_ok 38 a b _ enter_5 (hide (cl5_ok a b ha1 ha2 hb1 hb2 hb0)) _).mono ?_
    rintro e w2 ⟨rfl, hb2⟩
    have HB2 := hide hb2
    clear hb2
    go_wp2
    go_ret2
    exact ⟨rfl, (unhide HB).trans ((unhide HB2).mono (unhide HB).size)⟩
theorem implDo_6 (a b : Int) (hA : okB a = true) (hB : okB b = true) (w : World) :
    Calls Try.prog 11 #[.int .i64 6, .int .i64 a, .int .i64 b] w fun e w' => e = .returned (.tuple #[.int .i64 (numDo 6 a b).1, .int .i64 (numDo 6 a b).2]) ∧ Below w.heap.size w w' := by
  have hO : inB 6 1 13 = true := by decide
  have hef := eql_func
  obtain ⟨ha1, ha2⟩ := (okB_iff a).1 hA
  obtain ⟨hb1, hb2⟩ := (okB_iff b).1 hB
  · have e : numDo 6 a b = (exactV 6 a b, 0) := by simp [numDo, hO, hA, hB, exactV_ok6 a b]
    rw [e]
    clear e
    go_enter Try.func11, Try.ntmps11
    go_wp2_with fail
    refine (oper_6 _).mono ?_
    rintro e w1 ⟨rfl, hb⟩
    have HB := hide hb
    clear hb
    go_wp2_with (go_at_call 13; refine (implOk_any _ _).mono ?_; rintro e w' ⟨rfl, rfl⟩)
    refine (try_ok 39 a b _ enter_6 (hide (cl6_ok a b ha1 ha2 hb1 hb2)) _).mono ?_
    rintro e w2 ⟨rfl, hb2⟩
    have HB2 := hide hb2
    clear hb2
    go_wp2
    go_ret2
    exact ⟨rfl, (unhide HB).trans ((unhide HB2).mono (unhide HB).size)⟩
theorem implDo_7 (a b : Int) (hA : okB a = true) (hB : okB b = true) (w : World) :
    Calls Try.prog 11 #[.int .i64 7, .int .i64 a, .int .i64 b] w fun e w' => e = .returned (.tuple #[.int .i64 (numDo 7 a b).1, .int .i64 (numDo 7 a b).2]) ∧ Below w.heap.size w w' := by
  have hO : inB 7 1 13 = true := by decide
  have hef := eql_func
  obtain ⟨ha1, ha2⟩ := (okB_iff a).1 hA
  obtain ⟨hb1, hb2⟩ := (okB_iff b).1 hB
  · have e : numDo 7 a b = (exactV 7 a b, 0) := by simp [numDo, hO, hA, hB, exactV_ok7 a b]
    rw [e]
    clear e
    go_enter Try.func11, Try.ntmps11
    go_wp2_with fail
    refine (oper_7 _).mono ?_
    rintro e w1 ⟨rfl, hb⟩
    have HB := hide hb
    clear hb
    go_wp2_with (go_at_call 13; refine (implOk_any _ _).mono ?_; rintro e w' ⟨rfl, rfl⟩)
    refine (try_ok 40 a b _ enter_7 (hide (cl7_ok a b ha1 ha2 hb1 hb2)) _).mono ?_
    rintro e w2 ⟨rfl, hb2⟩
    have HB2 := hide hb2
    clear hb2
    go_wp2
    go_ret2
    exact ⟨rfl, (unhide HB).trans ((unhide HB2).mono (unhide HB).size)⟩
theorem implDo_8 (a b : Int) (hA : okB a = true) (hB : okB b = true) (w : World) :
    Calls Try.prog 11 #[.int .i64 8, .int .i64 a, .int .i64 b] w fun e w' => e = .returned (.tuple #[.int .i64 (numDo 8 a b).1, .int .i64 (numDo 8 a b).2]) ∧ Below w.heap.size w w' := by
  have hO : inB 8 1 13 = true := by decide
  have hef := eql_func
  obtain ⟨ha1, ha2⟩ := (okB_iff a).1 hA
  obtain ⟨hb1, hb2⟩ := (okB_iff b).1 hB
  · have e : numDo 8 a b = (exactV 8 a b, 0) := by simp [numDo, hO, hA, hB, exactV_ok8 a b]
    rw [e]
    clear e
    go_enter Try.func11, Try.ntmps11
    go_wp2_with fail
    refine (oper_8 _).mono ?_
    rintro e w1 ⟨rfl, hb⟩
    have HB := hide hb
    clear hb
    go_wp2_with (go_at_call 13; refine (implOk_any _ _).mono ?_; rintro e w' ⟨rfl, rfl⟩)
    refine (try_ok 41 a b _ enter_8 (hide (cl8_ok a b ha1 ha2 hb1 hb2)) _).mono ?_
    rintro e w2 ⟨rfl, hb2⟩
    have HB2 := hide hb2
    clear hb2
    go_wp2
    go_ret2
    exact ⟨rfl, (unhide HB).trans ((unhide HB2).mono (unhide HB).size)⟩
theorem implDo_9 (a b : Int) (hA : okB a = true) (hB : okB b = true) (w : World) :
    Calls Try.prog 11 #[.int .i64 9, .int .i64 a, .int .i64 b] w fun e w' => e = .returned (.tuple #[.int .i64 (numDo 9 a b).1, .int .i64 (numDo 9 a b).2]) ∧ Below w.heap.size w w' := by
  have hO : inB 9 1 13 = true := by decide
  have hef := eql_func
  obtain ⟨ha1, ha2⟩ := (okB_iff a).1 hA
  obtain ⟨hb1, hb2⟩ := (okB_iff b).1 hB
  cases hS : inB b 0 31
  · have e : numDo 9 a b = (0, 3) := by simp [numDo, hO, hA, hB, hS]
    have hs : b < 0 ∨ 31 < b := by have := (inB_not b 0 31).1 hS; omega
    have HS := hide hs
    clear hs
    rw [e]
    clear e hS
    go_enter Try.func11, Try.ntmps11
    go_wp2_with fail
    refine (oper_9 _).mono ?_
    rintro e w1 ⟨rfl, hb⟩
    have HB := hide hb
    clear hb
    go_wp2_with (go_at_call 13; refine (implOk_any _ _).mono ?_; rintro e w' ⟨rfl, rfl⟩)
    refine (try_no 42 a b 3 enter_9 (hide (cl9_shift a b (unhide HS))) _).mono ?_
    rintro e w2 ⟨rfl, hb2⟩
    have HB2 := hide hb2
    clear hb2
    go_wp2
    go_ret2
    exact ⟨rfl, (unhide HB).trans ((unhide HB2).mono (unhide HB).size)⟩
  obtain ⟨s1, s2⟩ := (inB_iff b 0 31).1 hS
  cases hV : okB (exactV 9 a b)
  · have e : numDo 9 a b = (0, 1) := by simp [numDo, hO, hA, hB, hV, hS]
    have HV := hide hV
    clear hV
    rw [e]
    clear e
    go_enter Try.func11, Try.ntmps11
    go_wp2_with fail
    refine (oper_9 _).mono ?_
    rintro e w1 ⟨rfl, hb⟩
    have HB := hide hb
    clear hb
    go_wp2_with (go_at_call 13; refine (implOk_any _ _).mono ?_; rintro e w' ⟨rfl, rfl⟩)
    refine (try_no 42 a b 1 enter_9 (hide (cl9_no a b ha1 ha2 hb1 hb2 s1 s2 (unhide HV))) _).mono ?_
    rintro e w2 ⟨rfl, hb2⟩
    have HB2 := hide hb2
    clear hb2
    go_wp2
    go_ret2
    exact ⟨rfl, (unhide HB).trans ((unhide HB2).mono (unhide HB).size)⟩
  · have e : numDo 9 a b = (exactV 9 a b, 0) := by simp [numDo, hO, hA, hB, hV, hS]
    have HV := hide hV
    clear hV
    rw [e]
    clear e
    go_enter Try.func11, Try.ntmps11
    go_wp2_with fail
    refine (oper_9 _).mono ?_
    rintro e w1 ⟨rfl, hb⟩
    have HB := hide hb
    clear hb
    go_wp2_with (go_at_call 13; refine (implOk_any _ _).mono ?_; rintro e w' ⟨rfl, rfl⟩)
    refine (try_ok 42 a b _ enter_9 (hide (cl9_ok a b ha1 ha2 hb1 hb2 s1 s2 (unhide HV))) _).mono ?_
    rintro e w2 ⟨rfl, hb2⟩
    have HB2 := hide hb2
    clear hb2
    go_wp2
    go_ret2
    exact ⟨rfl, (unhide HB).trans ((unhide HB2).mono (unhide HB).size)⟩
theorem implDo_10 (a b : Int) (hA : okB a = true) (hB : okB b = true) (w : World) :
    Calls Try.prog 11 #[.int .i64 10, .int .i64 a, .int .i64 b] w fun e w' => e = .returned (.tuple #[.int .i64 (numDo 10 a b).1, .int .i64 (numDo 10 a b).2]) ∧ Below w.heap.size w w' := by
  have hO : inB 10 1 13 = true := by decide
  have hef := eql_func
  obtain ⟨ha1, ha2⟩ := (okB_iff a).1 hA
  obtain ⟨hb1, hb2⟩ := (okB_iff b).1 hB
  cases hS : inB b 0 31
  · have e : numDo 10 a b = (0, 3) := by simp [numDo, hO, hA, hB, hS]
    have hs : b < 0 ∨ 31 < b := by have := (inB_not b 0 31).1 hS; omega
    have HS := hide hs
    clear hs
    rw [e]
    clear e hS
    go_enter Try.func11, Try.ntmps11
    go_wp2_with fail
    refine (oper_10 _).mono ?_
    rintro e w1 ⟨rfl, hb⟩
    have HB := hide hb
    clear hb
    go_wp2_with (go_at_call 13; refine (implOk_any _ _).mono ?_; rintro e w' ⟨rfl, rfl⟩)
    refine (try_no 44 a b 3 enter_10 (hide (cl10_shift a b (unhide HS))) _).mono ?_
    rintro e w2 ⟨rfl, hb2⟩
    have HB2 := hide hb2
    clear hb2
    go_wp2
    go_ret2
    exact ⟨rfl, (unhide HB).trans ((unhide HB2).mono (unhide HB).size)⟩
  obtain ⟨s1, s2⟩ := (inB_iff b 0 31).1 hS
  · have e : numDo 10 a b = (exactV 10 a b, 0) := by simp [numDo, hO, hA, hB, exactV_ok10 a b ha1 ha2, hS]
    rw [e]
    clear e
    go_enter Try.func11, Try.ntmps11
    go_wp2_with fail
    refine (oper_10 _).mono ?_
    rintro e w1 ⟨rfl, hb⟩
    have HB := hide hb
    clear hb
    go_wp2_with (go_at_call 13; refine (implOk_any _ _).mono ?_; rintro e w' ⟨rfl, rfl⟩)
    refine (try_ok 44 a b _ enter_10 (hide (cl10_ok a b ha1 ha2 hb1 hb2 s1 s2)) _).mono ?_
    rintro e w2 ⟨rfl, hb2⟩
    have HB2 := hide hb2
    clear hb2
    go_wp2
    go_ret2
    exact ⟨rfl, (unhide HB).trans ((unhide HB2).mono (unhide HB).size)⟩
theorem implDo_11 (a b : Int) (hA : okB a = true) (hB : okB b = true) (w : World) :
    Calls Try.prog 11 #[.int .i64 11, .int .i64 a, .int .i64 b] w fun e w' => e = .returned (.tuple #[.int .i64 (numDo 11 a b).1, .int .i64 (numDo 11 a b).2]) ∧ Below w.heap.size w w' := by
  have hO : inB 11 1 13 = true := by decide
  have hef := eql_func
  obtain ⟨ha1, ha2⟩ := (okB_iff a).1 hA
  obtain ⟨hb1, hb2⟩ := (okB_iff b).1 hB
  · have e : numDo 11 a b = (wrap32 (exactV 11 a b), 0) := by simp [numDo, hO, hA, hB]
    rw [e]
    clear e
    go_enter Try.func11, Try.ntmps11
    go_wp2_with fail
    refine (oper_11 _).mono ?_
    rintro e w1 ⟨rfl, hb⟩
    have HB := hide hb
    clear hb
    go_wp2_with (go_at_call 13; refine (implOk_any _ _).mono ?_; rintro e w' ⟨rfl, rfl⟩)
    refine (try_ok 45 a b _ enter_11 (hide (cl11_ok a b ha1 ha2 hb1 hb2)) _).mono ?_
    rintro e w2 ⟨rfl, hb2⟩
    have HB2 := hide hb2
    clear hb2
    go_wp2
    go_ret2
    exact ⟨rfl, (unhide HB).trans ((unhide HB2).mono (unhide HB).size)⟩
theorem implDo_12 (a b : Int) (hA : okB a = true) (hB : okB b = true) (w : World) :
    Calls Try.prog 11 #[.int .i64 12, .int .i64 a, .int .i64 b] w fun e w' => e = .returned (.tuple #[.int .i64 (numDo 12 a b).1, .int .i64 (numDo 12 a b).2]) ∧ Below w.heap.size w w' := by
  have hO : inB 12 1 13 = true := by decide
  have hef := eql_func
  obtain ⟨ha1, ha2⟩ := (okB_iff a).1 hA
  obtain ⟨hb1, hb2⟩ := (okB_iff b).1 hB
  · have e : numDo 12 a b = (wrap32 (exactV 12 a b), 0) := by simp [numDo, hO, hA, hB]
    rw [e]
    clear e
    go_enter Try.func11, Try.ntmps11
    go_wp2_with fail
    refine (oper_12 _).mono ?_
    rintro e w1 ⟨rfl, hb⟩
    have HB := hide hb
    clear hb
    go_wp2_with (go_at_call 13; refine (implOk_any _ _).mono ?_; rintro e w' ⟨rfl, rfl⟩)
    refine (try_ok 46 a b _ enter_12 (hide (cl12_ok a b ha1 ha2 hb1 hb2)) _).mono ?_
    rintro e w2 ⟨rfl, hb2⟩
    have HB2 := hide hb2
    clear hb2
    go_wp2
    go_ret2
    exact ⟨rfl, (unhide HB).trans ((unhide HB2).mono (unhide HB).size)⟩
theorem implDo_13 (a b : Int) (hA : okB a = true) (hB : okB b = true) (w : World) :
    Calls Try.prog 11 #[.int .i64 13, .int .i64 a, .int .i64 b] w fun e w' => e = .returned (.tuple #[.int .i64 (numDo 13 a b).1, .int .i64 (numDo 13 a b).2]) ∧ Below w.heap.size w w' := by
  have hO : inB 13 1 13 = true := by decide
  have hef := eql_func
  obtain ⟨ha1, ha2⟩ := (okB_iff a).1 hA
  obtain ⟨hb1, hb2⟩ := (okB_iff b).1 hB
  · have e : numDo 13 a b = (wrap32 (exactV 13 a b), 0) := by simp [numDo, hO, hA, hB]
    rw [e]
    clear e
    go_enter Try.func11, Try.ntmps11
    go_wp2_with fail
    refine (oper_13 _).mono ?_
    rintro e w1 ⟨rfl, hb⟩
    have HB := hide hb
    clear hb
    go_wp2_with (go_at_call 13; refine (implOk_any _ _).mono ?_; rintro e w' ⟨rfl, rfl⟩)
    refine (try_ok 47 a b _ enter_13 (hide (cl13_ok a b ha1 ha2 hb1 hb2)) _).mono ?_
    rintro e w2 ⟨rfl, hb2⟩
    have HB2 := hide hb2
    clear hb2
    go_wp2
    go_ret2
    exact ⟨rfl, (unhide HB).trans ((unhide HB2).mono (unhide HB).size)⟩
theorem implDo_op (op a b : Int) (h : inB op 1 13 = false) (w : World) :
    Calls Try.prog 11 #[.int .i64 op, .int .i64 a, .int .i64 b] w fun e w' => e = .returned (.tuple #[.int .i64 0, .int .i64 0]) ∧ Below w.heap.size w w' := by
  have hen := eql_nil
  have h' := (inB_not op 1 13).1 h
  by_cases h0 : op = 0
  · subst h0
    go_enter Try.func11, Try.ntmps11
    go_wp2_with fail
    refine (oper_zero _).mono ?_
    rintro e w1 ⟨rfl, hb⟩
    have HB := hide hb
    clear hb
    go_wp2
    go_ret2
    exact ⟨rfl, unhide HB⟩
  · have HO := hide (show op < 0 ∨ 13 < op by omega)
    clear h h' h0
    go_enter Try.func11, Try.ntmps11
    go_wp2_with fail
    refine (oper_none _ (unhide HO) _).mono ?_
    rintro e w1 ⟨rfl, hb⟩
    have HB := hide hb
    clear hb
    go_wp2
    go_ret2
    exact ⟨rfl, unhide HB⟩
theorem implDo_1_out (a b : Int) (h : okB a = false ∨ okB b = false) (w : World) :
    Calls Try.prog 11 #[.int .i64 1, .int .i64 a, .int .i64 b] w fun e w' => e = .returned (.tuple #[.int .i64 0, .int .i64 0]) ∧ Below w.heap.size w w' := by
  have hef := eql_func
  cases hA : okB a
  · clear h
    go_enter Try.func11, Try.ntmps11
    go_wp2_with fail
    refine (oper_1 _).mono ?_
    rintro e w1 ⟨rfl, hb⟩
    have HB := hide hb
    clear hb
    go_wp2_with (go_at_call 13; refine (implOk_any _ _).mono ?_; rintro e w' ⟨rfl, rfl⟩)
    go_ret2
    exact ⟨rfl, unhide HB⟩
  · have hB : okB b = false := by rcases h with h | h; (rw [h] at hA; cases hA); exact h
    clear h
    go_enter Try.func11, Try.ntmps11
    go_wp2_with fail
    refine (oper_1 _).mono ?_
    rintro e w1 ⟨rfl, hb⟩
    have HB := hide hb
    clear hb
    go_wp2_with (go_at_call 13; refine (implOk_any _ _).mono ?_; rintro e w' ⟨rfl, rfl⟩)
    go_ret2
    exact ⟨rfl, unhide HB⟩
theorem implDo_2_out (a b : Int) (h : okB a = false ∨ okB b = false) (w : World) :
    Calls Try.prog 11 #[.int .i64 2, .int .i64 a, .int .i64 b] w fun e w' => e = .returned (.tuple #[.int .i64 0, .int .i64 0]) ∧ Below w.heap.size w w' := by
  have hef := eql_func
  cases hA : okB a
  · clear h
    go_enter Try.func11, Try.ntmps11
    go_wp2_with fail
    refine (oper_2 _).mono ?_
    rintro e w1 ⟨rfl, hb⟩
    have HB := hide hb
    clear hb
    go_wp2_with (go_at_call 13; refine (implOk_any _ _).mono ?_; rintro e w' ⟨rfl, rfl⟩)
    go_ret2
    exact ⟨rfl, unhide HB⟩
  · have hB : okB b = false := by rcases h with h | h; (rw [h] at hA; cases hA); exact h
    clear h
    go_enter Try.func11, Try.ntmps11
    go_wp2_with fail
    refine (oper_2 _).mono ?_
    rintro e w1 ⟨rfl, hb⟩
    have HB := hide hb
    clear hb
    go_wp2_with (go_at_call 13; refine (implOk_any _ _).mono ?_; rintro e w' ⟨rfl, rfl⟩)
    go_ret2
    exact ⟨rfl, unhide HB⟩
theorem implDo_3_out (a b : Int) (h : okB a = false ∨ okB b = false) (w : World) :
    Calls Try.prog 11 #[.int .i64 3, .int .i64 a, .int .i64 b] w fun e w' => e = .returned (.tuple #[.int .i64 0, .int .i64 0]) ∧ Below w.heap.size w w' := by
  have hef := eql_func
  cases hA : okB a
  · clear h
    go_enter Try.func11, Try.ntmps11
    go_wp2_with fail
    refine (oper_3 _).mono ?_
    rintro e w1 ⟨rfl, hb⟩
    have HB := hide hb
    clear hb
    go_wp2_with (go_at_call 13; refine (implOk_any _ _).mono ?_; rintro e w' ⟨rfl, rfl⟩)
    go_ret2
    exact ⟨rfl, unhide HB⟩
  · have hB : okB b = false := by rcases h with h | h; (rw [h] at hA; cases hA); exact h
    clear h
    go_enter Try.func11, Try.ntmps11
    go_wp2_with fail
    refine (oper_3 _).mono ?_
    rintro e w1 ⟨rfl, hb⟩
    have HB := hide hb
    clear hb
    go_wp2_with (go_at_call 13; refine (implOk_any _ _).mono ?_; rintro e w' ⟨rfl, rfl⟩)
    go_ret2
    exact ⟨rfl, unhide HB⟩
theorem implDo_4_out (a b : Int) (h : okB a = false ∨ okB b = false) (w : World) :
    Calls Try.prog 11 #[.int .i64 4, .int .i64 a, .int .i64 b] w fun e w' => e = .returned (.tuple #[.int .i64 0, .int .i64 0]) ∧ Below w.heap.size w w' := by
  have hef := eql_func
  cases hA : okB a
  · clear h
    go_enter Try.func11, Try.ntmps11
    go_wp2_with fail
    refine (oper_4 _).mono ?_
    rintro e w1 ⟨rfl, hb⟩
    have HB := hide hb
    clear hb
    go_wp2_with (go_at_call 13; refine (implOk_any _ _).mono ?_; rintro e w' ⟨rfl, rfl⟩)
    go_ret2
    exact ⟨rfl, unhide HB⟩
  · have hB : okB b = false := by rcases h with h | h; (rw [h] at hA; cases hA); exact h
    clear h
    go_enter Try.func11, Try.ntmps11
    go_wp2_with fail
    refine (oper_4 _).mono ?_
    rintro e w1 ⟨rfl, hb⟩
    have HB := hide hb
    clear hb
    go_wp2_with (go_at_call 13; refine (implOk_any _ _).mono ?_; rintro e w' ⟨rfl, rfl⟩)
    go_ret2
    exact ⟨rfl, unhide HB⟩
theorem implDo_5_out (a b : Int) (h : okB a = false ∨ okB b = false) (w : World) :
    Calls Try.prog 11 #[.int .i64 5, .int .i64 a, .int .i64 b] w fun e w' => e = .returned (.tuple #[.int .i64 0, .int .i64 0]) ∧ Below w.heap.size w w' := by
  have hef := eql_func
  cases hA : okB a
  · clear h
    go_enter Try.func11, Try.ntmps11
    go_wp2_with fail
    refine (oper_5 _).mono ?_
    rintro e w1 ⟨rfl, hb⟩
    have HB := hide hb
    clear hb
    go_wp2_with (go_at_call 13; refine (implOk_any _ _).mono ?_; rintro e w' ⟨rfl, rfl⟩)
    go_ret2
    exact ⟨rfl, unhide HB⟩
  · have hB : okB b = false := by rcases h with h | h; (rw [h] at hA; cases hA); exact h
    clear h
    go_enter Try.func11, Try.ntmps11
    go_wp2_with fail
    refine (oper_5 _).mono ?_
    rintro e w1 ⟨rfl, hb⟩
    have HB := hide hb
    clear hb
    go_wp2_with (go_at_call 13; refine (implOk_any _ _).mono ?_; rintro e w' ⟨rfl, rfl⟩)
    go_ret2
    exact ⟨rfl, unhide HB⟩
theorem implDo_6_out (a b : Int) (h : okB a = false ∨ okB b = false) (w : World) :
    Calls Try.prog 11 #[.int .i64 6, .int .i64 a, .int .i64 b] w fun e w' => e = .returned (.tuple #[.int .i64 0, .int .i64 0]) ∧ Below w.heap.size w w' := by
  have hef := eql_func
  cases hA : okB a
  · clear h
    go_enter Try.func11, Try.ntmps11
    go_wp2_with fail
    refine (oper_6 _).mono ?_
    rintro e w1 ⟨rfl, hb⟩
    have HB := hide hb
    clear hb
    go_wp2_with (go_at_call 13; refine (implOk_any _ _).mono ?_; rintro e w' ⟨rfl, rfl⟩)
    go_ret2
    exact ⟨rfl, unhide HB⟩
  · have hB : okB b = false := by rcases h with h | h; (rw [h] at hA; cases hA); exact h
    clear h
    go_enter Try.func11, Try.ntmps11
    go_wp2_with fail
    refine (oper_6 _).mono ?_
    rintro e w1 ⟨rfl, hb⟩
    have HB := hide hb
    clear hb
    go_wp2_with (go_at_call 13; refine (implOk_any _ _).mono ?_; rintro e w' ⟨rfl, rfl⟩)
    go_ret2
    exact ⟨rfl, unhide HB⟩
theorem implDo_7_out (a b : Int) (h : okB a = false ∨ okB b = false) (w : World) :
    Calls Try.prog 11 #[.int .i64 7, .int .i64 a, .int .i64 b] w fun e w' => e = .returned (.tuple #[.int .i64 0, .int .i64 0]) ∧ Below w.heap.size w w' := by
  have hef := eql_func
  cases hA : okB a
  · clear h
    go_enter Try.func11, Try.ntmps11
    go_wp2_with fail
    refine (oper_7 _).mono ?_
    rintro e w1 ⟨rfl, hb⟩
    have HB := hide hb
    clear hb
    go_wp2_with (go_at_call 13; refine (implOk_any _ _).mono ?_; rintro e w' ⟨rfl, rfl⟩)
    go_ret2
    exact ⟨rfl, unhide HB⟩
  · have hB : okB b = false := by rcases h with h | h; (rw [h] at hA; cases hA); exact h
    clear h
    go_enter Try.func11, Try.ntmps11
    go_wp2_with fail
    refine (oper_7 _).mono ?_
    rintro e w1 ⟨rfl, hb⟩
    have HB := hide hb
    clear hb
    go_wp2_with (go_at_call 13; refine (implOk_any _ _).mono ?_; rintro e w' ⟨rfl, rfl⟩)
    go_ret2
    exact ⟨rfl, unhide HB⟩
theorem implDo_8_out (a b : Int) (h : okB a = false ∨ okB b = false) (w : World) :
    Calls Try.prog 11 #[.int .i64 8, .int .i64 a, .int .i64 b] w fun e w' => e = .returned (.tuple #[.int .i64 0, .int .i64 0]) ∧ Below w.heap.size w w' := by
  have hef := eql_func
  cases hA : okB a
  · clear h
    go_enter Try.func11, Try.ntmps11
    go_wp2_with fail
    refine (oper_8 _).mono ?_
    rintro e w1 ⟨rfl, hb⟩
    have HB := hide hb
    clear hb
    go_wp2_with (go_at_call 13; refine (implOk_any _ _).mono ?_; rintro e w' ⟨rfl, rfl⟩)
    go_ret2
    exact ⟨rfl, unhide HB⟩
  · have hB : okB b = false := by rcases h with h | h; (rw [h] at hA; cases hA); exact h
    clear h
    go_enter Try.func11, Try.ntmps11
    go_wp2_with fail
    refine (oper_8 _).mono ?_
    rintro e w1 ⟨rfl, hb⟩
    have HB := hide hb
    clear hb
    go_wp2_with (go_at_call 13; refine (implOk_any _ _).mono ?_; rintro e w' ⟨rfl, rfl⟩)
    go_ret2
    exact ⟨rfl, unhide HB⟩
theorem implDo_9_out (a b : Int) (h : okB a = false ∨ okB b = false) (w : World) :
    Calls Try.prog 11 #[.int .i64 9, .int .i64 a, .int .i64 b] w fun e w' => e = .returned (.tuple #[.int .i64 0, .int .i64 0]) ∧ Below w.heap.size w w' := by
  have hef := eql_func
  cases hA : okB a
  · clear h
    go_enter Try.func11, Try.ntmps11
    go_wp2_with fail
    refine (oper_9 _).mono ?_
    rintro e w1 ⟨rfl, hb⟩
    have HB := hide hb
    clear hb
    go_wp2_with (go_at_call 13; refine (implOk_any _ _).mono ?_; rintro e w' ⟨rfl, rfl⟩)
    go_ret2
    exact ⟨rfl, unhide HB⟩
  · have hB : okB b = false := by rcases h with h | h; (rw [h] at hA; cases hA); exact h
    clear h
    go_enter Try.func11, Try.ntmps11
    go_wp2_with fail
    refine (oper_9 _).mono ?_
    rintro e w1 ⟨rfl, hb⟩
    have HB := hide hb
    clear hb
    go_wp2_with (go_at_call 13; refine (implOk_any _ _).mono ?_; rintro e w' ⟨rfl, rfl⟩)
    go_ret2
    exact ⟨rfl, unhide HB⟩
theorem implDo_10_out (a b : Int) (h : okB a = false ∨ okB b = false) (w : World) :
    Calls Try.prog 11 #[.int .i64 10, .int .i64 a, .int .i64 b] w fun e w' => e = .returned (.tuple #[.int .i64 0, .int .i64 0]) ∧ Below w.heap.size w w' := by
  have hef := eql_func
  cases hA : okB a
  · clear h
    go_enter Try.func11, Try.ntmps11
    go_wp2_with fail
    refine (oper_10 _).mono ?_
    rintro e w1 ⟨rfl, hb⟩
    have HB := hide hb
    clear hb
    go_wp2_with (go_at_call 13; refine (implOk_any _ _).mono ?_; rintro e w' ⟨rfl, rfl⟩)
    go_ret2
    exact ⟨rfl, unhide HB⟩
  · have hB : okB b = false := by rcases h with h | h; (rw [h] at hA; cases hA); exact h
    clear h
    go_enter Try.func11, Try.ntmps11
    go_wp2_with fail
    refine (oper_10 _).mono ?_
    rintro e w1 ⟨rfl, hb⟩
    have HB := hide hb
    clear hb
    go_wp2_with (go_at_call 13; refine (implOk_any _ _).mono ?_; rintro e w' ⟨rfl, rfl⟩)
    go_ret2
    exact ⟨rfl, unhide HB⟩
theorem implDo_11_out (a b : Int) (h : okB a = false ∨ okB b = false) (w : World) :
    Calls Try.prog 11 #[.int .i64 11, .int .i64 a, .int .i64 b] w fun e w' => e = .returned (.tuple #[.int .i64 0, .int .i64 0]) ∧ Below w.heap.size w w' := by
  have hef := eql_func
  cases hA : okB a
  · clear h
    go_enter Try.func11, Try.ntmps11
    go_wp2_with fail
    refine (oper_11 _).mono ?_
    rintro e w1 ⟨rfl, hb⟩
    have HB := hide hb
    clear hb
    go_wp2_with (go_at_call 13; refine (implOk_any _ _).mono ?_; rintro e w' ⟨rfl, rfl⟩)
    go_ret2
    exact ⟨rfl, unhide HB⟩
  · have hB : okB b = false := by rcases h with h | h; (rw [h] at hA; cases hA); exact h
    clear h
    go_enter Try.func11, Try.ntmps11
    go_wp2_with fail
    refine (oper_11 _).mono ?_
    rintro e w1 ⟨rfl, hb⟩
    have HB := hide hb
    clear hb
    go_wp2_with (go_at_call 13; refine (implOk_any _ _).mono ?_; rintro e w' ⟨rfl, rfl⟩)
    go_ret2
    exact ⟨rfl, unhide HB⟩
theorem implDo_12_out (a b : Int) (h : okB a = false ∨ okB b = false) (w : World) :
    Calls Try.prog 11 #[.int .i64 12, .int .i64 a, .int .i64 b] w fun e w' => e = .returned (.tuple #[.int .i64 0, .int .i64 0]) ∧ Below w.heap.size w w' := by
  have hef := eql_func
  cases hA : okB a
  · clear h
    go_enter Try.func11, Try.ntmps11
    go_wp2_with fail
    refine (oper_12 _).mono ?_
    rintro e w1 ⟨rfl, hb⟩
    have HB := hide hb
    clear hb
    go_wp2_with (go_at_call 13; refine (implOk_any _ _).mono ?_; rintro e w' ⟨rfl, rfl⟩)
    go_ret2
    exact ⟨rfl, unhide HB⟩
  · have hB : okB b = false := by rcases h with h | h; (rw [h] at hA; cases hA); exact h
    clear h
    go_enter Try.func11, Try.ntmps11
    go_wp2_with fail
    refine (oper_12 _).mono ?_
    rintro e w1 ⟨rfl, hb⟩
    have HB := hide hb
    clear hb
    go_wp2_with (go_at_call 13; refine (implOk_any _ _).mono ?_; rintro e w' ⟨rfl, rfl⟩)
    go_ret2
    exact ⟨rfl, unhide HB⟩
theorem implDo_13_out (a b : Int) (h : okB a = false ∨ okB b = false) (w : World) :
    Calls Try.prog 11 #[.int .i64 13, .int .i64 a, .int .i64 b] w fun e w' => e = .returned (.tuple #[.int .i64 0, .int .i64 0]) ∧ Below w.heap.size w w' := by
  have hef := eql_func
  cases hA : okB a
  · clear h
    go_enter Try.func11, Try.ntmps11
    go_wp2_with fail
    refine (oper_13 _).mono ?_
    rintro e w1 ⟨rfl, hb⟩
    have HB := hide hb
    clear hb
    go_wp2_with (go_at_call 13; refine (implOk_any _ _).mono ?_; rintro e w' ⟨rfl, rfl⟩)
    go_ret2
    exact ⟨rfl, unhide HB⟩
  · have hB : okB b = false := by rcases h with h | h; (rw [h] at hA; cases hA); exact h
    clear h
    go_enter Try.func11, Try.ntmps11
    go_wp2_with fail
    refine (oper_13 _).mono ?_
    rintro e w1 ⟨rfl, hb⟩
    have HB := hide hb
    clear hb
    go_wp2_with (go_at_call 13; refine (implOk_any _ _).mono ?_; rintro e w' ⟨rfl, rfl⟩)
    go_ret2
    exact ⟨rfl, unhide HB⟩
theorem implDo_any (op a b : Int) (w : World) :
    Calls Try.prog 11 #[.int .i64 op, .int .i64 a, .int .i64 b] w fun e w' => e = .returned (.tuple #[.int .i64 (numDo op a b).1, .int .i64 (numDo op a b).2]) ∧ Below w.heap.size w w' := by
  cases hO : inB op 1 13
  · rw [numDo_out op a b (.inl hO)]
    exact implDo_op op a b hO w
  obtain ⟨ho1, ho2⟩ := (inB_iff op 1 13).1 hO
  have h : op = 1 ∨ op = 2 ∨ op = 3 ∨ op = 4 ∨ op = 5 ∨ op = 6 ∨ op = 7 ∨ op = 8 ∨ op = 9 ∨ op = 10 ∨ op = 11 ∨ op = 12 ∨ op = 13 := by omega
  by_cases hAB : okB a = false ∨ okB b = false
  · rw [numDo_out op a b (.inr hAB)]
    rcases h with rfl | rfl | rfl | rfl | rfl | rfl | rfl | rfl | rfl | rfl | rfl | rfl | rfl
    · exact implDo_1_out a b hAB w
    · exact implDo_2_out a b hAB w
    · exact implDo_3_out a b hAB w
    · exact implDo_4_out a b hAB w
    · exact implDo_5_out a b hAB w
    · exact implDo_6_out a b hAB w
    · exact implDo_7_out a b hAB w
    · exact implDo_8_out a b hAB w
    · exact implDo_9_out a b hAB w
    · exact implDo_10_out a b hAB w
    · exact implDo_11_out a b hAB w
    · exact implDo_12_out a b hAB w
    · exact implDo_13_out a b hAB w
  · have hA : okB a = true := by cases hh : okB a; (exact absurd (.inl hh) hAB); rfl
    have hB : okB b = true := by cases hh : okB b; (exact absurd (.inr hh) hAB); rfl
    rcases h with rfl | rfl | rfl | rfl | rfl | rfl | rfl | rfl | rfl | rfl | rfl | rfl | rfl
    · exact implDo_1 a b hA hB w
    · exact implDo_2 a b hA hB w
    · exact implDo_3 a b hA hB w
    · exact implDo_4 a b hA hB w
    · exact implDo_5 a b hA hB w
    · exact implDo_6 a b hA hB w
    · exact implDo_7 a b hA hB w
    · exact implDo_8 a b hA hB w
    · exact implDo_9 a b hA hB w
    · exact implDo_10 a b hA hB w
    · exact implDo_11 a b hA hB w
    · exact implDo_12 a b hA hB w
    · exact implDo_13 a b hA hB w
end Go.Proofs.Ytfkmnbldadpaaaa.num
