/-
  impl's NumDo tells the number and the fault of the model's, whatever the three ints are; old memory stays as it was.
-/
import Derived.Test.YthbbgkpkijlclaaDoorNb
namespace Go.Proofs.YthbbgkpkijlclaaDoor.num
open Go.ChangeShapes Go.WideShapes Go.ChangeAt Go.RowKit
set_option linter.unusedVariables false

theorem opWraps_any (op : Int) (w : World) :
    Calls Tryd.prog 134 #[.int .i64 op] w fun e w' => e = .returned (.bool (decide (11 ≤ op ∧ op ≤ 13))) ∧ w' = w := by
  go_enter Tryd.func134, Tryd.ntmps134
  go_wp2
  all_goals go_ret
  · exact ⟨ret_bool (by rename_i h; simp [h]), rfl⟩
  · exact ⟨ret_bool (by rename_i h; simp; omega), rfl⟩
theorem enter_fit (args : Array Value) (w : World) : (callFunc 133 args).run Tryd.prog w = .ok (.enter 133 args) w := by kernel_rfl
theorem enter_wrap (args : Array Value) (w : World) : (callFunc 135 args).run Tryd.prog w = .ok (.enter 135 args) w := by kernel_rfl
theorem tmod_ok (a b : Int) (ha1 : -2147483648 ≤ a) (ha2 : a ≤ 2147483647) : okB (a.tmod b) = true := by
  rw [okB_iff]
  have h := Int.natAbs_tmod a b
  have h2 : a.natAbs % b.natAbs ≤ a.natAbs := Nat.mod_le _ _
  have h3 := Int.tmod_nonneg (a := a) b
  by_cases h0 : 0 ≤ a
  · have := h3 h0; omega
  · have h4 := Int.tmod_nonneg (a := -a) b (by omega)
    rw [Int.neg_tmod] at h4
    omega
theorem exactV_ok5 (a b : Int) (ha1 : -2147483648 ≤ a) (ha2 : a ≤ 2147483647) : okB (exactV 5 a b) = true := by rw [exactV_5]; exact tmod_ok a b ha1 ha2
theorem exactV_ok6 (a b : Int) : okB (exactV 6 a b) = true := by rw [exactV_6]; exact w32_ok _
theorem exactV_ok7 (a b : Int) : okB (exactV 7 a b) = true := by rw [exactV_7]; exact w32_ok _
theorem exactV_ok8 (a b : Int) : okB (exactV 8 a b) = true := by rw [exactV_8]; exact w32_ok _
theorem exactV_ok10 (a b : Int) (ha1 : -2147483648 ≤ a) (ha2 : a ≤ 2147483647) : okB (exactV 10 a b) = true := by
  rw [exactV_10, okB_iff]; exact div_bd a _ (two_pow_pos _) ha1 ha2
theorem numDo_out (op a b : Int) (h : inB op 1 13 = false ∨ okB a = false ∨ okB b = false) : numDo op a b = (0, 0) := by
  unfold numDo; rw [if_pos h]
set_option maxRecDepth 100000 in
set_option maxHeartbeats 4000000 in
theorem implDo_out (op a b : Int) (h : inB op 1 13 = false ∨ okB a = false ∨ okB b = false) (w : World) :
    Calls Tryd.prog 60 #[.int .i64 op, .int .i64 a, .int .i64 b] w fun e w' => e = .returned (.tuple #[.int .i64 0, .int .i64 0]) ∧ Below w.heap.size w w' := by
  have hef := eql_func
  have hen := eql_nil
  cases hO : inB op 1 13
  · go_enter Tryd.func60, Tryd.ntmps60
    go_wp2_with (go_at_call 119; refine (oper_none op hO _).mono ?_; rintro e w1 ⟨rfl, hb⟩)
    go_ret2
    exact ⟨rfl, hb⟩
  · generalize hk : kOf op = K
    have hop : ∀ w, Calls Tryd.prog 119 #[.int .i64 op] w fun e w' => e = .returned (.func (Fn.func K) #[] #[]) ∧ Below w.heap.size w w' := fun w => by rw [← hk]; exact oper_any op hO w
    cases hA : okB a
    · clear h
      go_enter Tryd.func60, Tryd.ntmps60
      go_wp2_with (first | (go_at_call 119; refine (hop _).mono ?_; rintro e w1 ⟨rfl, hb⟩) | (go_at_call 132; refine (implOk_any _ _).mono ?_; rintro e w' ⟨rfl, rfl⟩; (try rw [hA])))
      go_ret2
      exact ⟨rfl, hb⟩
    · have hB : okB b = false := by rcases h with h | h | h; (rw [h] at hO; cases hO); (rw [h] at hA; cases hA); exact h
      clear h
      go_enter Tryd.func60, Tryd.ntmps60
      go_wp2_with (first | (go_at_call 119; refine (hop _).mono ?_; rintro e w1 ⟨rfl, hb⟩) | (go_at_call 132; refine (implOk_any _ _).mono ?_; rintro e w' ⟨rfl, rfl⟩; (first | rw [hA] | rw [hB])))
      go_ret2
      exact ⟨rfl, hb⟩
set_option maxRecDepth 100000 in
set_option maxHeartbeats 4000000 in
/-- Where both numbers are ok: what numTry tells of the operator and the bound. -/
theorem implDo_in (op a b : Int) (v f : Int) (hO : inB op 1 13 = true) (hA : okB a = true) (hB : okB b = true)
    (hT : ∀ w, Calls Tryd.prog 136 #[.func (Fn.func (kOf op)) #[] #[], .func (Fn.func (if 11 ≤ op then 135 else 133)) #[] #[], .int .i64 a, .int .i64 b] w fun e w' => e = .returned (.tuple #[.int .i64 v, .int .i64 f]) ∧ Below w.heap.size w w') (w : World) :
    Calls Tryd.prog 60 #[.int .i64 op, .int .i64 a, .int .i64 b] w fun e w' => e = .returned (.tuple #[.int .i64 v, .int .i64 f]) ∧ Below w.heap.size w w' := by
  have hef := eql_func
  have ho := (inB_iff _ _ _).1 hO
  have hop' := oper_any op hO
  generalize kOf op = K at *
  have hop : ∀ w, Calls Tryd.prog 119 #[.int .i64 op] w fun e w' => e = .returned (.func (Fn.func K) #[] #[]) ∧ Below w.heap.size w w' := hop'
  clear hop'
  by_cases h11 : 11 ≤ op
  · rw [if_pos h11] at hT
    have hd : decide (11 ≤ op ∧ op ≤ 13) = true := by simp; omega
    go_enter Tryd.func60, Tryd.ntmps60
    go_wp2_with (first | (go_at_call 119; refine (hop _).mono ?_; rintro e w1 ⟨rfl, hb⟩) | (go_at_call 132; refine (implOk_any _ _).mono ?_; rintro e w' ⟨rfl, rfl⟩; (first | rw [hA] | rw [hB])) | (go_at_call 134; refine (opWraps_any _ _).mono ?_; rintro e w' ⟨rfl, rfl⟩; rw [hd]) | (go_at_call 136; refine (hT _).mono ?_; rintro e w2 ⟨rfl, hb2⟩))
    go_ret2
    exact ⟨rfl, hb.trans (hb2.mono hb.size)⟩
  · rw [if_neg h11] at hT
    have hd : decide (11 ≤ op ∧ op ≤ 13) = false := by simp; omega
    go_enter Tryd.func60, Tryd.ntmps60
    go_wp2_with (first | (go_at_call 119; refine (hop _).mono ?_; rintro e w1 ⟨rfl, hb⟩) | (go_at_call 132; refine (implOk_any _ _).mono ?_; rintro e w' ⟨rfl, rfl⟩; (first | rw [hA] | rw [hB])) | (go_at_call 134; refine (opWraps_any _ _).mono ?_; rintro e w' ⟨rfl, rfl⟩; rw [hd]) | (go_at_call 136; refine (hT _).mono ?_; rintro e w2 ⟨rfl, hb2⟩))
    go_ret2
    exact ⟨rfl, hb.trans (hb2.mono hb.size)⟩
theorem zero_any (op a : Int) (h : op = 4 ∨ op = 5) (w : World) :
    Calls Tryd.prog (kOf op) #[.int .i64 a, .int .i64 0] w fun e w' => e = .panicked [{ v := .iface 168 (.int .i64 2), recovered := false }] ∧ w' = w := by
  rcases h with rfl | rfl
  · rw [kOf_4]; exact cl4_zero a w
  · rw [kOf_5]; exact cl5_zero a w
theorem shift_any (op a b : Int) (h : op = 9 ∨ op = 10) (hb : b < 0 ∨ 31 < b) (w : World) :
    Calls Tryd.prog (kOf op) #[.int .i64 a, .int .i64 b] w fun e w' => e = .panicked [{ v := .iface 168 (.int .i64 3), recovered := false }] ∧ w' = w := by
  rcases h with rfl | rfl
  · rw [kOf_9]; exact cl9_shift a b hb w
  · rw [kOf_10]; exact cl10_shift a b hb w
theorem enter_bound (op : Int) (args : Array Value) (w : World) : (callFunc (if 11 ≤ op then 135 else 133) args).run Tryd.prog w = .ok (.enter (if 11 ≤ op then 135 else 133) args) w := by
  split
  · exact enter_wrap _ _
  · exact enter_fit _ _
theorem implDo_any (op a b : Int) (w : World) :
    Calls Tryd.prog 60 #[.int .i64 op, .int .i64 a, .int .i64 b] w fun e w' => e = .returned (.tuple #[.int .i64 (numDo op a b).1, .int .i64 (numDo op a b).2]) ∧ Below w.heap.size w w' := by
  by_cases hout : inB op 1 13 = false ∨ okB a = false ∨ okB b = false
  · rw [numDo_out op a b hout]
    exact implDo_out op a b hout w
  · have hO : inB op 1 13 = true := by cases hh : inB op 1 13; (exact absurd (.inl hh) hout); rfl
    have hA : okB a = true := by cases hh : okB a; (exact absurd (.inr (.inl hh)) hout); rfl
    have hB : okB b = true := by cases hh : okB b; (exact absurd (.inr (.inr hh)) hout); rfl
    obtain ⟨ha1, ha2⟩ := (okB_iff a).1 hA
    obtain ⟨hb1, hb2⟩ := (okB_iff b).1 hB
    by_cases hz : (op = 4 ∨ op = 5) ∧ b = 0
    · have e : numDo op a b = (0, 2) := by unfold numDo; rw [if_neg hout, if_pos hz]
      rw [e]
      obtain ⟨h45, rfl⟩ := hz
      exact implDo_in op a 0 0 2 hO hA hB (fun w => try_no _ _ a 0 2 (enter_any op hO) (enter_bound op) (hide (zero_any op a h45)) w) w
    · by_cases hs : (op = 9 ∨ op = 10) ∧ inB b 0 31 = false
      · have e : numDo op a b = (0, 3) := by unfold numDo; rw [if_neg hout, if_neg hz, if_pos hs]
        rw [e]
        have hsb : b < 0 ∨ 31 < b := by have := (inB_not _ _ _).1 hs.2; omega
        exact implDo_in op a b 0 3 hO hA hB (fun w => try_no _ _ a b 3 (enter_any op hO) (enter_bound op) (hide (shift_any op a b hs.1 hsb)) w) w
      · have hs' : (op = 9 ∨ op = 10) → 0 ≤ b ∧ b ≤ 31 := fun h => by
          have : inB b 0 31 = true := by cases hh : inB b 0 31; (exact absurd ⟨h, hh⟩ hs); rfl
          exact (inB_iff _ _ _).1 this
        have hc := reckon_any op a b hO ha1 ha2 hb1 hb2 hz hs'
        by_cases h11 : 11 ≤ op
        · have e : numDo op a b = (wrap32 (exactV op a b), 0) := by unfold numDo; rw [if_neg hout, if_neg hz, if_neg hs, if_pos h11]
          rw [e]
          exact implDo_in op a b _ 0 hO hA hB (fun w => try_ok _ _ a b _ _ (enter_any op hO) (enter_bound op) (hide hc) (hide (fun w => by rw [if_pos h11]; exact implWrap_any _ w)) w) w
        · cases hV : okB (exactV op a b)
          · have e : numDo op a b = (0, 1) := by unfold numDo; rw [if_neg hout, if_neg hz, if_neg hs, if_neg h11, if_pos hV]
            rw [e]
            exact implDo_in op a b 0 1 hO hA hB (fun w => try_off _ _ a b _ 1 (enter_any op hO) (enter_bound op) (hide hc) (hide (fun w => by rw [if_neg h11]; exact mustFit_no _ hV w)) w) w
          · have e : numDo op a b = (exactV op a b, 0) := by unfold numDo; rw [if_neg hout, if_neg hz, if_neg hs, if_neg h11, if_neg (by simp [hV])]
            rw [e]
            exact implDo_in op a b _ 0 hO hA hB (fun w => try_ok _ _ a b _ _ (enter_any op hO) (enter_bound op) (hide hc) (hide (fun w => by rw [if_neg h11]; exact mustFit_yes _ hV w)) w) w
end Go.Proofs.YthbbgkpkijlclaaDoor.num
