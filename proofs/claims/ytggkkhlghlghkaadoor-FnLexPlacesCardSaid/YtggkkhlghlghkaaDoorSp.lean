/-
  The model's readers of letters, digits, blanks and remarks: what each returns, as a plain function of the bytes.
-/
import Derived.Test.YtggkkhlghlghkaaDoorLx
namespace Go.Proofs.YtggkkhlghlghkaaDoor.lex
open Go.RowKit Go.Proofs.YtggkkhlghlghkaaDoor.num
set_option linter.unusedVariables false

theorem letter_any (c : Int) (w : World) : Calls Tryd.prog 50 #[.int .u8 c] w fun e w' => e = .returned (.bool (isLet c)) ∧ w' = w := by
  go_enter Tryd.func50, Tryd.ntmps50
  go_wp2
  all_goals go_ret
  all_goals (refine ⟨ret_bool ?_, rfl⟩; unfold isLet; first | (rw [eq_comm, decide_eq_true_iff]; omega) | (rw [eq_comm, decide_eq_false_iff_not]; omega) | (simp; omega) | simp_all)
theorem digit_any (c : Int) (w : World) : Calls Tryd.prog 53 #[.int .u8 c] w fun e w' => e = .returned (.bool (isDig c)) ∧ w' = w := by
  go_enter Tryd.func53, Tryd.ntmps53
  go_wp2
  all_goals go_ret
  all_goals (refine ⟨ret_bool ?_, rfl⟩; unfold isDig; first | (rw [eq_comm, decide_eq_true_iff]; omega) | (rw [eq_comm, decide_eq_false_iff_not]; omega) | (simp; omega) | simp_all)

theorem gb_get (s : ByteArray) (k : Nat) (h : k < s.size) : ((s[k]'h).toNat : Int) = gb s k := by
  have e : s.data.toList.getD k 0 = s[k]'h := by
    rw [List.getD_eq_getElem?_getD, Array.getElem?_toList, Array.getElem?_eq_getElem (by exact h)]
    rfl
  unfold gb
  rw [e]
theorem byteAt (s : ByteArray) (k : Nat) (h : k < s.size) (w : World) : (Instr.index 9 (.string s) (.int .i64 (k : Int))).run Tryd.prog w = .ok (.int .u8 (gb s k)) w := by
  rw [run_index_string w 9 s .i64 k Tryd.underlying9, dif_pos ⟨by omega, by omega⟩]
  have := gb_get s k h
  simp only [Int.toNat_natCast]
  rw [this]

set_option maxRecDepth 100000 in
theorem run_any (s : ByteArray) (k : Nat) (w : World) (hs : s.size ≤ 4611686018427387904) (hk : k ≤ s.size) : Calls Tryd.prog 51 #[.string s, .int .i64 (k : Int)] w fun e w' => e = .returned (.int .i64 (runEnd s k : Nat)) ∧ w' = w := by
  go_enter Tryd.func51, Tryd.ntmps51
  go_wp2
  go_loop [1] (fun i => ∃ j : Nat, j ≤ s.size ∧ i = .int .i64 j ∧ runEnd s j = runEnd s k) (fun i => s.size - (intOf i).toNat)
  case atStart => exact ⟨k, hk, rfl, rfl⟩
  case round =>
    obtain ⟨j, hj, rfl, hr⟩ := hrel
    by_cases hlt : j < s.size
    · have hix := byteAt s j hlt
      cases hl : isLet (gb s j) with
      | true =>
        have e := runEnd_go s j hlt (by simp [hl])
        go_wp2_with (first | (go_at_call 50; refine (letter_any _ _).mono ?_; rintro e w' ⟨rfl, rfl⟩) | (go_at_call 53; refine (digit_any _ _).mono ?_; rintro e w' ⟨rfl, rfl⟩))
        go_round
        case rel => exact ⟨j + 1, by omega, by go_num, by rw [← e, hr]⟩
        case measure => simp [intOf]; omega
      | false =>
        cases hd : isDig (gb s j) with
        | true =>
          have e := runEnd_go s j hlt (by simp [hd])
          go_wp2_with (first | (go_at_call 50; refine (letter_any _ _).mono ?_; rintro e w' ⟨rfl, rfl⟩) | (go_at_call 53; refine (digit_any _ _).mono ?_; rintro e w' ⟨rfl, rfl⟩))
          go_round
          case rel => exact ⟨j + 1, by omega, by go_num, by rw [← e, hr]⟩
          case measure => simp [intOf]; omega
        | false =>
          have e := runEnd_stop s j (by simp [hl, hd])
          go_wp2_with (first | (go_at_call 50; refine (letter_any _ _).mono ?_; rintro e w' ⟨rfl, rfl⟩) | (go_at_call 53; refine (digit_any _ _).mono ?_; rintro e w' ⟨rfl, rfl⟩))
          go_ret
          exact ⟨ret_int (by rw [← hr, e]), rfl⟩
    · have e := runEnd_end s j hlt
      go_wp2
      go_ret
      exact ⟨ret_int (by rw [← hr, e]), rfl⟩

set_option maxRecDepth 100000 in
theorem digits_any (s : ByteArray) (k : Nat) (w : World) (hs : s.size ≤ 4611686018427387904) (hk : k ≤ s.size) : Calls Tryd.prog 54 #[.string s, .int .i64 (k : Int)] w fun e w' => e = .returned (.int .i64 (digEnd s k : Nat)) ∧ w' = w := by
  go_enter Tryd.func54, Tryd.ntmps54
  go_wp2
  go_loop [1] (fun i => ∃ j : Nat, j ≤ s.size ∧ i = .int .i64 j ∧ digEnd s j = digEnd s k) (fun i => s.size - (intOf i).toNat)
  case atStart => exact ⟨k, hk, rfl, rfl⟩
  case round =>
    obtain ⟨j, hj, rfl, hr⟩ := hrel
    by_cases hlt : j < s.size
    · have hix := byteAt s j hlt
      cases hd : isDig (gb s j) with
      | true =>
        have e := digEnd_go s j hlt hd
        go_wp2_with (go_at_call 53; refine (digit_any _ _).mono ?_; rintro e w' ⟨rfl, rfl⟩)
        go_round
        case rel => exact ⟨j + 1, by omega, by go_num, by rw [← e, hr]⟩
        case measure => simp [intOf]; omega
      | false =>
        have e := digEnd_stop s j hd
        go_wp2_with (go_at_call 53; refine (digit_any _ _).mono ?_; rintro e w' ⟨rfl, rfl⟩)
        go_ret
        exact ⟨ret_int (by rw [← hr, e]), rfl⟩
    · have e := digEnd_end s j hlt
      go_wp2
      go_ret
      exact ⟨ret_int (by rw [← hr, e]), rfl⟩

set_option maxHeartbeats 1000000 in
set_option maxRecDepth 100000 in
theorem skip_any (s : ByteArray) (k : Nat) (w : World) (hs : s.size ≤ 4611686018427387904) (hk : k ≤ s.size) : Calls Tryd.prog 29 #[.string s, .int .i64 (k : Int)] w fun e w' => e = .returned (.int .i64 (skip s k : Nat)) ∧ w' = w := by
  go_enter Tryd.func29, Tryd.ntmps29
  go_wp2
  go_loop [1] (fun i => ∃ j : Nat, j ≤ s.size ∧ i = .int .i64 j ∧ skip s j = skip s k) (fun i => s.size - (intOf i).toNat)
  case atStart => exact ⟨k, hk, rfl, rfl⟩
  case round =>
    obtain ⟨j, hj, rfl, hr⟩ := hrel
    by_cases hlt : j < s.size
    · have hix := byteAt s j hlt
      by_cases h32 : gb s j = 32
      · have e := skip_blank s j hlt (.inl h32)
        rw [h32] at hix
        go_wp2
        go_round
        case rel => exact ⟨j + 1, by omega, by go_num, by rw [← e, hr]⟩
        case measure => simp [intOf]; omega
      by_cases h10 : gb s j = 10
      · have e := skip_blank s j hlt (.inr h10)
        rw [h10] at hix
        go_wp2
        go_round
        case rel => exact ⟨j + 1, by omega, by go_num, by rw [← e, hr]⟩
        case measure => simp [intOf]; omega
      by_cases h35 : gb s j = 35
      · have e := skip_rem s j hlt h35
        have e2 := remEnd_go s j hlt h10
        have e3 := le_remEnd s (j + 1)
        rw [h35] at hix
        go_wp2
        go_loop [1] (fun i => ∃ l : Nat, j ≤ l ∧ l ≤ s.size ∧ i = .int .i64 l ∧ remEnd s l = remEnd s (j + 1)) (fun i => s.size - (intOf i).toNat)
        case atStart => exact ⟨j, by omega, hj, rfl, e2⟩
        case round =>
          obtain ⟨l, hl0, hl, rfl, hr2⟩ := hrel
          clear hix
          by_cases hl2 : l < s.size
          · have hix := byteAt s l hl2
            by_cases h10' : gb s l = 10
            · have e4 := remEnd_stop s l h10'
              rw [h10'] at hix
              go_wp2
              go_round
              case rel => exact ⟨l, by omega, rfl, by rw [← hr, e, ← hr2, e4]⟩
              case measure => simp [intOf]; omega
            · have e4 := remEnd_go s l hl2 h10'
              have hne : (gb s l == 10) = false := by simpa using h10'
              have hne2 : (gb s l != 10) = true := by simpa using h10'
              go_wp2
              go_round
              case rel => exact ⟨l + 1, by omega, by omega, by go_num, by rw [← e4, hr2]⟩
              case measure => simp [intOf]; omega
          · have e4 := remEnd_end s l hl2
            go_wp2
            go_round
            case rel => exact ⟨l, by omega, rfl, by rw [← hr, e, ← hr2, e4]⟩
            case measure => simp [intOf]; omega
      have e := skip_stop s j (by omega) h35
      have g1 : (gb s j == 32) = false := by simpa using h32
      have g2 : (gb s j == 10) = false := by simpa using h10
      have g3 : (gb s j != 35) = true := by simpa using h35
      go_wp2
      go_ret
      exact ⟨ret_int (by rw [← hr, e]), rfl⟩
    · have e := skip_end s j hlt
      go_wp2
      go_ret
      exact ⟨ret_int (by rw [← hr, e]), rfl⟩
end Go.Proofs.YtggkkhlghlghkaaDoor.lex
