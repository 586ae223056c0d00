/-
  The model's token of a sign.
-/
import Derived.Test.YtggkkhlghlghkaaDoorSq
import Derived.BigRegion
namespace Go.Proofs.YtggkkhlghlghkaaDoor.lex
open Go.RowKit Go.Proofs.YtggkkhlghlghkaaDoor.num
set_option linter.unusedVariables false
theorem at_drew {x : World} {b : Nat} {o : Obj} (h : x.heap[b]? = some o) : x.drew.heap[b]? = some o := h

set_option maxHeartbeats 1000000 in
set_option maxRecDepth 100000 in
theorem one_sign (s : ByteArray) (k : Nat) (w : World) (hs : s.size ≤ 1048576) (hk : k < s.size) (hl : isLet (gb s k) = false) (hd : isDig (gb s k) = false) :
    Calls Tryd.prog 30 #[.string s, .int .i64 (k : Int)] w fun e w' => e = .returned (.tuple #[(tokAt s k).val, .int .i64 (tokEnd s k : Nat), .int .i64 (tokCode s k)]) ∧ Below w.heap.size w w' := by
  have e1 : tokAt s k = sgnTok s k := by rw [tokAt, if_neg (by rw [hl]; exact Bool.false_ne_true), if_neg (by rw [hd]; exact Bool.false_ne_true)]
  have e2 : tokEnd s k = k + (signAt s k).size := by rw [tokEnd, if_neg (by rw [hl]; exact Bool.false_ne_true), if_neg (by rw [hd]; exact Bool.false_ne_true)]
  have e3 : tokCode s k = if (signAt s k).size = 0 then 2 else 0 := by rw [tokCode, if_neg (by rw [hl]; exact Bool.false_ne_true), if_neg (by rw [hd]; exact Bool.false_ne_true)]
  rw [e1, e2, e3, sgnTok, Tok.val]
  clear e1 e2 e3
  have HL : ∀ w, Calls Tryd.prog 50 #[.int .u8 (gb s k)] w fun e w' => e = .returned (.bool false) ∧ w' = w := fun w => by
    have := letter_any (gb s k) w
    rwa [hl] at this
  have HD : ∀ w, Calls Tryd.prog 53 #[.int .u8 (gb s k)] w fun e w' => e = .returned (.bool false) ∧ w' = w := fun w => by
    have := digit_any (gb s k) w
    rwa [hd] at this
  have hix := byteAt s k hk
  have hr := fun w => specSign_at s k w hk (by omega)
  rw [← signAt_in s k hk] at hr
  have hsz := signAt_size s k hk
  generalize signAt s k = g at *
  by_cases h8 : g.size = 0
  · have hg : g = ByteArray.empty := ByteArray.size_eq_zero_iff.1 h8
    subst hg
    rw [if_pos h8]
    go_enter Tryd.func30, Tryd.ntmps30
    go_wp2_with (first | (go_at_call 50; refine (HL _).mono ?_; rintro e w' ⟨rfl, rfl⟩) | (go_at_call 53; refine (HD _).mono ?_; rintro e w' ⟨rfl, rfl⟩) | (go_at_call 17; refine (hr _).mono ?_; rintro e w' ⟨nd, rfl, rfl⟩))
    (try simp only [Exit.inBlock, Exit.then])
    refine bodyPost_ret (results_cell3 rfl _ _ w.heap.size 32 _ (0, 0) _ rfl (at_same (at_same (at_same (at_same (at_other (by exact three_first _ _ _ _) (by omega)))))) Tryd.underlying32 rfl (by kernel_rfl)) rfl ?_
    exact ⟨rfl, (((((below_drewN ((((Below.refl _ w).alloc (Nat.le_refl _) _).alloc (by simp) _).alloc (by simp; omega) _) nd).setCell (by simp) _).setCell (by simp) _).setCell (by simp) _).setCell (by simp) _).setCell (by simp) _⟩
  · rw [if_neg h8]
    have hne : g.toList.isEmpty = false := by
      cases hh : g.toList.isEmpty with
      | false => rfl
      | true =>
        have : g.data.toList = [] := by rw [← Lib.toList_data]; simpa using hh
        rw [Lib.size_eq, this] at h8
        exact absurd rfl h8
    go_enter Tryd.func30, Tryd.ntmps30
    go_wp2_with (first | (go_at_call 50; refine (HL _).mono ?_; rintro e w' ⟨rfl, rfl⟩) | (go_at_call 53; refine (HD _).mono ?_; rintro e w' ⟨rfl, rfl⟩) | (go_at_call 17; refine (hr _).mono ?_; rintro e w' ⟨nd, rfl, rfl⟩))
    go_region
    go_wp2
    (try simp only [Exit.inBlock, Exit.then])
    refine bodyPost_ret (results_cell3 rfl _ _ w.heap.size 32 _ (0, 0) _ rfl (at_drew (at_same (at_same (at_same (at_same (at_other (by exact three_first _ _ _ _) (by omega))))))) Tryd.underlying32 rfl (by kernel_rfl)) rfl ?_
    refine ⟨?_, ((((((below_drewN ((((Below.refl _ w).alloc (Nat.le_refl _) _).alloc (by simp) _).alloc (by simp; omega) _) nd).setCell (by simp) _).setCell (by simp) _).setCell (by simp) _).setCell (by simp) _).setCell (by simp) _).drew⟩
    have ec : (k : Int) + (g.size : Int) = ((k + g.size : Nat) : Int) := by omega
    rw [← ec]
    rfl
theorem one_any (s : ByteArray) (k : Nat) (w : World) (hs : s.size ≤ 1048576) (hk : k < s.size) :
    Calls Tryd.prog 30 #[.string s, .int .i64 (k : Int)] w fun e w' => e = .returned (.tuple #[(tokAt s k).val, .int .i64 (tokEnd s k : Nat), .int .i64 (tokCode s k)]) ∧ Below w.heap.size w w' := by
  cases hl : isLet (gb s k) with
  | true => exact one_name s k w hs hk hl
  | false =>
    cases hd : isDig (gb s k) with
    | true => exact one_num s k w hs hk hl hd
    | false => exact one_sign s k w hs hk hl hd
end Go.Proofs.YtggkkhlghlghkaaDoor.lex
