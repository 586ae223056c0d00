/-
  A number that is drawn from a code (the model's num): it is ok, and nothing that was there has turned.
-/
import Derived.Test.YthbbgkpkijlclaaDoorRd
namespace Go.Proofs.YthbbgkpkijlclaaDoor.num
open Go.ChangeShapes Go.WideShapes Go.ChangeAt Go.RowKit
set_option linter.unusedVariables false
theorem num_any (w : World) (r k : Nat) (h : Rd w r k) (hk : k ≤ 1000000000000) :
    Calls Tryd.prog 140 #[.pointer (some ⟨r, 0, none⟩)] w fun e w' => ∃ v : Int, e = .returned (.int .i64 v) ∧ -2147483648 ≤ v ∧ v ≤ 2147483647 ∧ ∃ k', k' ≤ k + 6 ∧ Rd w' r k' ∧ Kept r w w' := by
  have H1 := hide h
  have K1 := hide (Kept.refl r w)
  clear h
  go_enter Tryd.func140, Tryd.ntmps140
  go_wp2_with fail
  refine (pick_any _ r _ 10 (unhide H1) (by omega) (by omega) (by omega)).mono ?_
  rintro e w2 ⟨v2, rfl, v2l, v2u, hr, hkp⟩
  have H2 := hide hr
  have K2 := hide ((unhide K1).trans hkp)
  clear hr hkp H1 K1
  have hv : v2 < 4 ∨ v2 = 4 ∨ v2 = 5 ∨ v2 = 6 ∨ v2 = 7 ∨ 8 ≤ v2 := by omega
  rcases hv with c4 | rfl | rfl | rfl | rfl | c8
  · have hh := v2l
    go_wp2_with fail
    refine (pick_any _ r _ 21 (unhide H2) (by omega) (by omega) (by omega)).mono ?_
    rintro e w3 ⟨v3, rfl, v3l, v3u, hr, hkp⟩
    have H3 := hide hr
    have K3 := hide ((unhide K2).trans hkp)
    clear hr hkp H2 K2
    go_wp2_with fail
    go_ret
    exact ⟨_, rfl, by omega, by omega, _, (by omega : k + 2 ≤ k + 6), unhide H3, unhide K3⟩
  · clear v2l v2u
    go_wp2_with fail
    refine (pick_any _ r _ 3 (unhide H2) (by omega) (by omega) (by omega)).mono ?_
    rintro e w4 ⟨v4, rfl, v4l, v4u, hr, hkp⟩
    have H4 := hide hr
    have K4 := hide ((unhide K2).trans hkp)
    clear hr hkp H2 K2
    go_wp2_with fail
    go_ret
    exact ⟨_, rfl, by omega, by omega, _, (by omega : k + 2 ≤ k + 6), unhide H4, unhide K4⟩
  · clear v2l v2u
    go_wp2_with fail
    refine (pick_any _ r _ 3 (unhide H2) (by omega) (by omega) (by omega)).mono ?_
    rintro e w5 ⟨v5, rfl, v5l, v5u, hr, hkp⟩
    have H5 := hide hr
    have K5 := hide ((unhide K2).trans hkp)
    clear hr hkp H2 K2
    go_wp2_with fail
    go_ret
    exact ⟨_, rfl, by omega, by omega, _, (by omega : k + 2 ≤ k + 6), unhide H5, unhide K5⟩
  · clear v2l v2u
    go_wp2_with fail
    refine (pick_any _ r _ 31 (unhide H2) (by omega) (by omega) (by omega)).mono ?_
    rintro e w6 ⟨v6, rfl, v6l, v6u, hr, hkp⟩
    have H6 := hide hr
    have K6 := hide ((unhide K2).trans hkp)
    clear hr hkp H2 K2
    have p1 := two_pow_pos v6.toNat
    have p2 := two_pow_le v6.toNat 30 (by omega)
    have e30 : (2 : Int) ^ 30 = 1073741824 := by decide
    have p3 : (2 : Int) ^ v6.toNat ≤ 1073741824 := by omega
    clear p2 e30
    go_wp2_with fail
    refine (l1Power_any _ (by omega) (by omega) _).mono ?_
    rintro e w' ⟨rfl, rfl⟩
    generalize (2 : Int) ^ v6.toNat = pw at *
    go_wp2_with fail
    refine (pick_any _ r _ 3 (unhide H6) (by omega) (by omega) (by omega)).mono ?_
    rintro e w7 ⟨v7, rfl, v7l, v7u, hr, hkp⟩
    have H7 := hide hr
    have K7 := hide ((unhide K6).trans hkp)
    clear hr hkp H6 K6
    go_wp2_with fail
    go_ret
    exact ⟨_, rfl, by omega, by omega, _, (by omega : k + 3 ≤ k + 6), unhide H7, unhide K7⟩
  · clear v2l v2u
    go_wp2_with fail
    refine (pick_any _ r _ 31 (unhide H2) (by omega) (by omega) (by omega)).mono ?_
    rintro e w8 ⟨v8, rfl, v8l, v8u, hr, hkp⟩
    have H8 := hide hr
    have K8 := hide ((unhide K2).trans hkp)
    clear hr hkp H2 K2
    have p1 := two_pow_pos v8.toNat
    have p2 := two_pow_le v8.toNat 30 (by omega)
    have e30 : (2 : Int) ^ 30 = 1073741824 := by decide
    have p3 : (2 : Int) ^ v8.toNat ≤ 1073741824 := by omega
    clear p2 e30
    go_wp2_with fail
    refine (l1Power_any _ (by omega) (by omega) _).mono ?_
    rintro e w' ⟨rfl, rfl⟩
    generalize (2 : Int) ^ v8.toNat = pw at *
    go_wp2_with fail
    refine (pick_any _ r _ 3 (unhide H8) (by omega) (by omega) (by omega)).mono ?_
    rintro e w9 ⟨v9, rfl, v9l, v9u, hr, hkp⟩
    have H9 := hide hr
    have K9 := hide ((unhide K8).trans hkp)
    clear hr hkp H8 K8
    go_wp2_with fail
    go_ret
    exact ⟨_, rfl, by omega, by omega, _, (by omega : k + 3 ≤ k + 6), unhide H9, unhide K9⟩
  · have d4 : ¬ v2 < 4 := by omega
    have d5 : (v2 == 4) = false := by simp; omega
    have d6 : (v2 == 5) = false := by simp; omega
    have d7 : (v2 == 6) = false := by simp; omega
    have d8 : (v2 == 7) = false := by simp; omega
    clear c8 v2l v2u
    go_wp2_with fail
    go_loopw [4, 5] (fun p i wr => ∃ (j : Nat) (V : Int) (kk : Nat), j ≤ 4 ∧ i = .int .i64 j ∧ p = .int .i64 V ∧ kk ≤ k + 1 + j ∧ Rd wr r kk ∧ Kept r w wr) (fun _ i _ => 4 - (intOf i).toNat)
    case atStart => exact ⟨0, 0, k + 1, by omega, rfl, rfl, by omega, unhide H2, unhide K2⟩
    case round =>
      obtain ⟨j, V, kk, hj, rfl, rfl, hkk, hr, hkp⟩ := hrel
      have HL := hide hr
      have KL := hide hkp
      clear hr hkp H2 K2
      by_cases hlt : j < 4
      · go_wp2_with fail
        refine (pick_any _ r _ 256 (unhide HL) (by omega) (by omega) (by omega)).mono ?_
        rintro e wn ⟨vn, rfl, vnl, vnu, hr, hkp⟩
        have HN := hide hr
        have KN := hide ((unhide KL).trans hkp)
        clear hr hkp HL KL
        go_wp2_with fail
        go_roundw
        case rel => exact ⟨j + 1, _, kk + 1, by omega, by go_num, rfl, by omega, unhide HN, unhide KN⟩
        case measure => simp [intOf]; omega
      · go_wp2_with (go_at_call 96; refine (specWrap_any _ _).mono ?_; rintro e w' ⟨rfl, rfl⟩)
        go_ret
        exact ⟨_, rfl, w32_lo _, w32_hi _, kk, by omega, unhide HL, unhide KL⟩
end Go.Proofs.YthbbgkpkijlclaaDoor.num
