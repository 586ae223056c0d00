/-
  For every code the law FnNumBits returns true and writes nothing that was there; no condition.
-/
import Derived.Test.YtjpiihjgbllieaaRows
import Derived.Test.YtjpiihjgbllieaaBitsF
import Derived.Test.YtjpiihjgbllieaaDd
import Derived.WalkKit
import Derived.ProofKit
import Derived.OpenShut
import Derived.ShutString
import Derived.ChangeOld
import Derived.Below
namespace Go.Proofs.Ytjpiihjgbllieaa.fnNumBits
open Go.ChangeShapes Go.WideShapes Go.ChangeAt Go.RowKit
open Go.ChangeMaps (open_string shut_string)
set_option linter.unusedVariables false

theorem own : ownKnob Try.prog.godebug = none := by kernel_rfl
theorem laidOut : laidOutB Try.prog = true := by kernel_rfl

open num (IsRow)
/-! ### STEP 1: THE WALK: the Go text returns true, AND WRITES NOTHING THAT WAS THERE: 'Below w.heap.size w w'' (Derived/Below.lean: '.refl', '.alloc', '.drew', '.setCell' at a new block, '.trans'). Open each 'IsRow' by 'rcases' AHEAD of 'go_enter'; part every test ahead of the walk. -/
theorem walk (a0 : Option Addr) (len0 cap0 : Nat) (z0 : List Int) (w : World) (w0 : IsRow .u8 w a0 len0 cap0 z0) :
    Calls Try.prog 8 #[.slice a0 len0 cap0] w fun e w' => e = .returned (.bool true) ∧ Below w.heap.size w w' := by
  obtain ⟨hc, hl, hm⟩ := num.code_of_row w0
  have H := num.hide hc
  clear hc w0
  by_cases hlen : 1048576 < len0
  · go_enter Try.func8, Try.ntmps8
    go_wp2
    go_ret
    exact ⟨rfl, Below.refl _ _⟩
  · go_enter Try.func8, Try.ntmps8
    go_wp2_with fail
    refine (num.drawDo_any _ _ _ _ (num.unhide H) hl hm).mono ?_
    rintro e w1 ⟨o, x, y, rfl, hb⟩
    have B1 := num.hide hb
    clear hb H
    go_wp2_with fail
    refine (num.implDo_any _ _ _ _).mono ?_
    rintro e w2 ⟨rfl, hb⟩
    have B2 := num.bt B1 hb
    clear hb B1
    go_wp2_with fail
    refine (num.implDo_any _ _ _ _).mono ?_
    rintro e w3 ⟨rfl, hb⟩
    have B3 := num.bt B2 hb
    clear hb B2
    go_wp2_with fail
    refine (num.implDo_any _ _ _ _).mono ?_
    rintro e w4 ⟨rfl, hb⟩
    have B := num.bt B3 hb
    clear hb B3
    go_wp2_with fail
    refine (num.specDo_any _ _ _ _).mono ?_
    rintro e w5 ⟨rfl, rfl⟩
    cases hX : num.okB x
    · rw [num.numDo_out 8 x y (.inr (.inl hX))]
      go_wp2_with (go_at_call 22; refine (num.specOk_any _ _).mono ?_; rintro e w' ⟨rfl, rfl⟩)
      go_ret
      exact ⟨rfl, num.unhide B⟩
    cases hY : num.okB y
    · rw [num.numDo_out 8 x y (.inr (.inr hY))]
      go_wp2_with (go_at_call 22; refine (num.specOk_any _ _).mono ?_; rintro e w' ⟨rfl, rfl⟩)
      go_ret
      exact ⟨rfl, num.unhide B⟩
    obtain ⟨x1, x2⟩ := (num.okB_iff x).1 hX
    obtain ⟨y1, y2⟩ := (num.okB_iff y).1 hY
    rw [num.numDo_bit 6 x y (.inl rfl) hX hY, num.numDo_bit 7 x y (.inr (.inl rfl)) hX hY, num.numDo_bit 8 x y (.inr (.inr rfl)) hX hY]
    obtain ⟨s1, s2⟩ := num.share32 x y ⟨x1, x2⟩ ⟨y1, y2⟩
    obtain ⟨p1, p2⟩ := num.exactV_bd 6 x y (.inl rfl)
    obtain ⟨p3, p4⟩ := num.exactV_bd 7 x y (.inr (.inl rfl))
    have HA := num.hide hX
    have HB := num.hide hY
    generalize num.exactV 6 x y = a6 at *
    generalize num.exactV 7 x y = a7 at *
    generalize num.exactV 8 x y = a8 at *
    have t1 : (a6 + a7 != x + y) = false := by simp [s1]
    have t2 : (a8 != a7 - a6) = false := by simp [s2]
    clear s1 s2
    go_wp2_with (go_at_call 22; refine (num.specOk_any _ _).mono ?_; rintro e w' ⟨rfl, rfl⟩)
    go_loopw [14] (fun i wr => ∃ j : Nat, j ≤ 3 ∧ i = .int .i64 j ∧ Below w.heap.size w wr) (fun i _ => 3 - (intOf i).toNat)
    case atStart => exact ⟨0, by omega, rfl, num.unhide B⟩
    case round =>
      obtain ⟨j, hj, rfl, hb⟩ := hrel
      have BL := num.hide hb
      clear hb B
      by_cases hlt : j < 3
      · have G := num.hide (num.wrap_agree j hlt x y (num.unhide HA) (num.unhide HB))
        go_wp2_with fail
        refine (num.implDo_any _ _ _ _).mono ?_
        rintro e w6 ⟨rfl, hb⟩
        have B6 := num.bt BL hb
        clear hb BL
        go_wp2_with fail
        refine (num.implDo_any _ _ _ _).mono ?_
        rintro e w7 ⟨rfl, hb⟩
        have B7 := num.bt B6 hb
        clear hb B6
        obtain ⟨g1, g2⟩ := num.unhide G
        generalize num.numDo (1 + (j : Int)) x y = P at *
        generalize num.numDo (11 + (j : Int)) x y = Q at *
        obtain ⟨P1, P2⟩ := P
        obtain ⟨Q1, Q2⟩ := Q
        simp only at g1 g2
        subst g1
        by_cases hp : P2 = 0
        · have hpq := g2 hp
          subst hp
          subst hpq
          clear g2 G
          go_wp2_with fail
          go_roundw
          case rel => exact ⟨j + 1, by omega, by go_num, num.unhide B7⟩
          case measure => simp [intOf]; omega
        · have hpb : (P2 == 0) = false := by simp [hp]
          clear g2 G hp
          go_wp2_with fail
          go_roundw
          case rel => exact ⟨j + 1, by omega, by go_num, num.unhide B7⟩
          case measure => simp [intOf]; omega
      · go_wp2_with fail
        go_ret
        exact ⟨rfl, num.unhide BL⟩

/-! ### THE ROW's STEP: WRITTEN OUT: LEAVE IT -/
set_option maxRecDepth 100000 in
theorem lifted (os : Os) (started : os.Started) (H : Type) (enc : TypeId × Value → H) :
    ReturnsInHanded {} Try.checked os 8 .any (Rows.fnNumBitsSpec.pre6 enc Try.prog Try.f8 Rows.fnNumBitsRow.domain false) (Rows.fnNumBitsSpec.post enc Try.prog Try.f8 false true false false) := by
  refine returnsInHanded_of_change (C := Try.checked) own started (by kernel_rfl) Try.func8
    (ChangeSpec.witness6 (enc := enc) (C := Try.checked) false ⟨#[], #[.slice none 0 0], []⟩ 8 (by kernel_rfl) (by kernel_rfl) (by kernel_rfl) (by kernel_rfl)) ?_
  intro W base args ds gs before hval0 hW hcnd _
  have hval : ∀ (j : Nat) t v, Try.f8.params[j]? = some t → args[j]? = some v → Value.okWide Try.prog W .any base t v := hval0
  have hW' := hW
  obtain ⟨p, q, hA0, hV, rfl, hfz, hnd⟩ := hW
  have hA : DataW.TrodAll enc Try.prog W 0 (fun _ => true) true Try.f8.params.toList args.toList ds p := hA0
  rw [Try.params8] at hA hval
  obtain ⟨v0, vs0, d0, ds0, p0, q0, hargs, rfl, rfl, h0, r0⟩ := trodAll_cons hA
  obtain ⟨rfl, rfl, rfl⟩ := trodAll_nil r0
  obtain rfl : args = #[v0] := by cases args; simp_all
  obtain ⟨rfl, rfl⟩ := trodVars_none hV
  obtain ⟨a0, len0, cap0, rfl⟩ := okWide_slice Try.underlying34 (hval 0 34 v0 rfl rfl)
  have k0 := h0
  have lt0 : ∀ x ∈ p0, x.block < W.heap.size := by obtain ⟨m, hm⟩ := k0; exact DataW.trod_lt m _ _ _ hm
  obtain ⟨z0, w0⟩ : ∃ zs, IsRow .u8 W a0 len0 cap0 zs := by
    obtain ⟨fuel, hf⟩ := h0
    rcases open_ints Try.underlying34 Try.underlying5 (by kernel_rfl) hf with ⟨hcs, _⟩ | ⟨x, l, c, zs, hcs, _, hl, hm, hz, _, hcell, hwz⟩
    · simp [Value.cells] at hcs
      obtain ⟨rfl, rfl, rfl⟩ := hcs
      exact ⟨[], .inl ⟨rfl, rfl, rfl, rfl⟩⟩
    · simp [Value.cells] at hcs
      obtain ⟨rfl, rfl, rfl⟩ := hcs
      exact ⟨zs, .inr ⟨_, rfl, hl, hm, by simpa using hz, hcell, hwz⟩⟩
  clear hA0 hval0
  refine (walk a0 len0 cap0 z0 W w0).mono fun e W' ⟨he, bel⟩ => ?_
  subst he
  exact ⟨_, rfl, _, _, _, [], _, [], hW', trodAll_mk1 (shut_bool Try.underlying4 _), (trodAll_cons_mk (Below.trod laidOut (by kernel_rfl) (of_decide_eq_true (by kernel_rfl)) k0 bel lt0) trodAll_mk0), rfl, bel.frame _, fun h => by cases h⟩

theorem over : Rows.fnNumBitsRow.holds Try.pinned (OpenSpec.ofChange Rows.fnNumBitsSpec) :=
  OpenClaim.holds_of_wide 8 Try.f8 rfl rfl rfl rfl rfl rfl rfl ⟨rfl, rfl, rfl, rfl, rfl⟩ rfl rfl rfl rfl rfl (by kernel_rfl) Try.func8 (by kernel_rfl)
    (of_decide_eq_true (by kernel_rfl)) (by unfold Func.isWrapper; first | (rw [if_pos (by decide +kernel)]; kernel_rfl) | (rw [if_neg (by decide +kernel)]; exact ⟨rfl, rfl⟩))
    (fun os started H enc _ => lifted os started H enc)

end Go.Proofs.Ytjpiihjgbllieaa.fnNumBits
namespace Go.Proofs.Ytjpiihjgbllieaa
/-- THE STATEMENT. -/
theorem fnNumBits_holds : Rows.FnNumBitsSaid := fnNumBits.over
#print axioms fnNumBits_holds
end Go.Proofs.Ytjpiihjgbllieaa
