/-
  For every code the law FnNumRest returns true and writes nothing that was there; no condition.
-/
import Derived.Test.YtjpiihjgbllieaaRows
import Derived.Test.YtjpiihjgbllieaaRestF
import Derived.Test.YtjpiihjgbllieaaDd
import Derived.WalkKit
import Derived.ProofKit
import Derived.OpenShut
import Derived.ShutString
import Derived.ChangeOld
import Derived.Below
namespace Go.Proofs.Ytjpiihjgbllieaa.fnNumRest
open Go.ChangeShapes Go.WideShapes Go.ChangeAt Go.RowKit
open Go.ChangeMaps (open_string shut_string)
set_option linter.unusedVariables false

theorem own : ownKnob Try.prog.godebug = none := by kernel_rfl
theorem laidOut : laidOutB Try.prog = true := by kernel_rfl

open num (IsRow)
/-! ### STEP 1: THE WALK: the Go text returns true, AND WRITES NOTHING THAT WAS THERE: 'Below w.heap.size w w'' (Derived/Below.lean: '.refl', '.alloc', '.drew', '.setCell' at a new block, '.trans'). Open each 'IsRow' by 'rcases' AHEAD of 'go_enter'; part every test ahead of the walk. -/
theorem walk (a0 : Option Addr) (len0 cap0 : Nat) (z0 : List Int) (w : World) (w0 : IsRow .u8 w a0 len0 cap0 z0) :
    Calls Try.prog 7 #[.slice a0 len0 cap0] w fun e w' => e = .returned (.bool true) ∧ Below w.heap.size w w' := by
  obtain ⟨hc, hl, hm⟩ := num.code_of_row w0
  have H := num.hide hc
  clear hc w0
  by_cases hlen : 1048576 < len0
  · go_enter Try.func7, Try.ntmps7
    go_wp2
    go_ret
    exact ⟨rfl, Below.refl _ _⟩
  · go_enter Try.func7, Try.ntmps7
    go_wp2_with fail
    refine (num.drawDo_any _ _ _ _ (num.unhide H) hl hm).mono ?_
    rintro e w1 ⟨o, x, y, rfl, hb⟩
    have B1 := num.hide hb
    clear hb
    go_wp2_with fail
    refine (num.implDo_any _ _ _ _).mono ?_
    rintro e w2 ⟨rfl, hb⟩
    have B2 := num.bt B1 hb
    clear hb B1
    go_wp2_with fail
    refine (num.implDo_any _ _ _ _).mono ?_
    rintro e w3 ⟨rfl, hb⟩
    have B := num.bt B2 hb
    clear hb B2
    go_wp2_with fail
    refine (num.specDo_any _ _ _ _).mono ?_
    rintro e w4 ⟨rfl, rfl⟩
    cases hX : num.okB x
    · go_wp2_with (go_at_call 22; refine (num.specOk_any _ _).mono ?_; rintro e w' ⟨rfl, rfl⟩)
      go_ret
      exact ⟨rfl, num.unhide B⟩
    cases hY : num.okB y
    · go_wp2_with (go_at_call 22; refine (num.specOk_any _ _).mono ?_; rintro e w' ⟨rfl, rfl⟩)
      go_ret
      exact ⟨rfl, num.unhide B⟩
    have HX := num.hide hX
    obtain ⟨x1, x2⟩ := (num.okB_iff x).1 hX
    obtain ⟨y1, y2⟩ := (num.okB_iff y).1 hY
    by_cases hy0 : y = 0
    · subst hy0
      rw [num.numDo_div0 x hX, num.numDo_rem0 x hX]
      go_wp2_with (go_at_call 22; refine (num.specOk_any _ _).mono ?_; rintro e w' ⟨rfl, rfl⟩)
      go_ret
      exact ⟨rfl, num.unhide B⟩
    rw [num.numDo_rem x y hX hY hy0, num.numDo_div x y hX hY hy0]
    have yb : (y == 0) = false := by simp [hy0]
    have r1 := num.rest_make x y
    have r2 := num.rest_less x y hy0
    have r3 := num.rest_sign x y
    have r4 := num.tmod_ok x y x1 x2
    obtain ⟨r5, r6⟩ := (num.okB_iff _).1 r4
    clear r4
    generalize x.tmod y = r at *
    obtain ⟨m1, m2⟩ := num.mul_bd r r ⟨r5, r6⟩ ⟨r5, by omega⟩
    obtain ⟨m3, m4⟩ := num.mul_bd y y ⟨y1, y2⟩ ⟨y1, by omega⟩
    obtain ⟨m5, m6⟩ := num.mul_bd r x ⟨r5, r6⟩ ⟨x1, by omega⟩
    cases hq : num.okB (x.tdiv y)
    · rw [if_pos rfl]
      clear r1 hq
      go_wp2_with (go_at_call 22; refine (num.specOk_any _ _).mono ?_; rintro e w' ⟨rfl, rfl⟩)
      have H3 := num.hide ((num.unhide H).below (num.unhide B))
      go_wp2_with fail
      refine (num.at_any _ _ _ _ _ (num.unhide H3) (by omega) (by omega) (by omega)).mono ?_
      rintro e w5 ⟨u, rfl, u0, u1, hb⟩
      have B5 := num.bt B hb
      clear hb H H3 B
      have n0 : 0 ≤ u % 32 := by omega
      have n1 : u % 32 ≤ 31 := by omega
      go_wp2_with fail
      refine (num.implDo_any _ _ _ _).mono ?_
      rintro e w6 ⟨rfl, hb⟩
      have B6 := num.bt B5 hb
      clear hb B5
      rw [num.numDo_shl x (u % 32) (num.unhide HX) n0 n1]
      cases hs : num.okB (x * 2 ^ (u % 32).toNat)
      · rw [if_pos rfl]
        go_wp2_with fail
        go_ret
        exact ⟨rfl, num.unhide B6⟩
      · rw [if_neg (by simp)]
        have HS := num.hide hs
        clear hs
        go_wp2_with fail
        refine (num.implDo_any _ _ _ _).mono ?_
        rintro e w7 ⟨rfl, hb⟩
        have B7 := num.bt B6 hb
        clear hb B6
        rw [num.numDo_shr _ (u % 32) (num.unhide HS) n0 n1, num.shift_back]
        go_wp2_with fail
        go_ret
        exact ⟨rfl, num.unhide B7⟩
    · rw [if_neg (by simp)]
      obtain ⟨q1, q2⟩ := (num.okB_iff _).1 hq
      clear hq
      generalize x.tdiv y = q at *
      obtain ⟨m7, m8⟩ := num.mul_bd q y ⟨q1, q2⟩ ⟨y1, by omega⟩
      have r1b : (q * y + r != x) = false := by simp [r1]
      have r2b : ¬ y * y ≤ r * r := by omega
      have r3b : ¬ r * x < 0 := by omega
      clear r1 r2 r3
      go_wp2_with (go_at_call 22; refine (num.specOk_any _ _).mono ?_; rintro e w' ⟨rfl, rfl⟩)
      have H3 := num.hide ((num.unhide H).below (num.unhide B))
      go_wp2_with fail
      refine (num.at_any _ _ _ _ _ (num.unhide H3) (by omega) (by omega) (by omega)).mono ?_
      rintro e w5 ⟨u, rfl, u0, u1, hb⟩
      have B5 := num.bt B hb
      clear hb H H3 B
      have n0 : 0 ≤ u % 32 := by omega
      have n1 : u % 32 ≤ 31 := by omega
      go_wp2_with fail
      refine (num.implDo_any _ _ _ _).mono ?_
      rintro e w6 ⟨rfl, hb⟩
      have B6 := num.bt B5 hb
      clear hb B5
      rw [num.numDo_shl x (u % 32) (num.unhide HX) n0 n1]
      cases hs : num.okB (x * 2 ^ (u % 32).toNat)
      · rw [if_pos rfl]
        go_wp2_with fail
        go_ret
        exact ⟨rfl, num.unhide B6⟩
      · rw [if_neg (by simp)]
        have HS := num.hide hs
        clear hs
        go_wp2_with fail
        refine (num.implDo_any _ _ _ _).mono ?_
        rintro e w7 ⟨rfl, hb⟩
        have B7 := num.bt B6 hb
        clear hb B6
        rw [num.numDo_shr _ (u % 32) (num.unhide HS) n0 n1, num.shift_back]
        go_wp2_with fail
        go_ret
        exact ⟨rfl, num.unhide B7⟩

/-! ### THE ROW's STEP: WRITTEN OUT: LEAVE IT -/
set_option maxRecDepth 100000 in
theorem lifted (os : Os) (started : os.Started) (H : Type) (enc : TypeId × Value → H) :
    ReturnsInHanded {} Try.checked os 7 .any (Rows.fnNumRestSpec.pre6 enc Try.prog Try.f7 Rows.fnNumRestRow.domain false) (Rows.fnNumRestSpec.post enc Try.prog Try.f7 false true false false) := by
  refine returnsInHanded_of_change (C := Try.checked) own started (by kernel_rfl) Try.func7
    (ChangeSpec.witness6 (enc := enc) (C := Try.checked) false ⟨#[], #[.slice none 0 0], []⟩ 8 (by kernel_rfl) (by kernel_rfl) (by kernel_rfl) (by kernel_rfl)) ?_
  intro W base args ds gs before hval0 hW hcnd _
  have hval : ∀ (j : Nat) t v, Try.f7.params[j]? = some t → args[j]? = some v → Value.okWide Try.prog W .any base t v := hval0
  have hW' := hW
  obtain ⟨p, q, hA0, hV, rfl, hfz, hnd⟩ := hW
  have hA : DataW.TrodAll enc Try.prog W 0 (fun _ => true) true Try.f7.params.toList args.toList ds p := hA0
  rw [Try.params7] at hA hval
  obtain ⟨v0, vs0, d0, ds0, p0, q0, hargs, rfl, rfl, h0, r0⟩ := trodAll_cons hA
  obtain ⟨rfl, rfl, rfl⟩ := trodAll_nil r0
  obtain rfl : args = #[v0] := by cases args; simp_all
  obtain ⟨rfl, rfl⟩ := trodVars_none hV
  obtain ⟨a0, len0, cap0, rfl⟩ := okWide_slice Try.underlying34 (hval 0 34 v0 rfl rfl)
  have k0 := h0
  have lt0 : ∀ x ∈ p0, x.block < W.heap.size := by obtain ⟨m, hm⟩ := k0; exact DataW.trod_lt m _ _ _ hm
  obtain ⟨z0, w0⟩ : ∃ zs, IsRow .u8 W a0 len0 cap0 zs := by
    obtain ⟨fuel, hf⟩ := h0
    rcases open_ints Try.underlying34 Try.underlying5 (by kernel_rfl) hf with ⟨hcs, _⟩ | ⟨x, l, c, zs, hcs, _, hl, hm, hz, _, hcell, hwz⟩
    · simp [Value.cells] at hcs
      obtain ⟨rfl, rfl, rfl⟩ := hcs
      exact ⟨[], .inl ⟨rfl, rfl, rfl, rfl⟩⟩
    · simp [Value.cells] at hcs
      obtain ⟨rfl, rfl, rfl⟩ := hcs
      exact ⟨zs, .inr ⟨_, rfl, hl, hm, by simpa using hz, hcell, hwz⟩⟩
  clear hA0 hval0
  refine (walk a0 len0 cap0 z0 W w0).mono fun e W' ⟨he, bel⟩ => ?_
  subst he
  exact ⟨_, rfl, _, _, _, [], _, [], hW', trodAll_mk1 (shut_bool Try.underlying4 _), (trodAll_cons_mk (Below.trod laidOut (by kernel_rfl) (of_decide_eq_true (by kernel_rfl)) k0 bel lt0) trodAll_mk0), rfl, bel.frame _, fun h => by cases h⟩

theorem over : Rows.fnNumRestRow.holds Try.pinned (OpenSpec.ofChange Rows.fnNumRestSpec) :=
  OpenClaim.holds_of_wide 7 Try.f7 rfl rfl rfl rfl rfl rfl rfl ⟨rfl, rfl, rfl, rfl, rfl⟩ rfl rfl rfl rfl rfl (by kernel_rfl) Try.func7 (by kernel_rfl)
    (of_decide_eq_true (by kernel_rfl)) (by unfold Func.isWrapper; first | (rw [if_pos (by decide +kernel)]; kernel_rfl) | (rw [if_neg (by decide +kernel)]; exact ⟨rfl, rfl⟩))
    (fun os started H enc _ => lifted os started H enc)

end Go.Proofs.Ytjpiihjgbllieaa.fnNumRest
namespace Go.Proofs.Ytjpiihjgbllieaa
/-- THE STATEMENT. -/
theorem fnNumRest_holds : Rows.FnNumRestSaid := fnNumRest.over
#print axioms fnNumRest_holds
end Go.Proofs.Ytjpiihjgbllieaa
