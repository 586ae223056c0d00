/-
  For every code the law FnNumDo returns true and writes nothing that was there; no condition.
-/
import Derived.Test.YtjpiihjgbllieaaRows
import Derived.Test.YtjpiihjgbllieaaFacts
import Derived.Test.YtjpiihjgbllieaaDd
import Derived.WalkKit
import Derived.ProofKit
import Derived.OpenShut
import Derived.ShutString
import Derived.ChangeOld
import Derived.Below
namespace Go.Proofs.Ytjpiihjgbllieaa.fnNumDo
open Go.ChangeShapes Go.WideShapes Go.ChangeAt Go.RowKit
open Go.ChangeMaps (open_string shut_string)
set_option linter.unusedVariables false

theorem own : ownKnob Try.prog.godebug = none := by kernel_rfl
theorem laidOut : laidOutB Try.prog = true := by kernel_rfl

open num (IsRow)
/-! ### STEP 1: THE WALK: the Go text returns true, AND WRITES NOTHING THAT WAS THERE: 'Below w.heap.size w w'' (Derived/Below.lean: '.refl', '.alloc', '.drew', '.setCell' at a new block, '.trans'). Open each 'IsRow' by 'rcases' AHEAD of 'go_enter'; part every test ahead of the walk. -/
theorem walk (a0 : Option Addr) (len0 cap0 : Nat) (z0 : List Int) (w : World) (w0 : IsRow .u8 w a0 len0 cap0 z0) :
    Calls Try.prog 6 #[.slice a0 len0 cap0] w fun e w' => e = .returned (.bool true) ∧ Below w.heap.size w w' := by
  obtain ⟨hc, hl, hm⟩ := num.code_of_row w0
  have H := num.hide hc
  clear hc w0
  by_cases hlen : 1048576 < len0
  · go_enter Try.func6, Try.ntmps6
    go_wp2
    go_ret
    exact ⟨rfl, Below.refl _ _⟩
  · go_enter Try.func6, Try.ntmps6
    go_wp2_with fail
    refine (num.drawDo_any _ _ _ _ (num.unhide H) hl hm).mono ?_
    rintro e w1 ⟨o, x, y, rfl, hb1⟩
    have B1 := num.hide hb1
    clear hb1 H
    go_wp2_with fail
    refine (num.implDo_any _ _ _ _).mono ?_
    rintro e w2 ⟨rfl, hb2⟩
    have B2 := num.hide ((num.unhide B1).trans (hb2.mono (num.unhide B1).size))
    clear hb2 B1
    go_wp2_with fail
    refine (num.specDo_any _ _ _ _).mono ?_
    rintro e w3 ⟨rfl, rfl⟩
    obtain ⟨g1, g2, g3, g4, g5, g6⟩ := num.numDo_facts o x y
    generalize hv : (num.numDo o x y).1 = v at *
    generalize hf : (num.numDo o x y).2 = f at *
    have HV := num.hide hv
    have HF := num.hide hf
    have G5 := num.hide g5
    have G6 := num.hide g6
    clear hv hf g5 g6
    by_cases hf0 : f = 0
    · subst hf0
      by_cases hs : o = 1 ∨ o = 3 ∨ o = 8
      · have E := num.hide (num.unhide G6 hs)
        rcases hs with rfl | rfl | rfl
        all_goals
          go_wp2_with (first | (go_at_call 21; refine (num.implOk_any _ _).mono ?_; rintro e w' ⟨rfl, rfl⟩) | (go_at_call 19; refine (num.implDo_any _ _ _ _).mono ?_; rintro e w4 ⟨rfl, hb4⟩; rw [num.unhide E, num.unhide HV, num.unhide HF]))
          go_ret
          exact ⟨rfl, (num.unhide B2).trans (hb4.mono (num.unhide B2).size)⟩
      · have t1 : (o == 1) = false := by simp; omega
        have t3 : (o == 3) = false := by simp; omega
        have t8 : (o == 8) = false := by simp; omega
        clear hs
        by_cases h11 : 11 ≤ o
        all_goals
          go_wp2_with (go_at_call 21; refine (num.implOk_any _ _).mono ?_; rintro e w' ⟨rfl, rfl⟩)
          go_ret
          exact ⟨rfl, num.unhide B2⟩
    · have hv0 : v = 0 := g4.resolve_left hf0
      subst hv0
      have h11 : ¬ 11 ≤ o := fun hh => hf0 (num.unhide G5 hh)
      have t0 : (f != 0) = true := by simp [hf0]
      by_cases hs : o = 1 ∨ o = 3 ∨ o = 8
      · have E := num.hide (num.unhide G6 hs)
        rcases hs with rfl | rfl | rfl
        all_goals
          go_wp2_with (first | (go_at_call 21; refine (num.implOk_any _ _).mono ?_; rintro e w' ⟨rfl, rfl⟩) | (go_at_call 19; refine (num.implDo_any _ _ _ _).mono ?_; rintro e w4 ⟨rfl, hb4⟩; rw [num.unhide E, num.unhide HV, num.unhide HF]))
          go_ret
          exact ⟨rfl, (num.unhide B2).trans (hb4.mono (num.unhide B2).size)⟩
      · have t1 : (o == 1) = false := by simp; omega
        have t3 : (o == 3) = false := by simp; omega
        have t8 : (o == 8) = false := by simp; omega
        clear hs
        go_wp2_with (go_at_call 21; refine (num.implOk_any _ _).mono ?_; rintro e w' ⟨rfl, rfl⟩)
        go_ret
        exact ⟨rfl, num.unhide B2⟩

/-! ### THE ROW's STEP: WRITTEN OUT: LEAVE IT -/
set_option maxRecDepth 100000 in
theorem lifted (os : Os) (started : os.Started) (H : Type) (enc : TypeId × Value → H) :
    ReturnsInHanded {} Try.checked os 6 .any (Rows.fnNumDoSpec.pre6 enc Try.prog Try.f6 Rows.fnNumDoRow.domain false) (Rows.fnNumDoSpec.post enc Try.prog Try.f6 false true false false) := by
  refine returnsInHanded_of_change (C := Try.checked) own started (by kernel_rfl) Try.func6
    (ChangeSpec.witness6 (enc := enc) (C := Try.checked) false ⟨#[], #[.slice none 0 0], []⟩ 8 (by kernel_rfl) (by kernel_rfl) (by kernel_rfl) (by kernel_rfl)) ?_
  intro W base args ds gs before hval0 hW hcnd _
  have hval : ∀ (j : Nat) t v, Try.f6.params[j]? = some t → args[j]? = some v → Value.okWide Try.prog W .any base t v := hval0
  have hW' := hW
  obtain ⟨p, q, hA0, hV, rfl, hfz, hnd⟩ := hW
  have hA : DataW.TrodAll enc Try.prog W 0 (fun _ => true) true Try.f6.params.toList args.toList ds p := hA0
  rw [Try.params6] at hA hval
  obtain ⟨v0, vs0, d0, ds0, p0, q0, hargs, rfl, rfl, h0, r0⟩ := trodAll_cons hA
  obtain ⟨rfl, rfl, rfl⟩ := trodAll_nil r0
  obtain rfl : args = #[v0] := by cases args; simp_all
  obtain ⟨rfl, rfl⟩ := trodVars_none hV
  obtain ⟨a0, len0, cap0, rfl⟩ := okWide_slice Try.underlying34 (hval 0 34 v0 rfl rfl)
  have k0 := h0
  have lt0 : ∀ x ∈ p0, x.block < W.heap.size := by obtain ⟨m, hm⟩ := k0; exact DataW.trod_lt m _ _ _ hm
  obtain ⟨z0, w0⟩ : ∃ zs, IsRow .u8 W a0 len0 cap0 zs := by
    obtain ⟨fuel, hf⟩ := h0
    rcases open_ints Try.underlying34 Try.underlying5 (by kernel_rfl) hf with ⟨hcs, _⟩ | ⟨x, l, c, zs, hcs, _, hl, hm, hz, _, hcell, hwz⟩
    · simp [Value.cells] at hcs
      obtain ⟨rfl, rfl, rfl⟩ := hcs
      exact ⟨[], .inl ⟨rfl, rfl, rfl, rfl⟩⟩
    · simp [Value.cells] at hcs
      obtain ⟨rfl, rfl, rfl⟩ := hcs
      exact ⟨zs, .inr ⟨_, rfl, hl, hm, by simpa using hz, hcell, hwz⟩⟩
  clear hA0 hval0
  refine (walk a0 len0 cap0 z0 W w0).mono fun e W' ⟨he, bel⟩ => ?_
  subst he
  exact ⟨_, rfl, _, _, _, [], _, [], hW', trodAll_mk1 (shut_bool Try.underlying4 _), (trodAll_cons_mk (Below.trod laidOut (by kernel_rfl) (of_decide_eq_true (by kernel_rfl)) k0 bel lt0) trodAll_mk0), rfl, bel.frame _, fun h => by cases h⟩

theorem over : Rows.fnNumDoRow.holds Try.pinned (OpenSpec.ofChange Rows.fnNumDoSpec) :=
  OpenClaim.holds_of_wide 6 Try.f6 rfl rfl rfl rfl rfl rfl rfl ⟨rfl, rfl, rfl, rfl, rfl⟩ rfl rfl rfl rfl rfl (by kernel_rfl) Try.func6 (by kernel_rfl)
    (of_decide_eq_true (by kernel_rfl)) (by unfold Func.isWrapper; first | (rw [if_pos (by decide +kernel)]; kernel_rfl) | (rw [if_neg (by decide +kernel)]; exact ⟨rfl, rfl⟩))
    (fun os started H enc _ => lifted os started H enc)

end Go.Proofs.Ytjpiihjgbllieaa.fnNumDo
namespace Go.Proofs.Ytjpiihjgbllieaa
/-- THE STATEMENT. -/
theorem fnNumDo_holds : Rows.FnNumDoSaid := fnNumDo.over
#print axioms fnNumDo_holds
end Go.Proofs.Ytjpiihjgbllieaa
