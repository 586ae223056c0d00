/-
  For every range the law FnExactRangeOk returns true and writes nothing that was there; its package variables as the program's text lays them.
-/
import Derived.Test.YtjjglklbfigmiaaDoorTe
import Derived.Test.YtjjglklbfigmiaaDoorTie
import Derived.Test.YtjjglklbfigmiaaDoorCards
import Derived.SevenTiedAt
import Derived.Stop.LaidErr
import Derived.ShutString
import Derived.ChangeOld
import Derived.Below
namespace Go.Proofs.YtjjglklbfigmiaaDoor.fnExactRangeOk
open Go.ChangeShapes Go.WideShapes Go.ChangeAt Go.RowKit Go.Proofs.YtjjglklbfigmiaaDoor.num
set_option linter.unusedVariables false

/-- The variables that the row lists. -/
abbrev laid : List (String × DataW Unit) := Rows.fnExactRangeOkRow.laid
/-- The door's own heap meets the condition. -/
theorem door_met (os : Os) (args : Array Value) : laidMetH Tryd.prog laid ((World.doorLaid Tryd.prog 400 os).forCall (fun _ _ => 0) ⟨#[], args, []⟩).memory :=
  laidMetH_of_parts3 (fuel := 8) (laidMet_of_run' 8 (by kernel_rfl) (by kernel_rfl)) (by kernel_rfl) (by kernel_rfl)
theorem laid_of {W : World} (h : laidMetH Tryd.prog laid W) : Gv W 0 (1, 0) := by
  rw [MakeChecks.laidMetH_plain _ _ _ (by kernel_rfl)] at h
  exact gv_of_head (by kernel_rfl) (by kernel_rfl) h
theorem walk (x y : Int) (w : World) (h : Gv w 0 (1, 0)) :
    Calls Tryd.prog 3 #[.agg #[.int .i64 x, .int .i64 y]] w fun e w' => e = .returned (.bool true) ∧ Below w.heap.size w w' := by
  obtain ⟨W, hW, H⟩ := Hd.one w (.int .i64 x) (.int .i64 y) 23
  cases k : rOk (x, y)
  all_goals
    go_enter Tryd.func3, Tryd.ntmps3
    go_wp2_with fail
    rw [← hW]
    clear hW
    have a0 := H.get (b := w.heap.size) (o := 0) (v := .int .i64 x) (by simp)
    have a1 := H.get (b := w.heap.size) (o := 1) (v := .int .i64 y) (by simp)
    go_wp2_with (first | (go_at_call 19; refine (toRange_xy _ _ _).mono ?_; rintro e w' ⟨rfl, hb⟩; replace H := H.call hb; have a0 := H.get (b := w.heap.size) (o := 0) (v := .int .i64 x) (by simp); have a1 := H.get (b := w.heap.size) (o := 1) (v := .int .i64 y) (by simp)) | (go_at_call 18; refine (RangeOk_xy _ _ _).mono ?_; rintro e w' ⟨rfl, hb⟩; replace H := H.call hb; have a0 := H.get (b := w.heap.size) (o := 0) (v := .int .i64 x) (by simp); have a1 := H.get (b := w.heap.size) (o := 1) (v := .int .i64 y) (by simp)) | (go_at_call 20; refine (iOk_xy _ _ _ (h.below H.below)).mono ?_; rintro e w' ⟨rfl, hb⟩; replace H := H.call hb; have a0 := H.get (b := w.heap.size) (o := 0) (v := .int .i64 x) (by simp); have a1 := H.get (b := w.heap.size) (o := 1) (v := .int .i64 y) (by simp)))
    go_ret
    exact ⟨rfl, H.below⟩
set_option maxRecDepth 100000 in
theorem lifted (os : Os) (started : os.Started) (H : Type) (enc : TypeId × Value → H) :
    ReturnsInHanded {} Tryd.checked os 3 .any (fun w args => (Rows.fnExactRangeOkSpec.pre enc Tryd.prog Tryd.f3 [] false w args ∧ laidMetH Tryd.prog laid w) ∧ sizedMet enc Tryd.prog Tryd.f3 (OpenSpec.ofChange Rows.fnExactRangeOkSpec) false w args)
      (Rows.fnExactRangeOkSpec.post enc Tryd.prog Tryd.f3 false true false false) := by
  refine returnsInHanded_of_change_and (C := Tryd.checked) (X := fun w _ => laidMetH Tryd.prog laid w) (fun _ _ _ hh h => h.of_heap hh) own started (by kernel_rfl) Tryd.func3
    (ChangeSpec.witness_shaped (enc := enc) (C := Tryd.checked) (os := os) (X := fun w _ => laidMetH Tryd.prog laid w) false (World.doorLaid Tryd.prog 400 os) #[.agg #[.int .i64 0, .int .i64 0]] 8 rfl (World.shaped_of_RefB (by kernel_rfl) (by kernel_rfl)) (by kernel_rfl) (by kernel_rfl) (by kernel_rfl) (door_met os _)) ?_
  intro W base args ds gs before hval0 hW _ _ hL _
  have hval : ∀ (j : Nat) t v, Tryd.f3.params[j]? = some t → args[j]? = some v → Value.okWide Tryd.prog W .any base t v := hval0
  have hW' := hW
  obtain ⟨p, q, hA0, hV0, rfl, hfz, hnd⟩ := hW
  have hA : DataW.TrodAll enc Tryd.prog W 0 (fun _ => true) true Tryd.f3.params.toList args.toList ds p := hA0
  have hV : DataW.TrodVars enc Tryd.prog W (fun _ => true) Rows.fnExactRangeOkSpec.vars gs q := hV0
  rw [Tryd.params3] at hA hval
  obtain ⟨v0, vs0, d0, ds0, p0, q0, hargs, rfl, rfl, h0, r0⟩ := trodAll_cons hA
  obtain ⟨rfl, rfl, rfl⟩ := trodAll_nil r0
  obtain rfl : args = #[v0] := by cases args; simp_all
  have k0 := h0
  have lt0 : ∀ x ∈ p0, x.block < W.heap.size := by obtain ⟨m, hm⟩ := k0; exact DataW.trod_lt m _ _ _ hm
  obtain ⟨a0, rfl⟩ := arg_two (okWide_struct Tryd.underlying23 (hval 0 23 v0 rfl rfl)) h0
  have hL' := laid_of hL
  clear hA0 hval0
  refine (walk a0.1 a0.2 W  hL').mono fun e W' ⟨he, bel⟩ => ?_
  subst he
  have kV := Below.trodVars laidOut bel (ns := Rows.fnExactRangeOkSpec.vars) (by kernel_rfl) hV
  have hlen : gs.length = 1 := vars_len hV
  match gs, hlen with
  | [g0], _ =>
    exact ⟨_, rfl, _, _, _, [], _, _, hW', trodAll_mk1 (shut_bool Tryd.underlying4 _), (trodAll_cons_mk (Below.trod laidOut (by kernel_rfl) (of_decide_eq_true (by kernel_rfl)) k0 bel lt0) trodAll_mk0), kV, bel.frame _, fun h => by cases h⟩

theorem over : Rows.FnExactRangeOkSaid :=
  OpenClaim.holds_of_wide 3 Tryd.f3 rfl rfl rfl rfl rfl rfl rfl ⟨rfl, rfl, rfl, rfl, rfl⟩ rfl rfl rfl rfl rfl (by kernel_rfl) Tryd.func3 (by kernel_rfl)
    (of_decide_eq_true (by kernel_rfl)) (by unfold Func.isWrapper; first | (rw [if_pos (by decide +kernel)]; kernel_rfl) | (rw [if_neg (by decide +kernel)]; exact ⟨rfl, rfl⟩))
    (fun os started H enc _ => lifted os started H enc)
end Go.Proofs.YtjjglklbfigmiaaDoor.fnExactRangeOk
namespace Go.Proofs.YtjjglklbfigmiaaDoor
open Go
/-- THE STATEMENT: the tied card. -/
theorem fnExactRangeOk_holds : Rows.FnExactRangeOkCardSaid :=
  Claim7.holds_tied_plain_at .later [] [.data] true Rows.fnExactRangeOkCard.stood.harness true
    fnExactRangeOk.over (fun _ h => by cases h) (by kernel_rfl) (fun _ h => by cases h) fnExactRangeOk_row_tie rfl ⟨rfl, rfl⟩ (by kernel_rfl) rfl
    (fun f fn hf hfn => by
      obtain rfl : f = 3 := Option.some.inj ((show Tryd.prog.funcNamed Rows.fnExactRangeOkRow.func = some 3 by kernel_rfl).symm.trans hf) |>.symm
      obtain rfl : fn = Tryd.f3 := (Option.some.inj (Tryd.func3.symm.trans hfn)).symm
      exact ⟨by kernel_rfl, fun j t ht => by
        rw [Tryd.params3] at ht
        have hm : t ∈ [23] := by simpa using Array.mem_of_getElem? ht
        have hall : ([23].all fun u => !Tryd.prog.wantsStandIn u) = true := by kernel_rfl
        exact (show Tryd.prog.wantsStandIn t = false by simpa using List.all_eq_true.1 hall t hm)⟩)
    (by kernel_rfl)
#print axioms fnExactRangeOk_holds
end Go.Proofs.YtjjglklbfigmiaaDoor
