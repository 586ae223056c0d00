/-
  For every two rests the law FnExactRestJoin returns true and writes nothing that was there; its package variables as the program's text lays them.
-/
import Derived.Test.YtjpiihjgbllieaaDoorVd
import Derived.Test.YtjpiihjgbllieaaDoorVa
import Derived.Test.YtjpiihjgbllieaaDoorTie
import Derived.Test.YtjpiihjgbllieaaDoorCards
import Derived.SevenTiedAt
import Derived.Stop.LaidErr
import Derived.ShutString
import Derived.ChangeOld
import Derived.Below
namespace Go.Proofs.YtjpiihjgbllieaaDoor.fnExactRestJoin
open Go.ChangeShapes Go.WideShapes Go.ChangeAt Go.RowKit Go.Proofs.YtjpiihjgbllieaaDoor.num
set_option linter.unusedVariables false

/-- The variables that the row lists. -/
abbrev laid : List (String × DataW Unit) := Rows.fnExactRestJoinRow.laid
/-- The door's own heap meets the condition. -/
theorem door_met (os : Os) (args : Array Value) : laidMetH Tryd.prog laid ((World.doorLaid Tryd.prog 400 os).forCall (fun _ _ => 0) ⟨#[], args, []⟩).memory :=
  laidMetH_of_parts3 (fuel := 8) (laidMet_of_run' 8 (by kernel_rfl) (by kernel_rfl)) (by kernel_rfl) (by kernel_rfl)
theorem laid_of {W : World} (h : laidMetH Tryd.prog laid W) : Gv W 0 (1, 0) := by
  rw [MakeChecks.laidMetH_plain _ _ _ (by kernel_rfl)] at h
  exact gv_of_headQ (by kernel_rfl) (by kernel_rfl) h
theorem walk (x y x2 y2 : Int) (w : World) (h : Gq w) :
    Calls Tryd.prog 6 #[.agg #[.int .i64 x, .int .i64 y], .agg #[.int .i64 x2, .int .i64 y2]] w fun e w' => e = .returned (.bool true) ∧ Below w.heap.size w w' := by
  obtain ⟨W, hW, H⟩ := Hd.two w (.int .i64 x) (.int .i64 y) (.int .i64 x2) (.int .i64 y2) 40 40
  go_enter Tryd.func6, Tryd.ntmps6
  go_wp2_with fail
  rw [← hW]
  clear hW
  have a0 := H.get (b := w.heap.size) (o := 0) (v := .int .i64 x) (by simp)
  have a1 := H.get (b := w.heap.size) (o := 1) (v := .int .i64 y) (by simp)
  have b0 := H.get (b := w.heap.size + 1) (o := 0) (v := .int .i64 x2) (by simp)
  have b1 := H.get (b := w.heap.size + 1) (o := 1) (v := .int .i64 y2) (by simp)
  have l0 := H.lt (b := w.heap.size) (o := 0) (v := .int .i64 x) (by simp)
  have l1 := H.lt (b := w.heap.size + 1) (o := 0) (v := .int .i64 x2) (by simp)
  go_cut [5] from 5 (fun t5 wx => ∃ g, t5 = .pointer (some ⟨g, 0, none⟩) ∧ w.heap.size + 1 < g ∧ Hd w ((g, 0, .int .i64 (join9 (x, y) (x2, y2)).1) :: (g, 1, .int .i64 (join9 (x, y) (x2, y2)).2) :: [(w.heap.size + 1, 0, .int .i64 x2), (w.heap.size + 1, 1, .int .i64 y2), (w.heap.size, 0, .int .i64 x), (w.heap.size, 1, .int .i64 y)]) wx)
  case first =>
    go_region_held3 (fun w' => w'.cell? ⟨w.heap.size, 0, none⟩ = some (.int .i64 x) ∧ w'.cell? ⟨w.heap.size, 1, none⟩ = some (.int .i64 y) ∧ w'.cell? ⟨w.heap.size + 1, 0, none⟩ = some (.int .i64 x2) ∧ w'.cell? ⟨w.heap.size + 1, 1, none⟩ = some (.int .i64 y2)) (first | exact ⟨a0, a1, b0, b1⟩ | (simp [go_sem, *]; done)) (first | (go_at_call 30; refine (toRest_xy _ _ _).mono ?_; rintro e w' ⟨rfl, hb⟩; (first | (replace H := H.call hb) | (replace H := (H.drewN 1).call hb) | (replace H := (H.box _ _ _).call hb) | (replace H := ((H.box _ _ _).drewN 1).call hb) | (replace H := ((H.drewN 1).box _ _ _).call hb)); obtain ⟨n0, n1, n2, n3, n4⟩ := H.top; have a0 := H.get (b := w.heap.size) (o := 0) (v := .int .i64 x) (by simp); have a1 := H.get (b := w.heap.size) (o := 1) (v := .int .i64 y) (by simp); have b0 := H.get (b := w.heap.size + 1) (o := 0) (v := .int .i64 x2) (by simp); have b1 := H.get (b := w.heap.size + 1) (o := 1) (v := .int .i64 y2) (by simp); have l0 := H.lt (b := w.heap.size) (o := 0) (v := .int .i64 x) (by simp); have l1 := H.lt (b := w.heap.size + 1) (o := 0) (v := .int .i64 x2) (by simp)) | (go_at_call 27; refine (sRestJoin_xy _ _ _ _ _).mono ?_; rintro e w' ⟨rfl, hb⟩; (first | (replace H := H.call hb) | (replace H := (H.drewN 1).call hb) | (replace H := (H.box _ _ _).call hb) | (replace H := ((H.box _ _ _).drewN 1).call hb) | (replace H := ((H.drewN 1).box _ _ _).call hb)); obtain ⟨n0, n1, n2, n3, n4⟩ := H.top; have a0 := H.get (b := w.heap.size) (o := 0) (v := .int .i64 x) (by simp); have a1 := H.get (b := w.heap.size) (o := 1) (v := .int .i64 y) (by simp); have b0 := H.get (b := w.heap.size + 1) (o := 0) (v := .int .i64 x2) (by simp); have b1 := H.get (b := w.heap.size + 1) (o := 1) (v := .int .i64 y2) (by simp); have l0 := H.lt (b := w.heap.size) (o := 0) (v := .int .i64 x) (by simp); have l1 := H.lt (b := w.heap.size + 1) (o := 0) (v := .int .i64 x2) (by simp)))
    all_goals
      go_wp2_with fail
      go_meet
      first
        | exact ⟨_, rfl, by omega, H.box _ _ _⟩
        | exact ⟨_, rfl, by omega, H.set2 (by omega) (by simp; omega) _ _⟩
  case rest =>
    obtain ⟨g, rfl, hg, H'⟩ := hcut
    clear H a0 a1 b0 b1 l0 l1
    have H := H'
    clear H'
    generalize hq : (join9 (x, y) (x2, y2)) = q at *
    have a0 := H.get (b := w.heap.size) (o := 0) (v := .int .i64 x) (by simp)
    have a1 := H.get (b := w.heap.size) (o := 1) (v := .int .i64 y) (by simp)
    have b0 := H.get (b := w.heap.size + 1) (o := 0) (v := .int .i64 x2) (by simp)
    have b1 := H.get (b := w.heap.size + 1) (o := 1) (v := .int .i64 y2) (by simp)
    have l0 := H.lt (b := w.heap.size) (o := 0) (v := .int .i64 x) (by simp)
    have l1 := H.lt (b := w.heap.size + 1) (o := 0) (v := .int .i64 x2) (by simp)
    have j0 := H.get (b := g) (o := 0) (v := .int .i64 q.1) (by simp); have j1 := H.get (b := g) (o := 1) (v := .int .i64 q.2) (by simp); have jl := H.lt (b := g) (o := 0) (v := .int .i64 q.1) (by simp)
    go_wp2_with fail
    go_cut [6] from 6 (fun t6 wx => ∃ g2, t6 = .pointer (some ⟨g2, 0, none⟩) ∧ g < g2 ∧ Hd w ((g2, 0, .int .i64 q.1) :: (g2, 1, .int .i64 q.2) :: (g, 0, .int .i64 q.1) :: (g, 1, .int .i64 q.2) :: [(w.heap.size + 1, 0, .int .i64 x2), (w.heap.size + 1, 1, .int .i64 y2), (w.heap.size, 0, .int .i64 x), (w.heap.size, 1, .int .i64 y)]) wx)
    case first =>
      go_region_held3 (fun w' => w'.cell? ⟨w.heap.size, 0, none⟩ = some (.int .i64 x) ∧ w'.cell? ⟨w.heap.size, 1, none⟩ = some (.int .i64 y) ∧ w'.cell? ⟨w.heap.size + 1, 0, none⟩ = some (.int .i64 x2) ∧ w'.cell? ⟨w.heap.size + 1, 1, none⟩ = some (.int .i64 y2) ∧ w'.cell? ⟨g, 0, none⟩ = some (.int .i64 q.1) ∧ w'.cell? ⟨g, 1, none⟩ = some (.int .i64 q.2)) (first | exact ⟨a0, a1, b0, b1, j0, j1⟩ | (simp [go_sem, *]; done)) (first | (go_at_call 30; refine (toRest_xy _ _ _).mono ?_; rintro e w' ⟨rfl, hb⟩; (first | rw [hq] | skip); (first | (replace H := H.call hb) | (replace H := (H.drewN 1).call hb) | (replace H := (H.box _ _ _).call hb) | (replace H := ((H.box _ _ _).drewN 1).call hb) | (replace H := ((H.drewN 1).box _ _ _).call hb)); obtain ⟨n0, n1, n2, n3, n4⟩ := H.top; have a0 := H.get (b := w.heap.size) (o := 0) (v := .int .i64 x) (by simp); have a1 := H.get (b := w.heap.size) (o := 1) (v := .int .i64 y) (by simp); have b0 := H.get (b := w.heap.size + 1) (o := 0) (v := .int .i64 x2) (by simp); have b1 := H.get (b := w.heap.size + 1) (o := 1) (v := .int .i64 y2) (by simp); have l0 := H.lt (b := w.heap.size) (o := 0) (v := .int .i64 x) (by simp); have l1 := H.lt (b := w.heap.size + 1) (o := 0) (v := .int .i64 x2) (by simp); have j0 := H.get (b := g) (o := 0) (v := .int .i64 q.1) (by simp); have j1 := H.get (b := g) (o := 1) (v := .int .i64 q.2) (by simp); have jl := H.lt (b := g) (o := 0) (v := .int .i64 q.1) (by simp)) | (go_at_call 24; refine (iRestJoin_xy _ _ _ _ _ (by first | exact Gv.below h H.below | exact Gv.below h (H.drewN 1).below | exact Gv.below h (H.box _ _ _).below | exact Gv.below h ((H.box _ _ _).drewN 1).below)).mono ?_; rintro e w' ⟨rfl, hb⟩; (first | rw [hq] | skip); (first | (replace H := H.call hb) | (replace H := (H.drewN 1).call hb) | (replace H := (H.box _ _ _).call hb) | (replace H := ((H.box _ _ _).drewN 1).call hb) | (replace H := ((H.drewN 1).box _ _ _).call hb)); obtain ⟨n0, n1, n2, n3, n4⟩ := H.top; have a0 := H.get (b := w.heap.size) (o := 0) (v := .int .i64 x) (by simp); have a1 := H.get (b := w.heap.size) (o := 1) (v := .int .i64 y) (by simp); have b0 := H.get (b := w.heap.size + 1) (o := 0) (v := .int .i64 x2) (by simp); have b1 := H.get (b := w.heap.size + 1) (o := 1) (v := .int .i64 y2) (by simp); have l0 := H.lt (b := w.heap.size) (o := 0) (v := .int .i64 x) (by simp); have l1 := H.lt (b := w.heap.size + 1) (o := 0) (v := .int .i64 x2) (by simp); have j0 := H.get (b := g) (o := 0) (v := .int .i64 q.1) (by simp); have j1 := H.get (b := g) (o := 1) (v := .int .i64 q.2) (by simp); have jl := H.lt (b := g) (o := 0) (v := .int .i64 q.1) (by simp)))
      all_goals
        go_wp2_with fail
        go_meet
        first
          | exact ⟨_, rfl, by omega, H.box _ _ _⟩
          | exact ⟨_, rfl, by omega, H.set2 (by omega) (by simp; omega) _ _⟩
    case rest =>
      obtain ⟨g2, rfl, hg2, H'⟩ := hcut
      clear H a0 a1 b0 b1 l0 l1 j0 j1 jl
      have H := H'
      clear H'
      have j0 := H.get (b := g) (o := 0) (v := .int .i64 q.1) (by simp)
      have j1 := H.get (b := g) (o := 1) (v := .int .i64 q.2) (by simp)
      have r0 := H.get (b := g2) (o := 0) (v := .int .i64 q.1) (by simp)
      have r1 := H.get (b := g2) (o := 1) (v := .int .i64 q.2) (by simp)
      go_wp2_with (go_at_call 31; refine (eqRest_xy _ _ _ _ _).mono ?_; rintro e w' ⟨rfl, hb⟩; replace H := H.call hb)
      go_ret
      exact ⟨rfl, H.below⟩
set_option maxRecDepth 100000 in
theorem lifted (os : Os) (started : os.Started) (H : Type) (enc : TypeId × Value → H) :
    ReturnsInHanded {} Tryd.checked os 6 .any (fun w args => (Rows.fnExactRestJoinSpec.pre enc Tryd.prog Tryd.f6 [] false w args ∧ laidMetH Tryd.prog laid w) ∧ sizedMet enc Tryd.prog Tryd.f6 (OpenSpec.ofChange Rows.fnExactRestJoinSpec) false w args)
      (Rows.fnExactRestJoinSpec.post enc Tryd.prog Tryd.f6 false true false false) := by
  refine returnsInHanded_of_change_and (C := Tryd.checked) (X := fun w _ => laidMetH Tryd.prog laid w) (fun _ _ _ hh h => h.of_heap hh) own started (by kernel_rfl) Tryd.func6
    (ChangeSpec.witness_shaped (enc := enc) (C := Tryd.checked) (os := os) (X := fun w _ => laidMetH Tryd.prog laid w) false (World.doorLaid Tryd.prog 400 os) #[.agg #[.int .i64 0, .int .i64 0], .agg #[.int .i64 0, .int .i64 0]] 8 rfl (World.shaped_of_RefB (by kernel_rfl) (by kernel_rfl)) (by kernel_rfl) (by kernel_rfl) (by kernel_rfl) (door_met os _)) ?_
  intro W base args ds gs before hval0 hW _ _ hL _
  have hval : ∀ (j : Nat) t v, Tryd.f6.params[j]? = some t → args[j]? = some v → Value.okWide Tryd.prog W .any base t v := hval0
  have hW' := hW
  obtain ⟨p, q, hA0, hV0, rfl, hfz, hnd⟩ := hW
  have hA : DataW.TrodAll enc Tryd.prog W 0 (fun _ => true) true Tryd.f6.params.toList args.toList ds p := hA0
  have hV : DataW.TrodVars enc Tryd.prog W (fun _ => true) Rows.fnExactRestJoinSpec.vars gs q := hV0
  rw [Tryd.params6] at hA hval
  obtain ⟨v0, vs0, d0, ds0, p0, q0, hargs, rfl, rfl, h0, r0⟩ := trodAll_cons hA
  obtain ⟨v1, vs1, d1, ds1, p1, q1, hvs0, rfl, rfl, h1, r1⟩ := trodAll_cons r0
  obtain ⟨rfl, rfl, rfl⟩ := trodAll_nil r1
  obtain rfl : args = #[v0, v1] := by cases args; simp_all
  have k0 := h0
  have lt0 : ∀ x ∈ p0, x.block < W.heap.size := by obtain ⟨m, hm⟩ := k0; exact DataW.trod_lt m _ _ _ hm
  obtain ⟨a0, rfl⟩ := arg_twoQ (okWide_struct Tryd.underlying40 (hval 0 40 v0 rfl rfl)) h0
  have k1 := h1
  have lt1 : ∀ x ∈ p1, x.block < W.heap.size := by obtain ⟨m, hm⟩ := k1; exact DataW.trod_lt m _ _ _ hm
  obtain ⟨a1, rfl⟩ := arg_twoQ (okWide_struct Tryd.underlying40 (hval 1 40 v1 rfl rfl)) h1
  have hL' := laid_of hL
  clear hA0 hval0
  refine (walk a0.1 a0.2 a1.1 a1.2 W  hL').mono fun e W' ⟨he, bel⟩ => ?_
  subst he
  have kV := Below.trodVars laidOut bel (ns := Rows.fnExactRestJoinSpec.vars) (by kernel_rfl) hV
  have hlen : gs.length = 1 := vars_len hV
  match gs, hlen with
  | [g0], _ =>
    exact ⟨_, rfl, _, _, _, [], _, _, hW', trodAll_mk1 (shut_bool Tryd.underlying4 _), (trodAll_cons_mk (Below.trod laidOut (by kernel_rfl) (of_decide_eq_true (by kernel_rfl)) k0 bel lt0) (trodAll_cons_mk (Below.trod laidOut (by kernel_rfl) (of_decide_eq_true (by kernel_rfl)) k1 bel lt1) trodAll_mk0)), kV, bel.frame _, fun h => by cases h⟩

theorem over : Rows.FnExactRestJoinSaid :=
  OpenClaim.holds_of_wide 6 Tryd.f6 rfl rfl rfl rfl rfl rfl rfl ⟨rfl, rfl, rfl, rfl, rfl⟩ rfl rfl rfl rfl rfl (by kernel_rfl) Tryd.func6 (by kernel_rfl)
    (of_decide_eq_true (by kernel_rfl)) (by unfold Func.isWrapper; first | (rw [if_pos (by decide +kernel)]; kernel_rfl) | (rw [if_neg (by decide +kernel)]; exact ⟨rfl, rfl⟩))
    (fun os started H enc _ => lifted os started H enc)
end Go.Proofs.YtjpiihjgbllieaaDoor.fnExactRestJoin
namespace Go.Proofs.YtjpiihjgbllieaaDoor
open Go
/-- THE STATEMENT: the tied card. -/
theorem fnExactRestJoin_holds : Rows.FnExactRestJoinCardSaid :=
  Claim7.holds_tied_plain_at .later [] [.data] true Rows.fnExactRestJoinCard.stood.harness true
    fnExactRestJoin.over (fun _ h => by cases h) (by kernel_rfl) (fun _ h => by cases h) fnExactRestJoin_row_tie rfl ⟨rfl, rfl⟩ (by kernel_rfl) rfl
    (fun f fn hf hfn => by
      obtain rfl : f = 6 := Option.some.inj ((show Tryd.prog.funcNamed Rows.fnExactRestJoinRow.func = some 6 by kernel_rfl).symm.trans hf) |>.symm
      obtain rfl : fn = Tryd.f6 := (Option.some.inj (Tryd.func6.symm.trans hfn)).symm
      exact ⟨by kernel_rfl, fun j t ht => by
        rw [Tryd.params6] at ht
        have hm : t ∈ [40, 40] := by simpa using Array.mem_of_getElem? ht
        have hall : ([40, 40].all fun u => !Tryd.prog.wantsStandIn u) = true := by kernel_rfl
        exact (show Tryd.prog.wantsStandIn t = false by simpa using List.all_eq_true.1 hall t hm)⟩)
    (by kernel_rfl)
#print axioms fnExactRestJoin_holds
end Go.Proofs.YtjpiihjgbllieaaDoor
