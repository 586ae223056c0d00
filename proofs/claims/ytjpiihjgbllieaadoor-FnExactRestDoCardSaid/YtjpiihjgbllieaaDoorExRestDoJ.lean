/-
  For every number of an operator and two rests the law FnExactRestDo returns true and writes nothing that was there; its package variables as the program's text lays them.
-/
import Derived.Test.YtjpiihjgbllieaaDoorXX
import Derived.Test.YtjpiihjgbllieaaDoorVV
import Derived.Test.YtjpiihjgbllieaaDoorHq
import Derived.Test.YtjpiihjgbllieaaDoorTie
import Derived.Test.YtjpiihjgbllieaaDoorCards
import Derived.SevenTiedAt
import Derived.Stop.LaidErr
import Derived.ShutString
import Derived.ChangeOld
import Derived.Below
namespace Go.Proofs.YtjpiihjgbllieaaDoor.fnExactRestDo
open Go.ChangeShapes Go.WideShapes Go.ChangeAt Go.RowKit Go.Proofs.YtjpiihjgbllieaaDoor.num
set_option linter.unusedVariables false

/-- The variables that the row lists. -/
abbrev laid : List (String × DataW Unit) := Rows.fnExactRestDoRow.laid
/-- The door's own heap meets the condition. -/
theorem door_met (os : Os) (args : Array Value) : laidMetH Tryd.prog laid ((World.doorLaid Tryd.prog 400 os).forCall (fun _ _ => 0) ⟨#[], args, []⟩).memory :=
  laidMetH_of_parts3 (fuel := 8) (laidMet_of_run' 8 (by kernel_rfl) (by kernel_rfl)) (by kernel_rfl) (by kernel_rfl)
theorem laid_of {W : World} (h : laidMetH Tryd.prog laid W) : Gv W 0 (1, 0) ∧ Gv W 3 (0, 31) := by
  rw [MakeChecks.laidMetH_plain _ _ _ (by kernel_rfl)] at h
  exact ⟨gv_of_headQ (by kernel_rfl) (by kernel_rfl) (laidMet.tail h), gv_of_head (by kernel_rfl) (by kernel_rfl) h⟩
theorem walk (op x y x2 y2 : Int) (w : World) (h : Gq w) (hS : Gv w 3 (0, 31)) :
    Calls Tryd.prog 7 #[.int .i64 op, .agg #[.int .i64 x, .int .i64 y], .agg #[.int .i64 x2, .int .i64 y2]] w fun e w' => e = .returned (.bool true) ∧ Below w.heap.size w w' := by
  obtain ⟨W, hW, H⟩ := Hd.two w (.int .i64 x) (.int .i64 y) (.int .i64 x2) (.int .i64 y2) 40 40
  go_enter Tryd.func7, Tryd.ntmps7
  go_wp2_with fail
  rw [← hW]
  clear hW
  have a0 := H.get (b := w.heap.size) (o := 0) (v := .int .i64 x) (by simp)
  have a1 := H.get (b := w.heap.size) (o := 1) (v := .int .i64 y) (by simp)
  have b0 := H.get (b := w.heap.size + 1) (o := 0) (v := .int .i64 x2) (by simp)
  have b1 := H.get (b := w.heap.size + 1) (o := 1) (v := .int .i64 y2) (by simp)
  have l0 := H.lt (b := w.heap.size) (o := 0) (v := .int .i64 x) (by simp)
  have l1 := H.lt (b := w.heap.size + 1) (o := 0) (v := .int .i64 x2) (by simp)
  go_cut [7] from 7 (fun t7 wx => ∃ g, t7 = .pointer (some ⟨g, 0, none⟩) ∧ w.heap.size + 1 < g ∧ Hd w ((g, 0, .int .i64 (do9 op (x, y) (x2, y2)).1) :: (g, 1, .int .i64 (do9 op (x, y) (x2, y2)).2) :: [(w.heap.size + 1, 0, .int .i64 x2), (w.heap.size + 1, 1, .int .i64 y2), (w.heap.size, 0, .int .i64 x), (w.heap.size, 1, .int .i64 y)]) wx)
  case first =>
    go_region_held3 (fun w' => w'.cell? ⟨w.heap.size, 0, none⟩ = some (.int .i64 x) ∧ w'.cell? ⟨w.heap.size, 1, none⟩ = some (.int .i64 y) ∧ w'.cell? ⟨w.heap.size + 1, 0, none⟩ = some (.int .i64 x2) ∧ w'.cell? ⟨w.heap.size + 1, 1, none⟩ = some (.int .i64 y2)) (first | exact ⟨a0, a1, b0, b1⟩ | (simp [go_sem, *]; done)) (first | (go_at_call 30; refine (toRest_xy _ _ _).mono ?_; rintro e w' ⟨rfl, hb⟩; (first | (replace H := H.call hb) | (replace H := (H.drewN 1).call hb) | (replace H := (H.box _ _ _).call hb) | (replace H := ((H.box _ _ _).drewN 1).call hb) | (replace H := ((H.drewN 1).box _ _ _).call hb)); obtain ⟨n0, n1, n2, n3, n4⟩ := H.top; have a0 := H.get (b := w.heap.size) (o := 0) (v := .int .i64 x) (by simp); have a1 := H.get (b := w.heap.size) (o := 1) (v := .int .i64 y) (by simp); have b0 := H.get (b := w.heap.size + 1) (o := 0) (v := .int .i64 x2) (by simp); have b1 := H.get (b := w.heap.size + 1) (o := 1) (v := .int .i64 y2) (by simp); have l0 := H.lt (b := w.heap.size) (o := 0) (v := .int .i64 x) (by simp); have l1 := H.lt (b := w.heap.size + 1) (o := 0) (v := .int .i64 x2) (by simp)) | (go_at_call 16; refine (sDo_xy _ _ _ _ _ _).mono ?_; rintro e w' ⟨rfl, hb⟩; (first | (replace H := H.call hb) | (replace H := (H.drewN 1).call hb) | (replace H := (H.box _ _ _).call hb) | (replace H := ((H.box _ _ _).drewN 1).call hb) | (replace H := ((H.drewN 1).box _ _ _).call hb)); obtain ⟨n0, n1, n2, n3, n4⟩ := H.top; have a0 := H.get (b := w.heap.size) (o := 0) (v := .int .i64 x) (by simp); have a1 := H.get (b := w.heap.size) (o := 1) (v := .int .i64 y) (by simp); have b0 := H.get (b := w.heap.size + 1) (o := 0) (v := .int .i64 x2) (by simp); have b1 := H.get (b := w.heap.size + 1) (o := 1) (v := .int .i64 y2) (by simp); have l0 := H.lt (b := w.heap.size) (o := 0) (v := .int .i64 x) (by simp); have l1 := H.lt (b := w.heap.size + 1) (o := 0) (v := .int .i64 x2) (by simp)))
    all_goals
      go_wp2_with fail
      go_meet
      first
        | exact ⟨_, rfl, by omega, H.box _ _ _⟩
        | exact ⟨_, rfl, by omega, H.set2 (by omega) (by simp; omega) _ _⟩
  case rest =>
    obtain ⟨g, rfl, hg, H'⟩ := hcut
    clear H a0 a1 b0 b1 l0 l1
    have H := H'
    clear H'
    generalize hq : (do9 op (x, y) (x2, y2)) = q at *
    have a0 := H.get (b := w.heap.size) (o := 0) (v := .int .i64 x) (by simp)
    have a1 := H.get (b := w.heap.size) (o := 1) (v := .int .i64 y) (by simp)
    have b0 := H.get (b := w.heap.size + 1) (o := 0) (v := .int .i64 x2) (by simp)
    have b1 := H.get (b := w.heap.size + 1) (o := 1) (v := .int .i64 y2) (by simp)
    have l0 := H.lt (b := w.heap.size) (o := 0) (v := .int .i64 x) (by simp)
    have l1 := H.lt (b := w.heap.size + 1) (o := 0) (v := .int .i64 x2) (by simp)
    have j0 := H.get (b := g) (o := 0) (v := .int .i64 q.1) (by simp); have j1 := H.get (b := g) (o := 1) (v := .int .i64 q.2) (by simp); have jl := H.lt (b := g) (o := 0) (v := .int .i64 q.1) (by simp)
    go_wp2_with fail
    go_cut [8] from 8 (fun t8 wx => ∃ g2, t8 = .pointer (some ⟨g2, 0, none⟩) ∧ g < g2 ∧ Hd w ((g2, 0, .int .i64 q.1) :: (g2, 1, .int .i64 q.2) :: (g, 0, .int .i64 q.1) :: (g, 1, .int .i64 q.2) :: [(w.heap.size + 1, 0, .int .i64 x2), (w.heap.size + 1, 1, .int .i64 y2), (w.heap.size, 0, .int .i64 x), (w.heap.size, 1, .int .i64 y)]) wx)
    case first =>
      go_region_held3 (fun w' => w'.cell? ⟨w.heap.size, 0, none⟩ = some (.int .i64 x) ∧ w'.cell? ⟨w.heap.size, 1, none⟩ = some (.int .i64 y) ∧ w'.cell? ⟨w.heap.size + 1, 0, none⟩ = some (.int .i64 x2) ∧ w'.cell? ⟨w.heap.size + 1, 1, none⟩ = some (.int .i64 y2) ∧ w'.cell? ⟨g, 0, none⟩ = some (.int .i64 q.1) ∧ w'.cell? ⟨g, 1, none⟩ = some (.int .i64 q.2)) (first | exact ⟨a0, a1, b0, b1, j0, j1⟩ | (simp [go_sem, *]; done)) (first | (go_at_call 30; refine (toRest_xy _ _ _).mono ?_; rintro e w' ⟨rfl, hb⟩; (first | rw [hq] | skip); (first | (replace H := H.call hb) | (replace H := (H.drewN 1).call hb) | (replace H := (H.box _ _ _).call hb) | (replace H := ((H.box _ _ _).drewN 1).call hb) | (replace H := ((H.drewN 1).box _ _ _).call hb)); obtain ⟨n0, n1, n2, n3, n4⟩ := H.top; have a0 := H.get (b := w.heap.size) (o := 0) (v := .int .i64 x) (by simp); have a1 := H.get (b := w.heap.size) (o := 1) (v := .int .i64 y) (by simp); have b0 := H.get (b := w.heap.size + 1) (o := 0) (v := .int .i64 x2) (by simp); have b1 := H.get (b := w.heap.size + 1) (o := 1) (v := .int .i64 y2) (by simp); have l0 := H.lt (b := w.heap.size) (o := 0) (v := .int .i64 x) (by simp); have l1 := H.lt (b := w.heap.size + 1) (o := 0) (v := .int .i64 x2) (by simp); have j0 := H.get (b := g) (o := 0) (v := .int .i64 q.1) (by simp); have j1 := H.get (b := g) (o := 1) (v := .int .i64 q.2) (by simp); have jl := H.lt (b := g) (o := 0) (v := .int .i64 q.1) (by simp)) | (go_at_call 15; refine (iDo_xy _ _ _ _ _ _ (by first | exact Gv.below h H.below | exact Gv.below h (H.drewN 1).below | exact Gv.below h (H.box _ _ _).below | exact Gv.below h ((H.box _ _ _).drewN 1).below) (by first | exact Gv.below hS H.below | exact Gv.below hS (H.drewN 1).below | exact Gv.below hS (H.box _ _ _).below | exact Gv.below hS ((H.box _ _ _).drewN 1).below)).mono ?_; rintro e w' ⟨rfl, hb⟩; (first | rw [hq] | skip); (first | (replace H := H.call hb) | (replace H := (H.drewN 1).call hb) | (replace H := (H.box _ _ _).call hb) | (replace H := ((H.box _ _ _).drewN 1).call hb) | (replace H := ((H.drewN 1).box _ _ _).call hb)); obtain ⟨n0, n1, n2, n3, n4⟩ := H.top; have a0 := H.get (b := w.heap.size) (o := 0) (v := .int .i64 x) (by simp); have a1 := H.get (b := w.heap.size) (o := 1) (v := .int .i64 y) (by simp); have b0 := H.get (b := w.heap.size + 1) (o := 0) (v := .int .i64 x2) (by simp); have b1 := H.get (b := w.heap.size + 1) (o := 1) (v := .int .i64 y2) (by simp); have l0 := H.lt (b := w.heap.size) (o := 0) (v := .int .i64 x) (by simp); have l1 := H.lt (b := w.heap.size + 1) (o := 0) (v := .int .i64 x2) (by simp); have j0 := H.get (b := g) (o := 0) (v := .int .i64 q.1) (by simp); have j1 := H.get (b := g) (o := 1) (v := .int .i64 q.2) (by simp); have jl := H.lt (b := g) (o := 0) (v := .int .i64 q.1) (by simp)))
      all_goals
        go_wp2_with fail
        go_meet
        first
          | exact ⟨_, rfl, by omega, H.box _ _ _⟩
          | exact ⟨_, rfl, by omega, H.set2 (by omega) (by simp; omega) _ _⟩
    case rest =>
      obtain ⟨g2, rfl, hg2, H'⟩ := hcut
      clear H a0 a1 b0 b1 l0 l1 j0 j1 jl
      have H := H'
      clear H'
      have j0 := H.get (b := g) (o := 0) (v := .int .i64 q.1) (by simp)
      have j1 := H.get (b := g) (o := 1) (v := .int .i64 q.2) (by simp)
      have r0 := H.get (b := g2) (o := 0) (v := .int .i64 q.1) (by simp)
      have r1 := H.get (b := g2) (o := 1) (v := .int .i64 q.2) (by simp)
      go_wp2_with (go_at_call 31; refine (eqRest_xy _ _ _ _ _).mono ?_; rintro e w' ⟨rfl, hb⟩; replace H := H.call hb)
      go_ret
      exact ⟨rfl, H.below⟩
set_option maxRecDepth 100000 in
theorem lifted (os : Os) (started : os.Started) (H : Type) (enc : TypeId × Value → H) :
    ReturnsInHanded {} Tryd.checked os 7 .any (fun w args => (Rows.fnExactRestDoSpec.pre enc Tryd.prog Tryd.f7 [] false w args ∧ laidMetH Tryd.prog laid w) ∧ sizedMet enc Tryd.prog Tryd.f7 (OpenSpec.ofChange Rows.fnExactRestDoSpec) false w args)
      (Rows.fnExactRestDoSpec.post enc Tryd.prog Tryd.f7 false true false false) := by
  refine returnsInHanded_of_change_and (C := Tryd.checked) (X := fun w _ => laidMetH Tryd.prog laid w) (fun _ _ _ hh h => h.of_heap hh) own started (by kernel_rfl) Tryd.func7
    (ChangeSpec.witness_shaped (enc := enc) (C := Tryd.checked) (os := os) (X := fun w _ => laidMetH Tryd.prog laid w) false (World.doorLaid Tryd.prog 400 os) #[.int .i64 0, .agg #[.int .i64 0, .int .i64 0], .agg #[.int .i64 0, .int .i64 0]] 8 rfl (World.shaped_of_RefB (by kernel_rfl) (by kernel_rfl)) (by kernel_rfl) (by kernel_rfl) (by kernel_rfl) (door_met os _)) ?_
  intro W base args ds gs before hval0 hW _ _ hL _
  have hval : ∀ (j : Nat) t v, Tryd.f7.params[j]? = some t → args[j]? = some v → Value.okWide Tryd.prog W .any base t v := hval0
  have hW' := hW
  obtain ⟨p, q, hA0, hV0, rfl, hfz, hnd⟩ := hW
  have hA : DataW.TrodAll enc Tryd.prog W 0 (fun _ => true) true Tryd.f7.params.toList args.toList ds p := hA0
  have hV : DataW.TrodVars enc Tryd.prog W (fun _ => true) Rows.fnExactRestDoSpec.vars gs q := hV0
  rw [Tryd.params7] at hA hval
  obtain ⟨v0, vs0, d0, ds0, p0, q0, hargs, rfl, rfl, h0, r0⟩ := trodAll_cons hA
  obtain ⟨v1, vs1, d1, ds1, p1, q1, hvs0, rfl, rfl, h1, r1⟩ := trodAll_cons r0
  obtain ⟨v2, vs2, d2, ds2, p2, q2, hvs1, rfl, rfl, h2, r2⟩ := trodAll_cons r1
  obtain ⟨rfl, rfl, rfl⟩ := trodAll_nil r2
  obtain rfl : args = #[v0, v1, v2] := by cases args; simp_all
  have k0 := h0
  have lt0 : ∀ x ∈ p0, x.block < W.heap.size := by obtain ⟨m, hm⟩ := k0; exact DataW.trod_lt m _ _ _ hm
  obtain ⟨z0, rfl⟩ := okWide_int Tryd.underlying3 (hval 0 3 v0 rfl rfl)
  have k1 := h1
  have lt1 : ∀ x ∈ p1, x.block < W.heap.size := by obtain ⟨m, hm⟩ := k1; exact DataW.trod_lt m _ _ _ hm
  obtain ⟨a1, rfl⟩ := arg_twoQ (okWide_struct Tryd.underlying40 (hval 1 40 v1 rfl rfl)) h1
  have k2 := h2
  have lt2 : ∀ x ∈ p2, x.block < W.heap.size := by obtain ⟨m, hm⟩ := k2; exact DataW.trod_lt m _ _ _ hm
  obtain ⟨a2, rfl⟩ := arg_twoQ (okWide_struct Tryd.underlying40 (hval 2 40 v2 rfl rfl)) h2
  have hL' := laid_of hL
  clear hA0 hval0
  refine (walk z0 a1.1 a1.2 a2.1 a2.2 W  hL'.1 hL'.2).mono fun e W' ⟨he, bel⟩ => ?_
  subst he
  have kV := Below.trodVars laidOut bel (ns := Rows.fnExactRestDoSpec.vars) (by kernel_rfl) hV
  have hlen : gs.length = 2 := vars_len hV
  match gs, hlen with
  | [g0, g1], _ =>
    exact ⟨_, rfl, _, _, _, [], _, _, hW', trodAll_mk1 (shut_bool Tryd.underlying4 _), (trodAll_cons_mk (Below.trod laidOut (by kernel_rfl) (of_decide_eq_true (by kernel_rfl)) k0 bel lt0) (trodAll_cons_mk (Below.trod laidOut (by kernel_rfl) (of_decide_eq_true (by kernel_rfl)) k1 bel lt1) (trodAll_cons_mk (Below.trod laidOut (by kernel_rfl) (of_decide_eq_true (by kernel_rfl)) k2 bel lt2) trodAll_mk0))), kV, bel.frame _, fun h => by cases h⟩

theorem over : Rows.FnExactRestDoSaid :=
  OpenClaim.holds_of_wide 7 Tryd.f7 rfl rfl rfl rfl rfl rfl rfl ⟨rfl, rfl, rfl, rfl, rfl⟩ rfl rfl rfl rfl rfl (by kernel_rfl) Tryd.func7 (by kernel_rfl)
    (of_decide_eq_true (by kernel_rfl)) (by unfold Func.isWrapper; first | (rw [if_pos (by decide +kernel)]; kernel_rfl) | (rw [if_neg (by decide +kernel)]; exact ⟨rfl, rfl⟩))
    (fun os started H enc _ => lifted os started H enc)
end Go.Proofs.YtjpiihjgbllieaaDoor.fnExactRestDo
namespace Go.Proofs.YtjpiihjgbllieaaDoor
open Go
/-- THE STATEMENT: the tied card. -/
theorem fnExactRestDo_holds : Rows.FnExactRestDoCardSaid :=
  Claim7.holds_tied_plain_at .later [] [.wider, .data] true Rows.fnExactRestDoCard.stood.harness true
    fnExactRestDo.over (fun _ h => by cases h) (by kernel_rfl) (fun _ h => by cases h) fnExactRestDo_row_tie rfl ⟨rfl, rfl⟩ (by kernel_rfl) rfl
    (fun f fn hf hfn => by
      obtain rfl : f = 7 := Option.some.inj ((show Tryd.prog.funcNamed Rows.fnExactRestDoRow.func = some 7 by kernel_rfl).symm.trans hf) |>.symm
      obtain rfl : fn = Tryd.f7 := (Option.some.inj (Tryd.func7.symm.trans hfn)).symm
      exact ⟨by kernel_rfl, fun j t ht => by
        rw [Tryd.params7] at ht
        have hm : t ∈ [3, 40, 40] := by simpa using Array.mem_of_getElem? ht
        have hall : ([3, 40, 40].all fun u => !Tryd.prog.wantsStandIn u) = true := by kernel_rfl
        exact (show Tryd.prog.wantsStandIn t = false by simpa using List.all_eq_true.1 hall t hm)⟩)
    (by kernel_rfl)
#print axioms fnExactRestDo_holds
end Go.Proofs.YtjpiihjgbllieaaDoor
