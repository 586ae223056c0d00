/-
  For every two ranges and steps the law FnExactRangeWiden returns true and writes nothing that was there; its package variables as the program's text lays them.
-/
import Derived.Test.YtjjglklbfigmiaaDoorTk
import Derived.Test.YtjjglklbfigmiaaDoorTj
import Derived.Test.YtjjglklbfigmiaaDoorSg
import Derived.Test.YtjjglklbfigmiaaDoorTie
import Derived.Test.YtjjglklbfigmiaaDoorCards
import Derived.SevenTiedAt
import Derived.Stop.LaidErr
import Derived.ShutString
import Derived.ChangeOld
import Derived.Below
namespace Go.Proofs.YtjjglklbfigmiaaDoor.fnExactRangeWiden
open Go.ChangeShapes Go.WideShapes Go.ChangeAt Go.RowKit Go.Proofs.YtjjglklbfigmiaaDoor.num
set_option linter.unusedVariables false

/-- The variables that the row lists. -/
abbrev laid : List (String × DataW Unit) := Rows.fnExactRangeWidenRow.laid
/-- The door's own heap meets the condition. -/
theorem door_met (os : Os) (args : Array Value) : laidMetH Tryd.prog laid ((World.doorLaid Tryd.prog 400 os).forCall (fun _ _ => 0) ⟨#[], args, []⟩).memory :=
  laidMetH_of_parts3 (fuel := 8) (laidMet_of_run' 8 (by kernel_rfl) (by kernel_rfl)) (by kernel_rfl) (by kernel_rfl)
theorem laid_of {W : World} (h : laidMetH Tryd.prog laid W) : Gv W 0 (1, 0) := by
  rw [MakeChecks.laidMetH_plain _ _ _ (by kernel_rfl)] at h
  exact gv_of_head (by kernel_rfl) (by kernel_rfl) h
set_option maxRecDepth 100000 in
set_option maxHeartbeats 4000000 in
theorem walk (x y x2 y2 : Int) (a : Option Addr) (cap : Nat) (l : List Int) (w : World) (hs : rws.Ints 0 w (.slice a l.length cap) l) (h : Gv w 0 (1, 0)) :
    Calls Tryd.prog 8 #[.agg #[.int .i64 x, .int .i64 y], .agg #[.int .i64 x2, .int .i64 y2], .slice a l.length cap] w fun e w' => e = .returned (.bool true) ∧ Below w.heap.size w w' := by
  obtain ⟨W, hW, H⟩ := Hd.two w (.int .i64 x) (.int .i64 y) (.int .i64 x2) (.int .i64 y2) 23 23
  by_cases hlen : 1048576 < l.length
  · go_enter Tryd.func8, Tryd.ntmps8
    go_wp2
    go_ret
    exact ⟨rfl, ((Below.refl _ _).alloc (Nat.le_refl _) _).alloc (by simp) _⟩
  replace hlen : l.length ≤ 1048576 := by omega
  have hc2 : cap ≤ 9223372036854775807 := by
    obtain ⟨_, _, e, _, hm⟩ := hs.shape
    cases e
    exact hm
  go_enter Tryd.func8, Tryd.ntmps8
  go_wp2_with fail
  rw [← hW]
  clear hW
  have a0 := H.get (b := w.heap.size) (o := 0) (v := .int .i64 x) (by simp)
  have a1 := H.get (b := w.heap.size) (o := 1) (v := .int .i64 y) (by simp)
  have b0 := H.get (b := w.heap.size + 1) (o := 0) (v := .int .i64 x2) (by simp)
  have b1 := H.get (b := w.heap.size + 1) (o := 1) (v := .int .i64 y2) (by simp)
  have l0 := H.lt (b := w.heap.size) (o := 0) (v := .int .i64 x) (by simp)
  have l1 := H.lt (b := w.heap.size + 1) (o := 0) (v := .int .i64 x2) (by simp)
  go_cut [7] from 7 (fun t7 wx => ∃ g, t7 = .pointer (some ⟨g, 0, none⟩) ∧ w.heap.size + 1 < g ∧ Hd w ((g, 0, .int .i64 (widen8 (x, y) (x2, y2) l).1) :: (g, 1, .int .i64 (widen8 (x, y) (x2, y2) l).2) :: [(w.heap.size + 1, 0, .int .i64 x2), (w.heap.size + 1, 1, .int .i64 y2), (w.heap.size, 0, .int .i64 x), (w.heap.size, 1, .int .i64 y)]) wx)
  case first =>
    go_region_held3 (fun w' => w'.cell? ⟨w.heap.size, 0, none⟩ = some (.int .i64 x) ∧ w'.cell? ⟨w.heap.size, 1, none⟩ = some (.int .i64 y) ∧ w'.cell? ⟨w.heap.size + 1, 0, none⟩ = some (.int .i64 x2) ∧ w'.cell? ⟨w.heap.size + 1, 1, none⟩ = some (.int .i64 y2)) (first | exact ⟨a0, a1, b0, b1⟩ | (simp [go_sem, *]; done)) (first | (go_at_call 19; refine (toRange_xy _ _ _).mono ?_; rintro e w' ⟨rfl, hb⟩; (first | (replace H := H.call hb) | (replace H := (H.drewN 1).call hb) | (replace H := (H.box _ _ _).call hb) | (replace H := ((H.box _ _ _).drewN 1).call hb) | (replace H := ((H.drewN 1).box _ _ _).call hb)); obtain ⟨n0, n1, n2, n3, n4⟩ := H.top; have a0 := H.get (b := w.heap.size) (o := 0) (v := .int .i64 x) (by simp); have a1 := H.get (b := w.heap.size) (o := 1) (v := .int .i64 y) (by simp); have b0 := H.get (b := w.heap.size + 1) (o := 0) (v := .int .i64 x2) (by simp); have b1 := H.get (b := w.heap.size + 1) (o := 1) (v := .int .i64 y2) (by simp); have l0 := H.lt (b := w.heap.size) (o := 0) (v := .int .i64 x) (by simp); have l1 := H.lt (b := w.heap.size + 1) (o := 0) (v := .int .i64 x2) (by simp)) | (go_at_call 31; refine (rws.toI_any l _ _ (by first | exact hs.below H.below | exact hs.below (H.drewN 1).below | exact hs.below (H.box _ _ _).below | exact hs.below ((H.box _ _ _).drewN 1).below) hlen).mono ?_; rintro e w' ⟨⟨v', rfl, hr⟩, hb⟩; (first | (replace H := H.call hb) | (replace H := (H.drewN 1).call hb) | (replace H := (H.box _ _ _).call hb) | (replace H := ((H.box _ _ _).drewN 1).call hb) | (replace H := ((H.drewN 1).box _ _ _).call hb)); obtain ⟨n0, n1, n2, n3, n4⟩ := H.top; have a0 := H.get (b := w.heap.size) (o := 0) (v := .int .i64 x) (by simp); have a1 := H.get (b := w.heap.size) (o := 1) (v := .int .i64 y) (by simp); have b0 := H.get (b := w.heap.size + 1) (o := 0) (v := .int .i64 x2) (by simp); have b1 := H.get (b := w.heap.size + 1) (o := 1) (v := .int .i64 y2) (by simp); have l0 := H.lt (b := w.heap.size) (o := 0) (v := .int .i64 x) (by simp); have l1 := H.lt (b := w.heap.size + 1) (o := 0) (v := .int .i64 x2) (by simp); have HV := hr.seq (ok := fun _ => True) (fun _ => rfl) (fun _ _ _ => trivial)) | (go_at_call 30; refine (RangeWiden_xy _ _ _ _ l _ _ (by first | exact HV | exact HV.below (Below.refl _ _) | exact HV.below (rws.below1 _ _))).mono ?_; rintro e w' ⟨rfl, hb⟩; (first | (replace H := H.call hb) | (replace H := (H.drewN 1).call hb) | (replace H := (H.box _ _ _).call hb) | (replace H := ((H.box _ _ _).drewN 1).call hb) | (replace H := ((H.drewN 1).box _ _ _).call hb)); obtain ⟨n0, n1, n2, n3, n4⟩ := H.top; have a0 := H.get (b := w.heap.size) (o := 0) (v := .int .i64 x) (by simp); have a1 := H.get (b := w.heap.size) (o := 1) (v := .int .i64 y) (by simp); have b0 := H.get (b := w.heap.size + 1) (o := 0) (v := .int .i64 x2) (by simp); have b1 := H.get (b := w.heap.size + 1) (o := 1) (v := .int .i64 y2) (by simp); have l0 := H.lt (b := w.heap.size) (o := 0) (v := .int .i64 x) (by simp); have l1 := H.lt (b := w.heap.size + 1) (o := 0) (v := .int .i64 x2) (by simp)))
    all_goals
      go_wp2_with fail
      go_meet
      first
        | exact ⟨_, rfl, by omega, H.box _ _ _⟩
        | exact ⟨_, rfl, by omega, H.set2 (by omega) (by simp; omega) _ _⟩
  case rest =>
    obtain ⟨g, rfl, hg, H'⟩ := hcut
    clear H a0 a1 b0 b1 l0 l1
    have H := H'
    clear H'
    generalize hq : (widen8 (x, y) (x2, y2) l) = q at *
    have a0 := H.get (b := w.heap.size) (o := 0) (v := .int .i64 x) (by simp)
    have a1 := H.get (b := w.heap.size) (o := 1) (v := .int .i64 y) (by simp)
    have b0 := H.get (b := w.heap.size + 1) (o := 0) (v := .int .i64 x2) (by simp)
    have b1 := H.get (b := w.heap.size + 1) (o := 1) (v := .int .i64 y2) (by simp)
    have l0 := H.lt (b := w.heap.size) (o := 0) (v := .int .i64 x) (by simp)
    have l1 := H.lt (b := w.heap.size + 1) (o := 0) (v := .int .i64 x2) (by simp)
    have j0 := H.get (b := g) (o := 0) (v := .int .i64 q.1) (by simp); have j1 := H.get (b := g) (o := 1) (v := .int .i64 q.2) (by simp); have jl := H.lt (b := g) (o := 0) (v := .int .i64 q.1) (by simp)
    go_wp2_with (go_at_call 31; refine (rws.toI_any l _ _ (hs.below H.below) hlen).mono ?_; rintro e wB ⟨⟨v', rfl, hr⟩, hb⟩; replace H := H.call hb; have a0 := H.get (b := w.heap.size) (o := 0) (v := .int .i64 x) (by simp); have a1 := H.get (b := w.heap.size) (o := 1) (v := .int .i64 y) (by simp); have b0 := H.get (b := w.heap.size + 1) (o := 0) (v := .int .i64 x2) (by simp); have b1 := H.get (b := w.heap.size + 1) (o := 1) (v := .int .i64 y2) (by simp); have l0 := H.lt (b := w.heap.size) (o := 0) (v := .int .i64 x) (by simp); have l1 := H.lt (b := w.heap.size + 1) (o := 0) (v := .int .i64 x2) (by simp); have j0 := H.get (b := g) (o := 0) (v := .int .i64 q.1) (by simp); have j1 := H.get (b := g) (o := 1) (v := .int .i64 q.2) (by simp); have jl := H.lt (b := g) (o := 0) (v := .int .i64 q.1) (by simp); have HX := hr.seq (ok := fun _ => True) (fun _ => rfl) (fun _ _ _ => trivial); have HB := Hd.start wB; clear hr hb)
    go_cut [9] from 9 (fun t9 wx => ∃ g2, t9 = .pointer (some ⟨g2, 0, none⟩) ∧ g < g2 ∧ Hd wB [] wx ∧ Hd w ((g2, 0, .int .i64 q.1) :: (g2, 1, .int .i64 q.2) :: (g, 0, .int .i64 q.1) :: (g, 1, .int .i64 q.2) :: [(w.heap.size + 1, 0, .int .i64 x2), (w.heap.size + 1, 1, .int .i64 y2), (w.heap.size, 0, .int .i64 x), (w.heap.size, 1, .int .i64 y)]) wx)
    case first =>
      go_region_held3 (fun w' => w'.cell? ⟨w.heap.size, 0, none⟩ = some (.int .i64 x) ∧ w'.cell? ⟨w.heap.size, 1, none⟩ = some (.int .i64 y) ∧ w'.cell? ⟨w.heap.size + 1, 0, none⟩ = some (.int .i64 x2) ∧ w'.cell? ⟨w.heap.size + 1, 1, none⟩ = some (.int .i64 y2) ∧ w'.cell? ⟨g, 0, none⟩ = some (.int .i64 q.1) ∧ w'.cell? ⟨g, 1, none⟩ = some (.int .i64 q.2)) (first | exact ⟨a0, a1, b0, b1, j0, j1⟩ | (simp [go_sem, *]; done)) (first | (go_at_call 19; refine (toRange_xy _ _ _).mono ?_; rintro e w' ⟨rfl, hb⟩; (first | rw [hq] | skip); (first | (replace HB := HB.call hb) | (replace HB := (HB.drewN 1).call hb) | (replace HB := (HB.alloc _).call hb) | (replace HB := ((HB.alloc _).drewN 1).call hb) | (replace HB := ((HB.drewN 1).alloc _).call hb)); have hsB := HB.below.size; (first | (replace H := H.call hb) | (replace H := (H.drewN 1).call hb) | (replace H := (H.box _ _ _).call hb) | (replace H := ((H.box _ _ _).drewN 1).call hb) | (replace H := ((H.drewN 1).box _ _ _).call hb)); obtain ⟨n0, n1, n2, n3, n4⟩ := H.top; have a0 := H.get (b := w.heap.size) (o := 0) (v := .int .i64 x) (by simp); have a1 := H.get (b := w.heap.size) (o := 1) (v := .int .i64 y) (by simp); have b0 := H.get (b := w.heap.size + 1) (o := 0) (v := .int .i64 x2) (by simp); have b1 := H.get (b := w.heap.size + 1) (o := 1) (v := .int .i64 y2) (by simp); have l0 := H.lt (b := w.heap.size) (o := 0) (v := .int .i64 x) (by simp); have l1 := H.lt (b := w.heap.size + 1) (o := 0) (v := .int .i64 x2) (by simp); have j0 := H.get (b := g) (o := 0) (v := .int .i64 q.1) (by simp); have j1 := H.get (b := g) (o := 1) (v := .int .i64 q.2) (by simp); have jl := H.lt (b := g) (o := 0) (v := .int .i64 q.1) (by simp)) | (go_at_call 32; refine (iWiden_xy _ _ _ _ l _ _ (by first | exact HX.below HB.below | exact HX.below (HB.drewN 1).below | exact HX.below (HB.alloc _).below | exact HX.below ((HB.alloc _).drewN 1).below) (by first | exact h.below H.below | exact h.below (H.drewN 1).below | exact h.below (H.box _ _ _).below | exact h.below ((H.box _ _ _).drewN 1).below)).mono ?_; rintro e w' ⟨rfl, hb⟩; (first | rw [hq] | skip); (first | (replace HB := HB.call hb) | (replace HB := (HB.drewN 1).call hb) | (replace HB := (HB.alloc _).call hb) | (replace HB := ((HB.alloc _).drewN 1).call hb) | (replace HB := ((HB.drewN 1).alloc _).call hb)); have hsB := HB.below.size; (first | (replace H := H.call hb) | (replace H := (H.drewN 1).call hb) | (replace H := (H.box _ _ _).call hb) | (replace H := ((H.box _ _ _).drewN 1).call hb) | (replace H := ((H.drewN 1).box _ _ _).call hb)); obtain ⟨n0, n1, n2, n3, n4⟩ := H.top; have a0 := H.get (b := w.heap.size) (o := 0) (v := .int .i64 x) (by simp); have a1 := H.get (b := w.heap.size) (o := 1) (v := .int .i64 y) (by simp); have b0 := H.get (b := w.heap.size + 1) (o := 0) (v := .int .i64 x2) (by simp); have b1 := H.get (b := w.heap.size + 1) (o := 1) (v := .int .i64 y2) (by simp); have l0 := H.lt (b := w.heap.size) (o := 0) (v := .int .i64 x) (by simp); have l1 := H.lt (b := w.heap.size + 1) (o := 0) (v := .int .i64 x2) (by simp); have j0 := H.get (b := g) (o := 0) (v := .int .i64 q.1) (by simp); have j1 := H.get (b := g) (o := 1) (v := .int .i64 q.2) (by simp); have jl := H.lt (b := g) (o := 0) (v := .int .i64 q.1) (by simp)))
      all_goals
        go_wp2_with fail
        go_meet
        first
          | exact ⟨_, rfl, by omega, HB.alloc _, H.box _ _ _⟩
          | exact ⟨_, rfl, by omega, (HB.setOther (by omega) (by simp) _).setOther (by omega) (by simp) _, H.set2 (by omega) (by simp; omega) _ _⟩
    case rest =>
      obtain ⟨g2, rfl, hg2, HB', H'⟩ := hcut
      clear H HB a0 a1 b0 b1 l0 l1 j0 j1 jl
      have H := H'
      have HB := HB'
      clear H' HB'
      have j0 := H.get (b := g) (o := 0) (v := .int .i64 q.1) (by simp)
      have j1 := H.get (b := g) (o := 1) (v := .int .i64 q.2) (by simp)
      have r0 := H.get (b := g2) (o := 0) (v := .int .i64 q.1) (by simp)
      have r1 := H.get (b := g2) (o := 1) (v := .int .i64 q.2) (by simp)
      go_wp2_with (first | (go_at_call 27; refine (eqRange_xy _ _ _ _ _).mono ?_; rintro e w' ⟨rfl, hb⟩; replace H := H.call hb; replace HB := HB.call hb) | (go_at_call 31; refine (rws.toI_any l _ _ (hs.below H.below) hlen).mono ?_; rintro e w' ⟨⟨v2, rfl, hr⟩, hb⟩; replace H := H.call hb; replace HB := HB.call hb; have HY := hr.seq (ok := fun _ => True) (fun _ => rfl) (fun _ _ _ => trivial)) | (go_at_call 33; refine (rws.eqI_same l _ _ _ (HX.below HB.below) HY).mono ?_; rintro e w' ⟨rfl, hb⟩; replace H := H.call hb))
      go_ret
      exact ⟨rfl, H.below⟩
set_option maxRecDepth 100000 in
theorem lifted (os : Os) (started : os.Started) (H : Type) (enc : TypeId × Value → H) :
    ReturnsInHanded {} Tryd.checked os 8 .any (fun w args => (Rows.fnExactRangeWidenSpec.pre enc Tryd.prog Tryd.f8 [] false w args ∧ laidMetH Tryd.prog laid w) ∧ sizedMet enc Tryd.prog Tryd.f8 (OpenSpec.ofChange Rows.fnExactRangeWidenSpec) false w args)
      (Rows.fnExactRangeWidenSpec.post enc Tryd.prog Tryd.f8 false true false false) := by
  refine returnsInHanded_of_change_and (C := Tryd.checked) (X := fun w _ => laidMetH Tryd.prog laid w) (fun _ _ _ hh h => h.of_heap hh) own started (by kernel_rfl) Tryd.func8
    (ChangeSpec.witness_shaped (enc := enc) (C := Tryd.checked) (os := os) (X := fun w _ => laidMetH Tryd.prog laid w) false (World.doorLaid Tryd.prog 400 os) #[.agg #[.int .i64 0, .int .i64 0], .agg #[.int .i64 0, .int .i64 0], .slice none 0 0] 8 rfl (World.shaped_of_RefB (by kernel_rfl) (by kernel_rfl)) (by kernel_rfl) (by kernel_rfl) (by kernel_rfl) (door_met os _)) ?_
  intro W base args ds gs before hval0 hW _ _ hL _
  have hval : ∀ (j : Nat) t v, Tryd.f8.params[j]? = some t → args[j]? = some v → Value.okWide Tryd.prog W .any base t v := hval0
  have hW' := hW
  obtain ⟨p, q, hA0, hV0, rfl, hfz, hnd⟩ := hW
  have hA : DataW.TrodAll enc Tryd.prog W 0 (fun _ => true) true Tryd.f8.params.toList args.toList ds p := hA0
  have hV : DataW.TrodVars enc Tryd.prog W (fun _ => true) Rows.fnExactRangeWidenSpec.vars gs q := hV0
  rw [Tryd.params8] at hA hval
  obtain ⟨v0, vs0, d0, ds0, p0, q0, hargs, rfl, rfl, h0, r0⟩ := trodAll_cons hA
  obtain ⟨v1, vs1, d1, ds1, p1, q1, hvs0, rfl, rfl, h1, r1⟩ := trodAll_cons r0
  obtain ⟨v2, vs2, d2, ds2, p2, q2, hvs1, rfl, rfl, h2, r2⟩ := trodAll_cons r1
  obtain ⟨rfl, rfl, rfl⟩ := trodAll_nil r2
  obtain rfl : args = #[v0, v1, v2] := by cases args; simp_all
  have k0 := h0
  have lt0 : ∀ x ∈ p0, x.block < W.heap.size := by obtain ⟨m, hm⟩ := k0; exact DataW.trod_lt m _ _ _ hm
  obtain ⟨a0, rfl⟩ := arg_two (okWide_struct Tryd.underlying23 (hval 0 23 v0 rfl rfl)) h0
  have k1 := h1
  have lt1 : ∀ x ∈ p1, x.block < W.heap.size := by obtain ⟨m, hm⟩ := k1; exact DataW.trod_lt m _ _ _ hm
  obtain ⟨a1, rfl⟩ := arg_two (okWide_struct Tryd.underlying23 (hval 1 23 v1 rfl rfl)) h1
  have k2 := h2
  have lt2 : ∀ x ∈ p2, x.block < W.heap.size := by obtain ⟨m, hm⟩ := k2; exact DataW.trod_lt m _ _ _ hm
  obtain ⟨a2, len2, cap2, rfl⟩ := okWide_slice Tryd.underlying33 (hval 2 33 v2 rfl rfl)
  obtain ⟨z2, w2⟩ : ∃ z, rws.Ints 0 W (.slice a2 len2 cap2) z := by
    obtain ⟨fuel, hf⟩ := h2
    exact rws.ints_of (by simpa [Value.cells] using hf)
  obtain rfl : len2 = z2.length := by
    obtain ⟨_, _, e, _, _⟩ := w2.shape
    cases e
    rfl
  have hL' := laid_of hL
  clear hA0 hval0
  refine (walk a0.1 a0.2 a1.1 a1.2 a2 cap2 z2 W w2 hL').mono fun e W' ⟨he, bel⟩ => ?_
  subst he
  have kV := Below.trodVars laidOut bel (ns := Rows.fnExactRangeWidenSpec.vars) (by kernel_rfl) hV
  have hlen : gs.length = 1 := vars_len hV
  match gs, hlen with
  | [g0], _ =>
    exact ⟨_, rfl, _, _, _, [], _, _, hW', trodAll_mk1 (shut_bool Tryd.underlying4 _), (trodAll_cons_mk (Below.trod laidOut (by kernel_rfl) (of_decide_eq_true (by kernel_rfl)) k0 bel lt0) (trodAll_cons_mk (Below.trod laidOut (by kernel_rfl) (of_decide_eq_true (by kernel_rfl)) k1 bel lt1) (trodAll_cons_mk (Below.trod laidOut (by kernel_rfl) (of_decide_eq_true (by kernel_rfl)) k2 bel lt2) trodAll_mk0))), kV, bel.frame _, fun h => by cases h⟩

theorem over : Rows.FnExactRangeWidenSaid :=
  OpenClaim.holds_of_wide 8 Tryd.f8 rfl rfl rfl rfl rfl rfl rfl ⟨rfl, rfl, rfl, rfl, rfl⟩ rfl rfl rfl rfl rfl (by kernel_rfl) Tryd.func8 (by kernel_rfl)
    (of_decide_eq_true (by kernel_rfl)) (by unfold Func.isWrapper; first | (rw [if_pos (by decide +kernel)]; kernel_rfl) | (rw [if_neg (by decide +kernel)]; exact ⟨rfl, rfl⟩))
    (fun os started H enc _ => lifted os started H enc)
end Go.Proofs.YtjjglklbfigmiaaDoor.fnExactRangeWiden
namespace Go.Proofs.YtjjglklbfigmiaaDoor
open Go
/-- THE STATEMENT: the tied card. -/
theorem fnExactRangeWiden_holds : Rows.FnExactRangeWidenCardSaid :=
  Claim7.holds_tied_plain_at .later [] [.data] true Rows.fnExactRangeWidenCard.stood.harness true
    fnExactRangeWiden.over (fun _ h => by cases h) (by kernel_rfl) (fun _ h => by cases h) fnExactRangeWiden_row_tie rfl ⟨rfl, rfl⟩ (by kernel_rfl) rfl
    (fun f fn hf hfn => by
      obtain rfl : f = 8 := Option.some.inj ((show Tryd.prog.funcNamed Rows.fnExactRangeWidenRow.func = some 8 by kernel_rfl).symm.trans hf) |>.symm
      obtain rfl : fn = Tryd.f8 := (Option.some.inj (Tryd.func8.symm.trans hfn)).symm
      exact ⟨by kernel_rfl, fun j t ht => by
        rw [Tryd.params8] at ht
        have hm : t ∈ [23, 23, 33] := by simpa using Array.mem_of_getElem? ht
        have hall : ([23, 23, 33].all fun u => !Tryd.prog.wantsStandIn u) = true := by kernel_rfl
        exact (show Tryd.prog.wantsStandIn t = false by simpa using List.all_eq_true.1 hall t hm)⟩)
    (by kernel_rfl)
#print axioms fnExactRangeWiden_holds
end Go.Proofs.YtjjglklbfigmiaaDoor
