/-
  For every comparison and two ranges the law FnExactRangeCmp returns true and writes nothing that was there; its package variables as the program's text lays them.
-/
import Derived.Test.YtjpiihjgbllieaaDoorTf
import Derived.Test.YtjpiihjgbllieaaDoorTy
import Derived.Test.YtjpiihjgbllieaaDoorTp
import Derived.Test.YtjpiihjgbllieaaDoorTz
import Derived.Test.YtjpiihjgbllieaaDoorTie
import Derived.Test.YtjpiihjgbllieaaDoorCards
import Derived.SevenTiedAt
import Derived.Stop.LaidErr
import Derived.ShutString
import Derived.ChangeOld
import Derived.Below
namespace Go.Proofs.YtjpiihjgbllieaaDoor.fnExactRangeCmp
open Go.ChangeShapes Go.WideShapes Go.ChangeAt Go.RowKit Go.Proofs.YtjpiihjgbllieaaDoor.num
set_option linter.unusedVariables false

/-- The variables that the row lists. -/
abbrev laid : List (String × DataW Unit) := Rows.fnExactRangeCmpRow.laid
/-- The door's own heap meets the condition. -/
theorem door_met (os : Os) (args : Array Value) : laidMetH Tryd.prog laid ((World.doorLaid Tryd.prog 400 os).forCall (fun _ _ => 0) ⟨#[], args, []⟩).memory :=
  laidMetH_of_parts3 (fuel := 8) (laidMet_of_run' 8 (by kernel_rfl) (by kernel_rfl)) (by kernel_rfl) (by kernel_rfl)
theorem laid_of {W : World} (h : laidMetH Tryd.prog laid W) : Gv W 1 (1, 0) ∧ Lib.TabIs Tryd.prog W nTurn .i64 turned := by
  rw [MakeChecks.laidMetH_plain _ _ _ (by kernel_rfl)] at h
  exact ⟨gv_of_head (by kernel_rfl) (by kernel_rfl) (laidMet.tail h), Lib.tabIs_of_head gTurn tTurn Tryd.underlying136 Tryd.underlying3 cellsI cellsT h⟩
set_option maxRecDepth 100000 in
set_option maxHeartbeats 0 in
theorem walk (c x y x2 y2 : Int) (w : World) (h : Gv w 1 (1, 0)) (ht : Lib.TabIs Tryd.prog w nTurn .i64 turned) :
    Calls Tryd.prog 9 #[.int .i64 c, .agg #[.int .i64 x, .int .i64 y], .agg #[.int .i64 x2, .int .i64 y2]] w fun e w' => e = .returned (.bool true) ∧ Below w.heap.size w w' := by
  have hT := tv_of ht
  clear ht
  obtain ⟨W, hW, H⟩ := Hd.two w (.int .i64 x) (.int .i64 y) (.int .i64 x2) (.int .i64 y2) 45 45
  go_enter Tryd.func9, Tryd.ntmps9
  go_wp2_with fail
  rw [← hW]
  clear hW
  have c0 := H.get (b := w.heap.size) (o := 0) (v := .int .i64 x) (by simp)
  have c1 := H.get (b := w.heap.size) (o := 1) (v := .int .i64 y) (by simp)
  have c2 := H.get (b := w.heap.size + 1) (o := 0) (v := .int .i64 x2) (by simp)
  have c3 := H.get (b := w.heap.size + 1) (o := 1) (v := .int .i64 y2) (by simp)
  have l0 := H.lt (b := w.heap.size) (o := 0) (v := .int .i64 x) (by simp)
  have l1 := H.lt (b := w.heap.size + 1) (o := 0) (v := .int .i64 x2) (by simp)
  generalize hp : (rangeCmp c (x, y) (x2, y2)).1 = rp
  generalize hq : (rangeCmp c (x, y) (x2, y2)).2 = rq
  go_cut [7, 8] from 7 (fun t7 t8 wx => ∃ ga gb, t7 = .pointer (some ⟨ga, 0, none⟩) ∧ t8 = .pointer (some ⟨gb, 0, none⟩) ∧ w.heap.size + 1 < ga ∧ w.heap.size + 1 < gb ∧ ga ≠ gb ∧ Hd w [(ga, 0, .int .i64 rp.1), (ga, 1, .int .i64 rp.2), (gb, 0, .int .i64 rq.1), (gb, 1, .int .i64 rq.2), (w.heap.size, 0, .int .i64 x), (w.heap.size, 1, .int .i64 y), (w.heap.size + 1, 0, .int .i64 x2), (w.heap.size + 1, 1, .int .i64 y2)] wx)
  case first =>
    go_region_held3 (fun w' => w'.cell? ⟨w.heap.size, 0, none⟩ = some (.int .i64 x) ∧ w'.cell? ⟨w.heap.size, 1, none⟩ = some (.int .i64 y) ∧ w'.cell? ⟨w.heap.size + 1, 0, none⟩ = some (.int .i64 x2) ∧ w'.cell? ⟨w.heap.size + 1, 1, none⟩ = some (.int .i64 y2)) (first | exact ⟨c0, c1, c2, c3⟩ | (simp [go_sem, *]; done)) (first | (go_at_call 33; refine (toRange_xy _ _ _).mono ?_; rintro e w' ⟨rfl, hb⟩; (first | (replace H := H.call hb) | (replace H := (H.call (Below.refl _ _).drew).call hb) | (replace H := (H.box _ _ _).call hb) | (replace H := ((H.box _ _ _).call (Below.refl _ _).drew).call hb) | (replace H := ((H.box _ _ _).box _ _ _).call hb) | (replace H := (((H.box _ _ _).box _ _ _).call (Below.refl _ _).drew).call hb)); clear hb; clear c0 c1 c2 c3; (try rw [size_alloc1] at H); (try (obtain ⟨n0, n1, n2, n3, n4⟩ := H.top; have nn0 := Nat.ne_of_lt n0; have nn1 := (Nat.ne_of_lt n0).symm)); (try (obtain ⟨m0, m1, m2, m3, m4⟩ := H.tail2.top; have mm0 := Nat.ne_of_lt m0; have mm1 := (Nat.ne_of_lt m0).symm)); (try (obtain ⟨j0, j1, j2, j3, j4⟩ := H.tail2.tail2.top)); (try (obtain ⟨i0, i1, i2, i3, i4⟩ := H.tail2.tail2.tail2.top)); have c0 := H.get (b := w.heap.size) (o := 0) (v := .int .i64 x) (by simp); have c1 := H.get (b := w.heap.size) (o := 1) (v := .int .i64 y) (by simp); have c2 := H.get (b := w.heap.size + 1) (o := 0) (v := .int .i64 x2) (by simp); have c3 := H.get (b := w.heap.size + 1) (o := 1) (v := .int .i64 y2) (by simp); have l0 := H.lt (b := w.heap.size) (o := 0) (v := .int .i64 x) (by simp); have l1 := H.lt (b := w.heap.size + 1) (o := 0) (v := .int .i64 x2) (by simp)) | (go_at_call 39; refine (sCmp_xy _ _ _ _ _ _).mono ?_; rintro e w' ⟨rfl, hb⟩; rw [hp, hq]; (first | (replace H := H.call hb) | (replace H := (H.call (Below.refl _ _).drew).call hb) | (replace H := (H.box _ _ _).call hb) | (replace H := ((H.box _ _ _).call (Below.refl _ _).drew).call hb) | (replace H := ((H.box _ _ _).box _ _ _).call hb) | (replace H := (((H.box _ _ _).box _ _ _).call (Below.refl _ _).drew).call hb)); clear hb; clear c0 c1 c2 c3; (try rw [size_alloc1] at H); (try (obtain ⟨n0, n1, n2, n3, n4⟩ := H.top; have nn0 := Nat.ne_of_lt n0; have nn1 := (Nat.ne_of_lt n0).symm)); (try (obtain ⟨m0, m1, m2, m3, m4⟩ := H.tail2.top; have mm0 := Nat.ne_of_lt m0; have mm1 := (Nat.ne_of_lt m0).symm)); (try (obtain ⟨j0, j1, j2, j3, j4⟩ := H.tail2.tail2.top)); (try (obtain ⟨i0, i1, i2, i3, i4⟩ := H.tail2.tail2.tail2.top)); have c0 := H.get (b := w.heap.size) (o := 0) (v := .int .i64 x) (by simp); have c1 := H.get (b := w.heap.size) (o := 1) (v := .int .i64 y) (by simp); have c2 := H.get (b := w.heap.size + 1) (o := 0) (v := .int .i64 x2) (by simp); have c3 := H.get (b := w.heap.size + 1) (o := 1) (v := .int .i64 y2) (by simp); have l0 := H.lt (b := w.heap.size) (o := 0) (v := .int .i64 x) (by simp); have l1 := H.lt (b := w.heap.size + 1) (o := 0) (v := .int .i64 x2) (by simp)))
    all_goals
      go_wp2_with fail
      go_meet
      exact ⟨_, _, rfl, rfl, by omega, by omega, by omega, (by first | exact Hd.weak ((H.box _ _ _).box _ _ _) (by simp) | exact Hd.weak ((H.set2 (by omega) (by simp; omega) _ _).box _ _ _) (by simp) | exact Hd.weak ((H.set2 (by omega) (by simp; omega) _ _).swap.set2 (by omega) (by simp; omega) _ _) (by simp) | exact Hd.weak ((H.swap.set2 (by omega) (by simp; omega) _ _).swap.set2 (by omega) (by simp; omega) _ _) (by simp) | exact Hd.weak (Hd.call ((H.box _ _ _).box _ _ _) (Below.refl _ _).drew) (by simp) | exact Hd.weak (Hd.call ((H.set2 (by omega) (by simp; omega) _ _).box _ _ _) (Below.refl _ _).drew) (by simp) | exact Hd.weak (Hd.call ((H.set2 (by omega) (by simp; omega) _ _).swap.set2 (by omega) (by simp; omega) _ _) (Below.refl _ _).drew) (by simp) | exact Hd.weak (Hd.call ((H.swap.set2 (by omega) (by simp; omega) _ _).swap.set2 (by omega) (by simp; omega) _ _) (Below.refl _ _).drew) (by simp))⟩
  case rest =>
    obtain ⟨ga, gb, rfl, rfl, hga, hgb, hne, H'⟩ := hcut
    clear H c0 c1 c2 c3 l0 l1
    have H := H'
    clear H'
    have c0 := H.get (b := w.heap.size) (o := 0) (v := .int .i64 x) (by simp); have c1 := H.get (b := w.heap.size) (o := 1) (v := .int .i64 y) (by simp); have c2 := H.get (b := w.heap.size + 1) (o := 0) (v := .int .i64 x2) (by simp); have c3 := H.get (b := w.heap.size + 1) (o := 1) (v := .int .i64 y2) (by simp); have l0 := H.lt (b := w.heap.size) (o := 0) (v := .int .i64 x) (by simp); have l1 := H.lt (b := w.heap.size + 1) (o := 0) (v := .int .i64 x2) (by simp)
    have la := H.lt (b := ga) (o := 0) (v := .int .i64 rp.1) (by simp); have lb := H.lt (b := gb) (o := 0) (v := .int .i64 rq.1) (by simp); 
    go_wp2_with fail
    go_cut [9, 10] from 9 (fun t9 t10 wx => ∃ g3 g4, t9 = .pointer (some ⟨g3, 0, none⟩) ∧ t10 = .pointer (some ⟨g4, 0, none⟩) ∧ Hd w [(g3, 0, .int .i64 rp.1), (g3, 1, .int .i64 rp.2), (g4, 0, .int .i64 rq.1), (g4, 1, .int .i64 rq.2), (ga, 0, .int .i64 rp.1), (ga, 1, .int .i64 rp.2), (gb, 0, .int .i64 rq.1), (gb, 1, .int .i64 rq.2), (w.heap.size, 0, .int .i64 x), (w.heap.size, 1, .int .i64 y), (w.heap.size + 1, 0, .int .i64 x2), (w.heap.size + 1, 1, .int .i64 y2)] wx)
    case first =>
      go_region_held3 (fun w' => w'.cell? ⟨w.heap.size, 0, none⟩ = some (.int .i64 x) ∧ w'.cell? ⟨w.heap.size, 1, none⟩ = some (.int .i64 y) ∧ w'.cell? ⟨w.heap.size + 1, 0, none⟩ = some (.int .i64 x2) ∧ w'.cell? ⟨w.heap.size + 1, 1, none⟩ = some (.int .i64 y2)) (first | exact ⟨c0, c1, c2, c3⟩ | (simp [go_sem, *]; done)) (first | (go_at_call 33; refine (toRange_xy _ _ _).mono ?_; rintro e w' ⟨rfl, hb⟩; (first | (replace H := H.call hb) | (replace H := (H.call (Below.refl _ _).drew).call hb) | (replace H := (H.box _ _ _).call hb) | (replace H := ((H.box _ _ _).call (Below.refl _ _).drew).call hb) | (replace H := ((H.box _ _ _).box _ _ _).call hb) | (replace H := (((H.box _ _ _).box _ _ _).call (Below.refl _ _).drew).call hb)); clear hb; clear c0 c1 c2 c3; (try rw [size_alloc1] at H); (try (obtain ⟨n0, n1, n2, n3, n4⟩ := H.top; have nn0 := Nat.ne_of_lt n0; have nn1 := (Nat.ne_of_lt n0).symm)); (try (obtain ⟨m0, m1, m2, m3, m4⟩ := H.tail2.top; have mm0 := Nat.ne_of_lt m0; have mm1 := (Nat.ne_of_lt m0).symm)); (try (obtain ⟨j0, j1, j2, j3, j4⟩ := H.tail2.tail2.top)); (try (obtain ⟨i0, i1, i2, i3, i4⟩ := H.tail2.tail2.tail2.top)); have la := H.lt (b := ga) (o := 0) (v := .int .i64 rp.1) (by simp); have lb := H.lt (b := gb) (o := 0) (v := .int .i64 rq.1) (by simp); have c0 := H.get (b := w.heap.size) (o := 0) (v := .int .i64 x) (by simp); have c1 := H.get (b := w.heap.size) (o := 1) (v := .int .i64 y) (by simp); have c2 := H.get (b := w.heap.size + 1) (o := 0) (v := .int .i64 x2) (by simp); have c3 := H.get (b := w.heap.size + 1) (o := 1) (v := .int .i64 y2) (by simp); have l0 := H.lt (b := w.heap.size) (o := 0) (v := .int .i64 x) (by simp); have l1 := H.lt (b := w.heap.size + 1) (o := 0) (v := .int .i64 x2) (by simp)) | (go_at_call 40; refine (iCmp_xy _ _ _ _ _ _ (by first | exact Gv.below h H.below | exact Gv.below h (H.call (Below.refl _ _).drew).below | exact Gv.below h (H.box _ _ _).below | exact Gv.below h ((H.box _ _ _).call (Below.refl _ _).drew).below | exact Gv.below h ((H.box _ _ _).box _ _ _).below | exact Gv.below h (((H.box _ _ _).box _ _ _).call (Below.refl _ _).drew).below) (by first | exact hT.below H.below | exact hT.below (H.call (Below.refl _ _).drew).below | exact hT.below (H.box _ _ _).below | exact hT.below ((H.box _ _ _).call (Below.refl _ _).drew).below | exact hT.below ((H.box _ _ _).box _ _ _).below | exact hT.below (((H.box _ _ _).box _ _ _).call (Below.refl _ _).drew).below)).mono ?_; rintro e w' ⟨rfl, hb⟩; rw [hp, hq]; (first | (replace H := H.call hb) | (replace H := (H.call (Below.refl _ _).drew).call hb) | (replace H := (H.box _ _ _).call hb) | (replace H := ((H.box _ _ _).call (Below.refl _ _).drew).call hb) | (replace H := ((H.box _ _ _).box _ _ _).call hb) | (replace H := (((H.box _ _ _).box _ _ _).call (Below.refl _ _).drew).call hb)); clear hb; clear c0 c1 c2 c3; (try rw [size_alloc1] at H); (try (obtain ⟨n0, n1, n2, n3, n4⟩ := H.top; have nn0 := Nat.ne_of_lt n0; have nn1 := (Nat.ne_of_lt n0).symm)); (try (obtain ⟨m0, m1, m2, m3, m4⟩ := H.tail2.top; have mm0 := Nat.ne_of_lt m0; have mm1 := (Nat.ne_of_lt m0).symm)); (try (obtain ⟨j0, j1, j2, j3, j4⟩ := H.tail2.tail2.top)); (try (obtain ⟨i0, i1, i2, i3, i4⟩ := H.tail2.tail2.tail2.top)); have la := H.lt (b := ga) (o := 0) (v := .int .i64 rp.1) (by simp); have lb := H.lt (b := gb) (o := 0) (v := .int .i64 rq.1) (by simp); have c0 := H.get (b := w.heap.size) (o := 0) (v := .int .i64 x) (by simp); have c1 := H.get (b := w.heap.size) (o := 1) (v := .int .i64 y) (by simp); have c2 := H.get (b := w.heap.size + 1) (o := 0) (v := .int .i64 x2) (by simp); have c3 := H.get (b := w.heap.size + 1) (o := 1) (v := .int .i64 y2) (by simp); have l0 := H.lt (b := w.heap.size) (o := 0) (v := .int .i64 x) (by simp); have l1 := H.lt (b := w.heap.size + 1) (o := 0) (v := .int .i64 x2) (by simp)))
      all_goals
        go_wp2_with fail
        go_meet
        exact ⟨_, _, rfl, rfl, (by first | exact Hd.weak ((H.box _ _ _).box _ _ _) (by simp) | exact Hd.weak ((H.set2 (by omega) (by simp; omega) _ _).box _ _ _) (by simp) | exact Hd.weak ((H.set2 (by omega) (by simp; omega) _ _).swap.set2 (by omega) (by simp; omega) _ _) (by simp) | exact Hd.weak ((H.swap.set2 (by omega) (by simp; omega) _ _).swap.set2 (by omega) (by simp; omega) _ _) (by simp) | exact Hd.weak (Hd.call ((H.box _ _ _).box _ _ _) (Below.refl _ _).drew) (by simp) | exact Hd.weak (Hd.call ((H.set2 (by omega) (by simp; omega) _ _).box _ _ _) (Below.refl _ _).drew) (by simp) | exact Hd.weak (Hd.call ((H.set2 (by omega) (by simp; omega) _ _).swap.set2 (by omega) (by simp; omega) _ _) (Below.refl _ _).drew) (by simp) | exact Hd.weak (Hd.call ((H.swap.set2 (by omega) (by simp; omega) _ _).swap.set2 (by omega) (by simp; omega) _ _) (Below.refl _ _).drew) (by simp))⟩
    case rest =>
      obtain ⟨g3, g4, rfl, rfl, H'⟩ := hcut
      clear H c0 c1 c2 c3 l0 l1 la lb
      have H := H'
      clear H'
      have p0 := H.get (b := g3) (o := 0) (v := .int .i64 rp.1) (by simp); have p1 := H.get (b := g3) (o := 1) (v := .int .i64 rp.2) (by simp); have q0 := H.get (b := g4) (o := 0) (v := .int .i64 rq.1) (by simp); have q1 := H.get (b := g4) (o := 1) (v := .int .i64 rq.2) (by simp)
      have p2 := H.get (b := ga) (o := 0) (v := .int .i64 rp.1) (by simp); have p3 := H.get (b := ga) (o := 1) (v := .int .i64 rp.2) (by simp); have q2 := H.get (b := gb) (o := 0) (v := .int .i64 rq.1) (by simp); have q3 := H.get (b := gb) (o := 1) (v := .int .i64 rq.2) (by simp)
      go_wp2_with (go_at_call 35; refine (eqRange_xy _ _ _ _ _).mono ?_; rintro e w' ⟨rfl, hb⟩; replace H := H.call hb; have p0 := H.get (b := g3) (o := 0) (v := .int .i64 rp.1) (by simp); have p1 := H.get (b := g3) (o := 1) (v := .int .i64 rp.2) (by simp); have q0 := H.get (b := g4) (o := 0) (v := .int .i64 rq.1) (by simp); have q1 := H.get (b := g4) (o := 1) (v := .int .i64 rq.2) (by simp); have p2 := H.get (b := ga) (o := 0) (v := .int .i64 rp.1) (by simp); have p3 := H.get (b := ga) (o := 1) (v := .int .i64 rp.2) (by simp); have q2 := H.get (b := gb) (o := 0) (v := .int .i64 rq.1) (by simp); have q3 := H.get (b := gb) (o := 1) (v := .int .i64 rq.2) (by simp))
      go_ret
      exact ⟨rfl, H.below⟩
set_option maxRecDepth 100000 in
theorem lifted (os : Os) (started : os.Started) (H : Type) (enc : TypeId × Value → H) :
    ReturnsInHanded {} Tryd.checked os 9 .any (fun w args => (Rows.fnExactRangeCmpSpec.pre enc Tryd.prog Tryd.f9 [] false w args ∧ laidMetH Tryd.prog laid w) ∧ sizedMet enc Tryd.prog Tryd.f9 (OpenSpec.ofChange Rows.fnExactRangeCmpSpec) false w args)
      (Rows.fnExactRangeCmpSpec.post enc Tryd.prog Tryd.f9 false true false false) := by
  refine returnsInHanded_of_change_and (C := Tryd.checked) (X := fun w _ => laidMetH Tryd.prog laid w) (fun _ _ _ hh h => h.of_heap hh) own started (by kernel_rfl) Tryd.func9
    (ChangeSpec.witness_shaped (enc := enc) (C := Tryd.checked) (os := os) (X := fun w _ => laidMetH Tryd.prog laid w) false (World.doorLaid Tryd.prog 400 os) #[.int .i64 0, .agg #[.int .i64 0, .int .i64 0], .agg #[.int .i64 0, .int .i64 0]] 8 rfl (World.shaped_of_RefB (by kernel_rfl) (by kernel_rfl)) (by kernel_rfl) (by kernel_rfl) (by kernel_rfl) (door_met os _)) ?_
  intro W base args ds gs before hval0 hW _ _ hL _
  have hval : ∀ (j : Nat) t v, Tryd.f9.params[j]? = some t → args[j]? = some v → Value.okWide Tryd.prog W .any base t v := hval0
  have hW' := hW
  obtain ⟨p, q, hA0, hV0, rfl, hfz, hnd⟩ := hW
  have hA : DataW.TrodAll enc Tryd.prog W 0 (fun _ => true) true Tryd.f9.params.toList args.toList ds p := hA0
  have hV : DataW.TrodVars enc Tryd.prog W (fun _ => true) Rows.fnExactRangeCmpSpec.vars gs q := hV0
  rw [Tryd.params9] at hA hval
  obtain ⟨v0, vs0, d0, ds0, p0, q0, hargs, rfl, rfl, h0, r0⟩ := trodAll_cons hA
  obtain ⟨v1, vs1, d1, ds1, p1, q1, hvs0, rfl, rfl, h1, r1⟩ := trodAll_cons r0
  obtain ⟨v2, vs2, d2, ds2, p2, q2, hvs1, rfl, rfl, h2, r2⟩ := trodAll_cons r1
  obtain ⟨rfl, rfl, rfl⟩ := trodAll_nil r2
  obtain rfl : args = #[v0, v1, v2] := by cases args; simp_all
  have k0 := h0
  have lt0 : ∀ x ∈ p0, x.block < W.heap.size := by obtain ⟨m, hm⟩ := k0; exact DataW.trod_lt m _ _ _ hm
  obtain ⟨z0, rfl⟩ := okWide_int Tryd.underlying3 (hval 0 3 v0 rfl rfl)
  have k1 := h1
  have lt1 : ∀ x ∈ p1, x.block < W.heap.size := by obtain ⟨m, hm⟩ := k1; exact DataW.trod_lt m _ _ _ hm
  obtain ⟨a1, rfl⟩ := arg_two (okWide_struct Tryd.underlying45 (hval 1 45 v1 rfl rfl)) h1
  have k2 := h2
  have lt2 : ∀ x ∈ p2, x.block < W.heap.size := by obtain ⟨m, hm⟩ := k2; exact DataW.trod_lt m _ _ _ hm
  obtain ⟨a2, rfl⟩ := arg_two (okWide_struct Tryd.underlying45 (hval 2 45 v2 rfl rfl)) h2
  have hL' := laid_of hL
  clear hA0 hval0
  refine (walk z0 a1.1 a1.2 a2.1 a2.2 W  hL'.1 hL'.2).mono fun e W' ⟨he, bel⟩ => ?_
  subst he
  have kV := Below.trodVars laidOut bel (ns := Rows.fnExactRangeCmpSpec.vars) (by kernel_rfl) hV
  have hlen : gs.length = 2 := vars_len hV
  match gs, hlen with
  | [g0, g1], _ =>
    exact ⟨_, rfl, _, _, _, [], _, _, hW', trodAll_mk1 (shut_bool Tryd.underlying4 _), (trodAll_cons_mk (Below.trod laidOut (by kernel_rfl) (of_decide_eq_true (by kernel_rfl)) k0 bel lt0) (trodAll_cons_mk (Below.trod laidOut (by kernel_rfl) (of_decide_eq_true (by kernel_rfl)) k1 bel lt1) (trodAll_cons_mk (Below.trod laidOut (by kernel_rfl) (of_decide_eq_true (by kernel_rfl)) k2 bel lt2) trodAll_mk0))), kV, bel.frame _, fun h => by cases h⟩

theorem over : Rows.FnExactRangeCmpSaid :=
  OpenClaim.holds_of_wide 9 Tryd.f9 rfl rfl rfl rfl rfl rfl rfl ⟨rfl, rfl, rfl, rfl, rfl⟩ rfl rfl rfl rfl rfl (by kernel_rfl) Tryd.func9 (by kernel_rfl)
    (of_decide_eq_true (by kernel_rfl)) (by unfold Func.isWrapper; first | (rw [if_pos (by decide +kernel)]; kernel_rfl) | (rw [if_neg (by decide +kernel)]; exact ⟨rfl, rfl⟩))
    (fun os started H enc _ => lifted os started H enc)
end Go.Proofs.YtjpiihjgbllieaaDoor.fnExactRangeCmp
namespace Go.Proofs.YtjpiihjgbllieaaDoor
open Go
/-- THE STATEMENT: the tied card. -/
theorem fnExactRangeCmp_holds : Rows.FnExactRangeCmpCardSaid :=
  Claim7.holds_tied_plain_at .later [] [.data, .data] true Rows.fnExactRangeCmpCard.stood.harness true
    fnExactRangeCmp.over (fun _ h => by cases h) (by kernel_rfl) (fun _ h => by cases h) fnExactRangeCmp_row_tie rfl ⟨rfl, rfl⟩ (by kernel_rfl) rfl
    (fun f fn hf hfn => by
      obtain rfl : f = 9 := Option.some.inj ((show Tryd.prog.funcNamed Rows.fnExactRangeCmpRow.func = some 9 by kernel_rfl).symm.trans hf) |>.symm
      obtain rfl : fn = Tryd.f9 := (Option.some.inj (Tryd.func9.symm.trans hfn)).symm
      exact ⟨by kernel_rfl, fun j t ht => by
        rw [Tryd.params9] at ht
        have hm : t ∈ [3, 45, 45] := by simpa using Array.mem_of_getElem? ht
        have hall : ([3, 45, 45].all fun u => !Tryd.prog.wantsStandIn u) = true := by kernel_rfl
        exact (show Tryd.prog.wantsStandIn t = false by simpa using List.all_eq_true.1 hall t hm)⟩)
    (by kernel_rfl)
#print axioms fnExactRangeCmp_holds
end Go.Proofs.YtjpiihjgbllieaaDoor
