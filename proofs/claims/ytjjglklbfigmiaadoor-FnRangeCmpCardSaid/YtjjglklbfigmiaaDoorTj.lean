/-
  The program's RangeWiden.
-/
import Derived.Test.YtjjglklbfigmiaaDoorTi
import Derived.Test.YtjjglklbfigmiaaDoorTf
namespace Go.Proofs.YtjjglklbfigmiaaDoor.num
open Go.ChangeShapes Go.WideShapes Go.ChangeAt Go.RowKit
set_option linter.unusedVariables false

set_option maxRecDepth 100000 in
set_option maxHeartbeats 4000000 in
theorem iWiden_xy {base : Nat} {ok : Int → Prop} (x y x2 y2 : Int) (l : List Int) (sv : Value) (w : World) (hs : rws.Seq 1 rws.ci ok base w sv l) (h : Gv w 0 none8) :
    Calls Tryd.prog 32 #[.agg #[.int .i64 x, .int .i64 y], .agg #[.int .i64 x2, .int .i64 y2], sv] w fun e w' => e = .returned (.agg #[.int .i64 (widen8 (x, y) (x2, y2) l).1, .int .i64 (widen8 (x, y) (x2, y2) l).2]) ∧ Below w.heap.size w w' := by
  obtain ⟨W, hW, H⟩ := Hd.three w (.int .i64 x) (.int .i64 y) (.int .i64 x2) (.int .i64 y2) (.int .i64 0) (.int .i64 0) 25 25 25
  have hw : widen8 (x, y) (x2, y2) l = if (rSome (x, y) && rSome (x2, y2)) = false then ((join8 (x, y) (x2, y2)).1, (join8 (x, y) (x2, y2)).2)
      else (if (join8 (x, y) (x2, y2)).1 < x then down8 l (join8 (x, y) (x2, y2)).1 else (join8 (x, y) (x2, y2)).1, if y < (join8 (x, y) (x2, y2)).2 then up8 l (join8 (x, y) (x2, y2)).2 else (join8 (x, y) (x2, y2)).2) := by
    unfold widen8
    rw [rSome_eq, rSome_eq]
    cases rOk (x, y) <;> cases rOk (x2, y2) <;> cases isN (x, y) <;> cases isN (x2, y2) <;> rfl
  rw [hw]
  clear hw
  have HJ := fun (w : World) (h : Gv w 0 none8) => iJoin_xy x y x2 y2 w h
  generalize (join8 (x, y) (x2, y2)).1 = p0 at *
  generalize (join8 (x, y) (x2, y2)).2 = p1 at *
  cases k : (rSome (x, y) && rSome (x2, y2))
  · rw [if_pos (by simp)]
    go_enter Tryd.func32, Tryd.ntmps32
    go_wp2_with fail
    rw [← hW]
    clear hW
    have a0 := H.get (b := w.heap.size) (o := 0) (v := .int .i64 x) (by simp)
    have a1 := H.get (b := w.heap.size) (o := 1) (v := .int .i64 y) (by simp)
    have b0 := H.get (b := w.heap.size + 1) (o := 0) (v := .int .i64 x2) (by simp)
    have b1 := H.get (b := w.heap.size + 1) (o := 1) (v := .int .i64 y2) (by simp)
    go_wp2_with (first | (go_at_call 26; refine (HJ _ (h.below H.below)).mono ?_; rintro e w1 ⟨rfl, hb⟩; replace H := H.call hb; have a0 := H.get (b := w.heap.size) (o := 0) (v := .int .i64 x) (by simp); have a1 := H.get (b := w.heap.size) (o := 1) (v := .int .i64 y) (by simp); have b0 := H.get (b := w.heap.size + 1) (o := 0) (v := .int .i64 x2) (by simp); have b1 := H.get (b := w.heap.size + 1) (o := 1) (v := .int .i64 y2) (by simp); have l0 := H.lt (b := w.heap.size) (o := 0) (v := .int .i64 x) (by simp); have l1 := H.lt (b := w.heap.size + 1) (o := 0) (v := .int .i64 x2) (by simp); have l2 := H.lt (b := w.heap.size + 2) (o := 0) (v := .int .i64 0) (by simp)) | (go_at_call 67; refine (rangesOf_xy _ _ _ _ _).mono ?_; rintro e w2 ⟨rfl, hb⟩; replace H := (H.box _ _ _).call hb; obtain ⟨g, hg⟩ : ∃ g, g = w1.heap.size := ⟨_, rfl⟩; rw [← hg] at H l0 l1 l2 ⊢; clear hg hb) | (go_at_call 68; refine (bothR_xy _ _ _ _ _ (h.below H.below)).mono ?_; rintro e w3 ⟨rfl, hb⟩; rw [k]; replace H := H.call hb; have a0 := H.get (b := w.heap.size) (o := 0) (v := .int .i64 x) (by simp); have a1 := H.get (b := w.heap.size) (o := 1) (v := .int .i64 y) (by simp); have b0 := H.get (b := w.heap.size + 1) (o := 0) (v := .int .i64 x2) (by simp); have b1 := H.get (b := w.heap.size + 1) (o := 1) (v := .int .i64 y2) (by simp); have r0 := H.get (b := w.heap.size + 2) (o := 0) (v := .int .i64 0) (by simp); have z0 := H.fz (b := w.heap.size + 2) (o := 0) (v := .int .i64 0) (by simp); have r1 := H.get (b := w.heap.size + 2) (o := 1) (v := .int .i64 0) (by simp); have z1 := H.fz (b := w.heap.size + 2) (o := 1) (v := .int .i64 0) (by simp); have q0 := H.get (b := g) (o := 0) (v := .int .i64 p0) (by simp); have q1 := H.get (b := g) (o := 1) (v := .int .i64 p1) (by simp); have q2 := H.fz (b := g) (o := 0) (v := .int .i64 p0) (by simp); have q3 := H.fz (b := g) (o := 1) (v := .int .i64 p1) (by simp)))
    have H4 : Hd w [(w.heap.size + 2, 0, .int .i64 0), (w.heap.size + 2, 1, .int .i64 0)] _ := (H.weak (by simp))
    obtain ⟨f0, f1, fb⟩ := H4.fill (b := w.heap.size + 2) (x := .int .i64 0) (y := .int .i64 0) (by simp) (by simp) (by omega) (.int .i64 p0) (.int .i64 p1)
    refine bodyPost_ret (results_two rfl _ _ (w.heap.size + 2) (.int .i64 p0) (.int .i64 p1) _ rfl f0 f1 Tryd.underlying25 rfl (by kernel_rfl)) rfl ?_
    exact ⟨rfl, fb⟩
  · rw [if_neg (by simp)]
    by_cases e1 : p0 < x
    · rw [if_pos e1]
      by_cases e2 : y < p1
      · rw [if_pos e2]
        go_enter Tryd.func32, Tryd.ntmps32
        go_wp2_with fail
        rw [← hW]
        clear hW
        have a0 := H.get (b := w.heap.size) (o := 0) (v := .int .i64 x) (by simp)
        have a1 := H.get (b := w.heap.size) (o := 1) (v := .int .i64 y) (by simp)
        have b0 := H.get (b := w.heap.size + 1) (o := 0) (v := .int .i64 x2) (by simp)
        have b1 := H.get (b := w.heap.size + 1) (o := 1) (v := .int .i64 y2) (by simp)
        go_wp2_with (first | (go_at_call 26; refine (HJ _ (h.below H.below)).mono ?_; rintro e w1 ⟨rfl, hb⟩; replace H := H.call hb; have a0 := H.get (b := w.heap.size) (o := 0) (v := .int .i64 x) (by simp); have a1 := H.get (b := w.heap.size) (o := 1) (v := .int .i64 y) (by simp); have b0 := H.get (b := w.heap.size + 1) (o := 0) (v := .int .i64 x2) (by simp); have b1 := H.get (b := w.heap.size + 1) (o := 1) (v := .int .i64 y2) (by simp); have l0 := H.lt (b := w.heap.size) (o := 0) (v := .int .i64 x) (by simp); have l1 := H.lt (b := w.heap.size + 1) (o := 0) (v := .int .i64 x2) (by simp); have l2 := H.lt (b := w.heap.size + 2) (o := 0) (v := .int .i64 0) (by simp)) | (go_at_call 67; refine (rangesOf_xy _ _ _ _ _).mono ?_; rintro e w2 ⟨rfl, hb⟩; replace H := (H.box _ _ _).call hb; obtain ⟨g, hg⟩ : ∃ g, g = w1.heap.size := ⟨_, rfl⟩; rw [← hg] at H l0 l1 l2 ⊢; clear hg hb) | (go_at_call 68; refine (bothR_xy _ _ _ _ _ (h.below H.below)).mono ?_; rintro e w3 ⟨rfl, hb⟩; rw [k]; replace H := H.call hb; have a0 := H.get (b := w.heap.size) (o := 0) (v := .int .i64 x) (by simp); have a1 := H.get (b := w.heap.size) (o := 1) (v := .int .i64 y) (by simp); have b0 := H.get (b := w.heap.size + 1) (o := 0) (v := .int .i64 x2) (by simp); have b1 := H.get (b := w.heap.size + 1) (o := 1) (v := .int .i64 y2) (by simp); have r0 := H.get (b := w.heap.size + 2) (o := 0) (v := .int .i64 0) (by simp); have z0 := H.fz (b := w.heap.size + 2) (o := 0) (v := .int .i64 0) (by simp); have r1 := H.get (b := w.heap.size + 2) (o := 1) (v := .int .i64 0) (by simp); have z1 := H.fz (b := w.heap.size + 2) (o := 1) (v := .int .i64 0) (by simp); have q0 := H.get (b := g) (o := 0) (v := .int .i64 p0) (by simp); have q1 := H.get (b := g) (o := 1) (v := .int .i64 p1) (by simp); have q2 := H.fz (b := g) (o := 0) (v := .int .i64 p0) (by simp); have q3 := H.fz (b := g) (o := 1) (v := .int .i64 p1) (by simp)) | (go_at_call 70; refine (stepDown_any l _ _ _ (by first | exact hs.below (H.below.mono (Nat.le_refl _)) | exact hs.below ((H.below.setCell (by show w.heap.size ≤ g; omega) _).mono (Nat.le_refl _)))).mono ?_; rintro e w4 ⟨rfl, rfl⟩) | (go_at_call 71; refine (stepUp_any l _ _ _ (by first | exact hs.below (H.below.mono (Nat.le_refl _)) | exact hs.below ((H.below.setCell (by show w.heap.size ≤ g; omega) _).mono (Nat.le_refl _)))).mono ?_; rintro e w4 ⟨rfl, rfl⟩))
        have H4 : Hd w [(w.heap.size + 2, 0, .int .i64 0), (w.heap.size + 2, 1, .int .i64 0)] _ := (Hd.setOther (b := g) (o := 1) (Hd.setOther (b := g) (o := 0) (H.weak (by simp)) (by omega) (by simp; omega) (.int .i64 (down8 l p0))) (by omega) (by simp; omega) (.int .i64 (up8 l p1)))
        obtain ⟨f0, f1, fb⟩ := H4.fill (b := w.heap.size + 2) (x := .int .i64 0) (y := .int .i64 0) (by simp) (by simp) (by omega) (.int .i64 (down8 l p0)) (.int .i64 (up8 l p1))
        refine bodyPost_ret (results_two rfl _ _ (w.heap.size + 2) (.int .i64 (down8 l p0)) (.int .i64 (up8 l p1)) _ rfl f0 f1 Tryd.underlying25 rfl (by kernel_rfl)) rfl ?_
        exact ⟨rfl, fb⟩
      · rw [if_neg e2]
        go_enter Tryd.func32, Tryd.ntmps32
        go_wp2_with fail
        rw [← hW]
        clear hW
        have a0 := H.get (b := w.heap.size) (o := 0) (v := .int .i64 x) (by simp)
        have a1 := H.get (b := w.heap.size) (o := 1) (v := .int .i64 y) (by simp)
        have b0 := H.get (b := w.heap.size + 1) (o := 0) (v := .int .i64 x2) (by simp)
        have b1 := H.get (b := w.heap.size + 1) (o := 1) (v := .int .i64 y2) (by simp)
        go_wp2_with (first | (go_at_call 26; refine (HJ _ (h.below H.below)).mono ?_; rintro e w1 ⟨rfl, hb⟩; replace H := H.call hb; have a0 := H.get (b := w.heap.size) (o := 0) (v := .int .i64 x) (by simp); have a1 := H.get (b := w.heap.size) (o := 1) (v := .int .i64 y) (by simp); have b0 := H.get (b := w.heap.size + 1) (o := 0) (v := .int .i64 x2) (by simp); have b1 := H.get (b := w.heap.size + 1) (o := 1) (v := .int .i64 y2) (by simp); have l0 := H.lt (b := w.heap.size) (o := 0) (v := .int .i64 x) (by simp); have l1 := H.lt (b := w.heap.size + 1) (o := 0) (v := .int .i64 x2) (by simp); have l2 := H.lt (b := w.heap.size + 2) (o := 0) (v := .int .i64 0) (by simp)) | (go_at_call 67; refine (rangesOf_xy _ _ _ _ _).mono ?_; rintro e w2 ⟨rfl, hb⟩; replace H := (H.box _ _ _).call hb; obtain ⟨g, hg⟩ : ∃ g, g = w1.heap.size := ⟨_, rfl⟩; rw [← hg] at H l0 l1 l2 ⊢; clear hg hb) | (go_at_call 68; refine (bothR_xy _ _ _ _ _ (h.below H.below)).mono ?_; rintro e w3 ⟨rfl, hb⟩; rw [k]; replace H := H.call hb; have a0 := H.get (b := w.heap.size) (o := 0) (v := .int .i64 x) (by simp); have a1 := H.get (b := w.heap.size) (o := 1) (v := .int .i64 y) (by simp); have b0 := H.get (b := w.heap.size + 1) (o := 0) (v := .int .i64 x2) (by simp); have b1 := H.get (b := w.heap.size + 1) (o := 1) (v := .int .i64 y2) (by simp); have r0 := H.get (b := w.heap.size + 2) (o := 0) (v := .int .i64 0) (by simp); have z0 := H.fz (b := w.heap.size + 2) (o := 0) (v := .int .i64 0) (by simp); have r1 := H.get (b := w.heap.size + 2) (o := 1) (v := .int .i64 0) (by simp); have z1 := H.fz (b := w.heap.size + 2) (o := 1) (v := .int .i64 0) (by simp); have q0 := H.get (b := g) (o := 0) (v := .int .i64 p0) (by simp); have q1 := H.get (b := g) (o := 1) (v := .int .i64 p1) (by simp); have q2 := H.fz (b := g) (o := 0) (v := .int .i64 p0) (by simp); have q3 := H.fz (b := g) (o := 1) (v := .int .i64 p1) (by simp)) | (go_at_call 70; refine (stepDown_any l _ _ _ (by first | exact hs.below (H.below.mono (Nat.le_refl _)) | exact hs.below ((H.below.setCell (by show w.heap.size ≤ g; omega) _).mono (Nat.le_refl _)))).mono ?_; rintro e w4 ⟨rfl, rfl⟩))
        have H4 : Hd w [(w.heap.size + 2, 0, .int .i64 0), (w.heap.size + 2, 1, .int .i64 0)] _ := (Hd.setOther (b := g) (o := 0) (H.weak (by simp)) (by omega) (by simp; omega) (.int .i64 (down8 l p0)))
        obtain ⟨f0, f1, fb⟩ := H4.fill (b := w.heap.size + 2) (x := .int .i64 0) (y := .int .i64 0) (by simp) (by simp) (by omega) (.int .i64 (down8 l p0)) (.int .i64 p1)
        refine bodyPost_ret (results_two rfl _ _ (w.heap.size + 2) (.int .i64 (down8 l p0)) (.int .i64 p1) _ rfl f0 f1 Tryd.underlying25 rfl (by kernel_rfl)) rfl ?_
        exact ⟨rfl, fb⟩
    · rw [if_neg e1]
      by_cases e2 : y < p1
      · rw [if_pos e2]
        go_enter Tryd.func32, Tryd.ntmps32
        go_wp2_with fail
        rw [← hW]
        clear hW
        have a0 := H.get (b := w.heap.size) (o := 0) (v := .int .i64 x) (by simp)
        have a1 := H.get (b := w.heap.size) (o := 1) (v := .int .i64 y) (by simp)
        have b0 := H.get (b := w.heap.size + 1) (o := 0) (v := .int .i64 x2) (by simp)
        have b1 := H.get (b := w.heap.size + 1) (o := 1) (v := .int .i64 y2) (by simp)
        go_wp2_with (first | (go_at_call 26; refine (HJ _ (h.below H.below)).mono ?_; rintro e w1 ⟨rfl, hb⟩; replace H := H.call hb; have a0 := H.get (b := w.heap.size) (o := 0) (v := .int .i64 x) (by simp); have a1 := H.get (b := w.heap.size) (o := 1) (v := .int .i64 y) (by simp); have b0 := H.get (b := w.heap.size + 1) (o := 0) (v := .int .i64 x2) (by simp); have b1 := H.get (b := w.heap.size + 1) (o := 1) (v := .int .i64 y2) (by simp); have l0 := H.lt (b := w.heap.size) (o := 0) (v := .int .i64 x) (by simp); have l1 := H.lt (b := w.heap.size + 1) (o := 0) (v := .int .i64 x2) (by simp); have l2 := H.lt (b := w.heap.size + 2) (o := 0) (v := .int .i64 0) (by simp)) | (go_at_call 67; refine (rangesOf_xy _ _ _ _ _).mono ?_; rintro e w2 ⟨rfl, hb⟩; replace H := (H.box _ _ _).call hb; obtain ⟨g, hg⟩ : ∃ g, g = w1.heap.size := ⟨_, rfl⟩; rw [← hg] at H l0 l1 l2 ⊢; clear hg hb) | (go_at_call 68; refine (bothR_xy _ _ _ _ _ (h.below H.below)).mono ?_; rintro e w3 ⟨rfl, hb⟩; rw [k]; replace H := H.call hb; have a0 := H.get (b := w.heap.size) (o := 0) (v := .int .i64 x) (by simp); have a1 := H.get (b := w.heap.size) (o := 1) (v := .int .i64 y) (by simp); have b0 := H.get (b := w.heap.size + 1) (o := 0) (v := .int .i64 x2) (by simp); have b1 := H.get (b := w.heap.size + 1) (o := 1) (v := .int .i64 y2) (by simp); have r0 := H.get (b := w.heap.size + 2) (o := 0) (v := .int .i64 0) (by simp); have z0 := H.fz (b := w.heap.size + 2) (o := 0) (v := .int .i64 0) (by simp); have r1 := H.get (b := w.heap.size + 2) (o := 1) (v := .int .i64 0) (by simp); have z1 := H.fz (b := w.heap.size + 2) (o := 1) (v := .int .i64 0) (by simp); have q0 := H.get (b := g) (o := 0) (v := .int .i64 p0) (by simp); have q1 := H.get (b := g) (o := 1) (v := .int .i64 p1) (by simp); have q2 := H.fz (b := g) (o := 0) (v := .int .i64 p0) (by simp); have q3 := H.fz (b := g) (o := 1) (v := .int .i64 p1) (by simp)) | (go_at_call 71; refine (stepUp_any l _ _ _ (by first | exact hs.below (H.below.mono (Nat.le_refl _)) | exact hs.below ((H.below.setCell (by show w.heap.size ≤ g; omega) _).mono (Nat.le_refl _)))).mono ?_; rintro e w4 ⟨rfl, rfl⟩))
        have H4 : Hd w [(w.heap.size + 2, 0, .int .i64 0), (w.heap.size + 2, 1, .int .i64 0)] _ := (Hd.setOther (b := g) (o := 1) (H.weak (by simp)) (by omega) (by simp; omega) (.int .i64 (up8 l p1)))
        obtain ⟨f0, f1, fb⟩ := H4.fill (b := w.heap.size + 2) (x := .int .i64 0) (y := .int .i64 0) (by simp) (by simp) (by omega) (.int .i64 p0) (.int .i64 (up8 l p1))
        refine bodyPost_ret (results_two rfl _ _ (w.heap.size + 2) (.int .i64 p0) (.int .i64 (up8 l p1)) _ rfl f0 f1 Tryd.underlying25 rfl (by kernel_rfl)) rfl ?_
        exact ⟨rfl, fb⟩
      · rw [if_neg e2]
        go_enter Tryd.func32, Tryd.ntmps32
        go_wp2_with fail
        rw [← hW]
        clear hW
        have a0 := H.get (b := w.heap.size) (o := 0) (v := .int .i64 x) (by simp)
        have a1 := H.get (b := w.heap.size) (o := 1) (v := .int .i64 y) (by simp)
        have b0 := H.get (b := w.heap.size + 1) (o := 0) (v := .int .i64 x2) (by simp)
        have b1 := H.get (b := w.heap.size + 1) (o := 1) (v := .int .i64 y2) (by simp)
        go_wp2_with (first | (go_at_call 26; refine (HJ _ (h.below H.below)).mono ?_; rintro e w1 ⟨rfl, hb⟩; replace H := H.call hb; have a0 := H.get (b := w.heap.size) (o := 0) (v := .int .i64 x) (by simp); have a1 := H.get (b := w.heap.size) (o := 1) (v := .int .i64 y) (by simp); have b0 := H.get (b := w.heap.size + 1) (o := 0) (v := .int .i64 x2) (by simp); have b1 := H.get (b := w.heap.size + 1) (o := 1) (v := .int .i64 y2) (by simp); have l0 := H.lt (b := w.heap.size) (o := 0) (v := .int .i64 x) (by simp); have l1 := H.lt (b := w.heap.size + 1) (o := 0) (v := .int .i64 x2) (by simp); have l2 := H.lt (b := w.heap.size + 2) (o := 0) (v := .int .i64 0) (by simp)) | (go_at_call 67; refine (rangesOf_xy _ _ _ _ _).mono ?_; rintro e w2 ⟨rfl, hb⟩; replace H := (H.box _ _ _).call hb; obtain ⟨g, hg⟩ : ∃ g, g = w1.heap.size := ⟨_, rfl⟩; rw [← hg] at H l0 l1 l2 ⊢; clear hg hb) | (go_at_call 68; refine (bothR_xy _ _ _ _ _ (h.below H.below)).mono ?_; rintro e w3 ⟨rfl, hb⟩; rw [k]; replace H := H.call hb; have a0 := H.get (b := w.heap.size) (o := 0) (v := .int .i64 x) (by simp); have a1 := H.get (b := w.heap.size) (o := 1) (v := .int .i64 y) (by simp); have b0 := H.get (b := w.heap.size + 1) (o := 0) (v := .int .i64 x2) (by simp); have b1 := H.get (b := w.heap.size + 1) (o := 1) (v := .int .i64 y2) (by simp); have r0 := H.get (b := w.heap.size + 2) (o := 0) (v := .int .i64 0) (by simp); have z0 := H.fz (b := w.heap.size + 2) (o := 0) (v := .int .i64 0) (by simp); have r1 := H.get (b := w.heap.size + 2) (o := 1) (v := .int .i64 0) (by simp); have z1 := H.fz (b := w.heap.size + 2) (o := 1) (v := .int .i64 0) (by simp); have q0 := H.get (b := g) (o := 0) (v := .int .i64 p0) (by simp); have q1 := H.get (b := g) (o := 1) (v := .int .i64 p1) (by simp); have q2 := H.fz (b := g) (o := 0) (v := .int .i64 p0) (by simp); have q3 := H.fz (b := g) (o := 1) (v := .int .i64 p1) (by simp)))
        have H4 : Hd w [(w.heap.size + 2, 0, .int .i64 0), (w.heap.size + 2, 1, .int .i64 0)] _ := (H.weak (by simp))
        obtain ⟨f0, f1, fb⟩ := H4.fill (b := w.heap.size + 2) (x := .int .i64 0) (y := .int .i64 0) (by simp) (by simp) (by omega) (.int .i64 p0) (.int .i64 p1)
        refine bodyPost_ret (results_two rfl _ _ (w.heap.size + 2) (.int .i64 p0) (.int .i64 p1) _ rfl f0 f1 Tryd.underlying25 rfl (by kernel_rfl)) rfl ?_
        exact ⟨rfl, fb⟩
end Go.Proofs.YtjjglklbfigmiaaDoor.num
