/-
  The program's RangeMeet.
-/
import Derived.Test.YthbbgkpkijlclaaDoorTc
namespace Go.Proofs.YthbbgkpkijlclaaDoor.num
open Go.ChangeShapes Go.WideShapes Go.ChangeAt Go.RowKit
set_option linter.unusedVariables false

theorem meet8_cut {x y x2 y2 : Int} (k : rOk (x, y) = true) (k2 : rOk (x2, y2) = true) : cut8 (max x x2) (min y y2) = meet8 (x, y) (x2, y2) := by
  unfold meet8
  split
  · rename_i hh
    have hn : isN (x, y) = true ∨ isN (x2, y2) = true := by simpa [k, k2] using hh
    have hlt : min y y2 < max x x2 := by
      rcases hn with hn | hn
      · obtain ⟨rfl, rfl⟩ := none_xy hn; omega
      · obtain ⟨rfl, rfl⟩ := none_xy hn; omega
    exact cut8_none (.inl hlt)
  · rfl
set_option maxRecDepth 100000 in
set_option maxHeartbeats 4000000 in
theorem iMeet_xy (x y x2 y2 : Int) (w : World) (h : Gv w 1 none8) :
    Calls Tryd.prog 102 #[.agg #[.int .i64 x, .int .i64 y], .agg #[.int .i64 x2, .int .i64 y2]] w fun e w' => e = .returned (.agg #[.int .i64 (meet8 (x, y) (x2, y2)).1, .int .i64 (meet8 (x, y) (x2, y2)).2]) ∧ Below w.heap.size w w' := by
  obtain ⟨W, hW, H⟩ := Hd.three w (.int .i64 x) (.int .i64 y) (.int .i64 x2) (.int .i64 y2) (.int .i64 0) (.int .i64 0) 24 24 24
  cases k : rOk (x, y)
  · skip
    have e : meet8 (x, y) (x2, y2) = none8 := by unfold meet8; rw [if_pos (by simp [k])]
    rw [e]
    go_enter Tryd.func102, Tryd.ntmps102
    go_wp2_with fail
    rw [← hW]
    clear hW
    have a0 := H.get (b := w.heap.size) (o := 0) (v := .int .i64 x) (by simp)
    have a1 := H.get (b := w.heap.size) (o := 1) (v := .int .i64 y) (by simp)
    have b0 := H.get (b := w.heap.size + 1) (o := 0) (v := .int .i64 x2) (by simp)
    have b1 := H.get (b := w.heap.size + 1) (o := 1) (v := .int .i64 y2) (by simp)
    have r0 := H.get (b := w.heap.size + 2) (o := 0) (v := .int .i64 0) (by simp)
    have z0 := H.fz (b := w.heap.size + 2) (o := 0) (v := .int .i64 0) (by simp)
    have r1 := H.get (b := w.heap.size + 2) (o := 1) (v := .int .i64 0) (by simp)
    have z1 := H.fz (b := w.heap.size + 2) (o := 1) (v := .int .i64 0) (by simp)
    obtain ⟨gs, g0, g1, gz⟩ := (h.below H.below).none
    go_wp2_with (first | (go_at_call 63; refine (iOk_xy _ _ _ (h.below H.below)).mono ?_; rintro e w' ⟨rfl, hb⟩; replace H := H.call hb; have a0 := H.get (b := w.heap.size) (o := 0) (v := .int .i64 x) (by simp); have a1 := H.get (b := w.heap.size) (o := 1) (v := .int .i64 y) (by simp); have b0 := H.get (b := w.heap.size + 1) (o := 0) (v := .int .i64 x2) (by simp); have b1 := H.get (b := w.heap.size + 1) (o := 1) (v := .int .i64 y2) (by simp); have r0 := H.get (b := w.heap.size + 2) (o := 0) (v := .int .i64 0) (by simp); have z0 := H.fz (b := w.heap.size + 2) (o := 0) (v := .int .i64 0) (by simp); have r1 := H.get (b := w.heap.size + 2) (o := 1) (v := .int .i64 0) (by simp); have z1 := H.fz (b := w.heap.size + 2) (o := 1) (v := .int .i64 0) (by simp); obtain ⟨gs, g0, g1, gz⟩ := (h.below H.below).none))
    obtain ⟨f0, f1, fb⟩ := H.fill (b := w.heap.size + 2) (x := .int .i64 0) (y := .int .i64 0) (by simp) (by simp) (by omega) (.int .i64 1) (.int .i64 0)
    refine bodyPost_ret (results_two rfl _ _ (w.heap.size + 2) (.int .i64 1) (.int .i64 0) _ rfl f0 f1 Tryd.underlying24 rfl (by kernel_rfl)) rfl ?_
    exact ⟨rfl, fb⟩
  · cases k2 : rOk (x2, y2)
    · skip
      have e : meet8 (x, y) (x2, y2) = none8 := by unfold meet8; rw [if_pos (by simp [k2])]
      rw [e]
      go_enter Tryd.func102, Tryd.ntmps102
      go_wp2_with fail
      rw [← hW]
      clear hW
      have a0 := H.get (b := w.heap.size) (o := 0) (v := .int .i64 x) (by simp)
      have a1 := H.get (b := w.heap.size) (o := 1) (v := .int .i64 y) (by simp)
      have b0 := H.get (b := w.heap.size + 1) (o := 0) (v := .int .i64 x2) (by simp)
      have b1 := H.get (b := w.heap.size + 1) (o := 1) (v := .int .i64 y2) (by simp)
      have r0 := H.get (b := w.heap.size + 2) (o := 0) (v := .int .i64 0) (by simp)
      have z0 := H.fz (b := w.heap.size + 2) (o := 0) (v := .int .i64 0) (by simp)
      have r1 := H.get (b := w.heap.size + 2) (o := 1) (v := .int .i64 0) (by simp)
      have z1 := H.fz (b := w.heap.size + 2) (o := 1) (v := .int .i64 0) (by simp)
      obtain ⟨gs, g0, g1, gz⟩ := (h.below H.below).none
      go_wp2_with (first | (go_at_call 63; refine (iOk_xy _ _ _ (h.below H.below)).mono ?_; rintro e w' ⟨rfl, hb⟩; replace H := H.call hb; have a0 := H.get (b := w.heap.size) (o := 0) (v := .int .i64 x) (by simp); have a1 := H.get (b := w.heap.size) (o := 1) (v := .int .i64 y) (by simp); have b0 := H.get (b := w.heap.size + 1) (o := 0) (v := .int .i64 x2) (by simp); have b1 := H.get (b := w.heap.size + 1) (o := 1) (v := .int .i64 y2) (by simp); have r0 := H.get (b := w.heap.size + 2) (o := 0) (v := .int .i64 0) (by simp); have z0 := H.fz (b := w.heap.size + 2) (o := 0) (v := .int .i64 0) (by simp); have r1 := H.get (b := w.heap.size + 2) (o := 1) (v := .int .i64 0) (by simp); have z1 := H.fz (b := w.heap.size + 2) (o := 1) (v := .int .i64 0) (by simp); obtain ⟨gs, g0, g1, gz⟩ := (h.below H.below).none))
      obtain ⟨f0, f1, fb⟩ := H.fill (b := w.heap.size + 2) (x := .int .i64 0) (y := .int .i64 0) (by simp) (by simp) (by omega) (.int .i64 1) (.int .i64 0)
      refine bodyPost_ret (results_two rfl _ _ (w.heap.size + 2) (.int .i64 1) (.int .i64 0) _ rfl f0 f1 Tryd.underlying24 rfl (by kernel_rfl)) rfl ?_
      exact ⟨rfl, fb⟩
    · rw [← meet8_cut k k2]
      go_enter Tryd.func102, Tryd.ntmps102
      go_wp2_with fail
      rw [← hW]
      clear hW
      have a0 := H.get (b := w.heap.size) (o := 0) (v := .int .i64 x) (by simp)
      have a1 := H.get (b := w.heap.size) (o := 1) (v := .int .i64 y) (by simp)
      have b0 := H.get (b := w.heap.size + 1) (o := 0) (v := .int .i64 x2) (by simp)
      have b1 := H.get (b := w.heap.size + 1) (o := 1) (v := .int .i64 y2) (by simp)
      have r0 := H.get (b := w.heap.size + 2) (o := 0) (v := .int .i64 0) (by simp)
      have z0 := H.fz (b := w.heap.size + 2) (o := 0) (v := .int .i64 0) (by simp)
      have r1 := H.get (b := w.heap.size + 2) (o := 1) (v := .int .i64 0) (by simp)
      have z1 := H.fz (b := w.heap.size + 2) (o := 1) (v := .int .i64 0) (by simp)
      obtain ⟨gs, g0, g1, gz⟩ := (h.below H.below).none
      go_wp2_with (first | (go_at_call 63; refine (iOk_xy _ _ _ (h.below H.below)).mono ?_; rintro e w' ⟨rfl, hb⟩; replace H := H.call hb; have a0 := H.get (b := w.heap.size) (o := 0) (v := .int .i64 x) (by simp); have a1 := H.get (b := w.heap.size) (o := 1) (v := .int .i64 y) (by simp); have b0 := H.get (b := w.heap.size + 1) (o := 0) (v := .int .i64 x2) (by simp); have b1 := H.get (b := w.heap.size + 1) (o := 1) (v := .int .i64 y2) (by simp); have r0 := H.get (b := w.heap.size + 2) (o := 0) (v := .int .i64 0) (by simp); have z0 := H.fz (b := w.heap.size + 2) (o := 0) (v := .int .i64 0) (by simp); have r1 := H.get (b := w.heap.size + 2) (o := 1) (v := .int .i64 0) (by simp); have z1 := H.fz (b := w.heap.size + 2) (o := 1) (v := .int .i64 0) (by simp); obtain ⟨gs, g0, g1, gz⟩ := (h.below H.below).none) | (go_at_call 165; refine (fromTo_any _ _ _ (h.below H.below)).mono ?_; rintro e w' ⟨rfl, hb⟩; replace H := H.call hb; have a0 := H.get (b := w.heap.size) (o := 0) (v := .int .i64 x) (by simp); have a1 := H.get (b := w.heap.size) (o := 1) (v := .int .i64 y) (by simp); have b0 := H.get (b := w.heap.size + 1) (o := 0) (v := .int .i64 x2) (by simp); have b1 := H.get (b := w.heap.size + 1) (o := 1) (v := .int .i64 y2) (by simp); have r0 := H.get (b := w.heap.size + 2) (o := 0) (v := .int .i64 0) (by simp); have z0 := H.fz (b := w.heap.size + 2) (o := 0) (v := .int .i64 0) (by simp); have r1 := H.get (b := w.heap.size + 2) (o := 1) (v := .int .i64 0) (by simp); have z1 := H.fz (b := w.heap.size + 2) (o := 1) (v := .int .i64 0) (by simp); obtain ⟨gs, g0, g1, gz⟩ := (h.below H.below).none))
      all_goals
        first | rw [show max x x2 = x2 by omega] | rw [show max x x2 = x by omega]
        first | rw [show min y y2 = y2 by omega] | rw [show min y y2 = y by omega]
        generalize cut8 _ _ = q
        obtain ⟨f0, f1, fb⟩ := H.fill (b := w.heap.size + 2) (x := .int .i64 0) (y := .int .i64 0) (by simp) (by simp) (by omega) (.int .i64 q.1) (.int .i64 q.2)
        refine bodyPost_ret (results_two rfl _ _ (w.heap.size + 2) (.int .i64 q.1) (.int .i64 q.2) _ rfl f0 f1 Tryd.underlying24 rfl (by kernel_rfl)) rfl ?_
        exact ⟨rfl, fb⟩
set_option maxRecDepth 100000 in
set_option maxHeartbeats 4000000 in
theorem iJoin_xy (x y x2 y2 : Int) (w : World) (h : Gv w 1 none8) :
    Calls Tryd.prog 100 #[.agg #[.int .i64 x, .int .i64 y], .agg #[.int .i64 x2, .int .i64 y2]] w fun e w' => e = .returned (.agg #[.int .i64 (join8 (x, y) (x2, y2)).1, .int .i64 (join8 (x, y) (x2, y2)).2]) ∧ Below w.heap.size w w' := by
  obtain ⟨W, hW, H⟩ := Hd.three w (.int .i64 x) (.int .i64 y) (.int .i64 x2) (.int .i64 y2) (.int .i64 0) (.int .i64 0) 24 24 24
  cases k : rOk (x, y)
  · skip
    have e : join8 (x, y) (x2, y2) = none8 := by unfold join8; rw [if_pos (by simp [k])]
    rw [e]
    go_enter Tryd.func100, Tryd.ntmps100
    go_wp2_with fail
    rw [← hW]
    clear hW
    have a0 := H.get (b := w.heap.size) (o := 0) (v := .int .i64 x) (by simp)
    have a1 := H.get (b := w.heap.size) (o := 1) (v := .int .i64 y) (by simp)
    have b0 := H.get (b := w.heap.size + 1) (o := 0) (v := .int .i64 x2) (by simp)
    have b1 := H.get (b := w.heap.size + 1) (o := 1) (v := .int .i64 y2) (by simp)
    have r0 := H.get (b := w.heap.size + 2) (o := 0) (v := .int .i64 0) (by simp)
    have z0 := H.fz (b := w.heap.size + 2) (o := 0) (v := .int .i64 0) (by simp)
    have r1 := H.get (b := w.heap.size + 2) (o := 1) (v := .int .i64 0) (by simp)
    have z1 := H.fz (b := w.heap.size + 2) (o := 1) (v := .int .i64 0) (by simp)
    obtain ⟨gs, g0, g1, gz⟩ := (h.below H.below).none
    go_wp2_with (first | (go_at_call 63; refine (iOk_xy _ _ _ (h.below H.below)).mono ?_; rintro e w' ⟨rfl, hb⟩; replace H := H.call hb; have a0 := H.get (b := w.heap.size) (o := 0) (v := .int .i64 x) (by simp); have a1 := H.get (b := w.heap.size) (o := 1) (v := .int .i64 y) (by simp); have b0 := H.get (b := w.heap.size + 1) (o := 0) (v := .int .i64 x2) (by simp); have b1 := H.get (b := w.heap.size + 1) (o := 1) (v := .int .i64 y2) (by simp); have r0 := H.get (b := w.heap.size + 2) (o := 0) (v := .int .i64 0) (by simp); have z0 := H.fz (b := w.heap.size + 2) (o := 0) (v := .int .i64 0) (by simp); have r1 := H.get (b := w.heap.size + 2) (o := 1) (v := .int .i64 0) (by simp); have z1 := H.fz (b := w.heap.size + 2) (o := 1) (v := .int .i64 0) (by simp); obtain ⟨gs, g0, g1, gz⟩ := (h.below H.below).none))
    obtain ⟨f0, f1, fb⟩ := H.fill (b := w.heap.size + 2) (x := .int .i64 0) (y := .int .i64 0) (by simp) (by simp) (by omega) (.int .i64 1) (.int .i64 0)
    refine bodyPost_ret (results_two rfl _ _ (w.heap.size + 2) (.int .i64 1) (.int .i64 0) _ rfl f0 f1 Tryd.underlying24 rfl (by kernel_rfl)) rfl ?_
    exact ⟨rfl, fb⟩
  · cases k2 : rOk (x2, y2)
    · skip
      have e : join8 (x, y) (x2, y2) = none8 := by unfold join8; rw [if_pos (by simp [k2])]
      rw [e]
      go_enter Tryd.func100, Tryd.ntmps100
      go_wp2_with fail
      rw [← hW]
      clear hW
      have a0 := H.get (b := w.heap.size) (o := 0) (v := .int .i64 x) (by simp)
      have a1 := H.get (b := w.heap.size) (o := 1) (v := .int .i64 y) (by simp)
      have b0 := H.get (b := w.heap.size + 1) (o := 0) (v := .int .i64 x2) (by simp)
      have b1 := H.get (b := w.heap.size + 1) (o := 1) (v := .int .i64 y2) (by simp)
      have r0 := H.get (b := w.heap.size + 2) (o := 0) (v := .int .i64 0) (by simp)
      have z0 := H.fz (b := w.heap.size + 2) (o := 0) (v := .int .i64 0) (by simp)
      have r1 := H.get (b := w.heap.size + 2) (o := 1) (v := .int .i64 0) (by simp)
      have z1 := H.fz (b := w.heap.size + 2) (o := 1) (v := .int .i64 0) (by simp)
      obtain ⟨gs, g0, g1, gz⟩ := (h.below H.below).none
      go_wp2_with (first | (go_at_call 63; refine (iOk_xy _ _ _ (h.below H.below)).mono ?_; rintro e w' ⟨rfl, hb⟩; replace H := H.call hb; have a0 := H.get (b := w.heap.size) (o := 0) (v := .int .i64 x) (by simp); have a1 := H.get (b := w.heap.size) (o := 1) (v := .int .i64 y) (by simp); have b0 := H.get (b := w.heap.size + 1) (o := 0) (v := .int .i64 x2) (by simp); have b1 := H.get (b := w.heap.size + 1) (o := 1) (v := .int .i64 y2) (by simp); have r0 := H.get (b := w.heap.size + 2) (o := 0) (v := .int .i64 0) (by simp); have z0 := H.fz (b := w.heap.size + 2) (o := 0) (v := .int .i64 0) (by simp); have r1 := H.get (b := w.heap.size + 2) (o := 1) (v := .int .i64 0) (by simp); have z1 := H.fz (b := w.heap.size + 2) (o := 1) (v := .int .i64 0) (by simp); obtain ⟨gs, g0, g1, gz⟩ := (h.below H.below).none))
      obtain ⟨f0, f1, fb⟩ := H.fill (b := w.heap.size + 2) (x := .int .i64 0) (y := .int .i64 0) (by simp) (by simp) (by omega) (.int .i64 1) (.int .i64 0)
      refine bodyPost_ret (results_two rfl _ _ (w.heap.size + 2) (.int .i64 1) (.int .i64 0) _ rfl f0 f1 Tryd.underlying24 rfl (by kernel_rfl)) rfl ?_
      exact ⟨rfl, fb⟩
    · cases n : isN (x, y)
      · have hq := @some_if x y n
        cases n2 : isN (x2, y2)
        · have hq2 := @some_if x2 y2 n2
          have e : join8 (x, y) (x2, y2) = (min x x2, max y y2) := by unfold join8; rw [if_neg (by simp [k, k2]), if_neg (by simp [n]), if_neg (by simp [n2])]
          rw [e]
          go_enter Tryd.func100, Tryd.ntmps100
          go_wp2_with fail
          rw [← hW]
          clear hW
          have a0 := H.get (b := w.heap.size) (o := 0) (v := .int .i64 x) (by simp)
          have a1 := H.get (b := w.heap.size) (o := 1) (v := .int .i64 y) (by simp)
          have b0 := H.get (b := w.heap.size + 1) (o := 0) (v := .int .i64 x2) (by simp)
          have b1 := H.get (b := w.heap.size + 1) (o := 1) (v := .int .i64 y2) (by simp)
          have r0 := H.get (b := w.heap.size + 2) (o := 0) (v := .int .i64 0) (by simp)
          have z0 := H.fz (b := w.heap.size + 2) (o := 0) (v := .int .i64 0) (by simp)
          have r1 := H.get (b := w.heap.size + 2) (o := 1) (v := .int .i64 0) (by simp)
          have z1 := H.fz (b := w.heap.size + 2) (o := 1) (v := .int .i64 0) (by simp)
          obtain ⟨gs, g0, g1, gz⟩ := (h.below H.below).none
          go_wp2_with (first | (go_at_call 63; refine (iOk_xy _ _ _ (h.below H.below)).mono ?_; rintro e w' ⟨rfl, hb⟩; replace H := H.call hb; have a0 := H.get (b := w.heap.size) (o := 0) (v := .int .i64 x) (by simp); have a1 := H.get (b := w.heap.size) (o := 1) (v := .int .i64 y) (by simp); have b0 := H.get (b := w.heap.size + 1) (o := 0) (v := .int .i64 x2) (by simp); have b1 := H.get (b := w.heap.size + 1) (o := 1) (v := .int .i64 y2) (by simp); have r0 := H.get (b := w.heap.size + 2) (o := 0) (v := .int .i64 0) (by simp); have z0 := H.fz (b := w.heap.size + 2) (o := 0) (v := .int .i64 0) (by simp); have r1 := H.get (b := w.heap.size + 2) (o := 1) (v := .int .i64 0) (by simp); have z1 := H.fz (b := w.heap.size + 2) (o := 1) (v := .int .i64 0) (by simp); obtain ⟨gs, g0, g1, gz⟩ := (h.below H.below).none))
          all_goals
            first | rw [show min x x2 = x2 by omega] | rw [show min x x2 = x by omega]
            first | rw [show max y y2 = y2 by omega] | rw [show max y y2 = y by omega]
            first
              | obtain ⟨f0, f1, fb⟩ := H.fill (b := w.heap.size + 2) (x := .int .i64 0) (y := .int .i64 0) (by simp) (by simp) (by omega) (.int .i64 x) (.int .i64 y)
                refine bodyPost_ret (results_two rfl _ _ (w.heap.size + 2) (.int .i64 x) (.int .i64 y) _ rfl f0 f1 Tryd.underlying24 rfl (by kernel_rfl)) rfl ?_
                exact ⟨rfl, fb⟩
              | obtain ⟨f0, f1, fb⟩ := H.fill (b := w.heap.size + 2) (x := .int .i64 0) (y := .int .i64 0) (by simp) (by simp) (by omega) (.int .i64 x) (.int .i64 y2)
                refine bodyPost_ret (results_two rfl _ _ (w.heap.size + 2) (.int .i64 x) (.int .i64 y2) _ rfl f0 f1 Tryd.underlying24 rfl (by kernel_rfl)) rfl ?_
                exact ⟨rfl, fb⟩
              | obtain ⟨f0, f1, fb⟩ := H.fill (b := w.heap.size + 2) (x := .int .i64 0) (y := .int .i64 0) (by simp) (by simp) (by omega) (.int .i64 x2) (.int .i64 y)
                refine bodyPost_ret (results_two rfl _ _ (w.heap.size + 2) (.int .i64 x2) (.int .i64 y) _ rfl f0 f1 Tryd.underlying24 rfl (by kernel_rfl)) rfl ?_
                exact ⟨rfl, fb⟩
              | obtain ⟨f0, f1, fb⟩ := H.fill (b := w.heap.size + 2) (x := .int .i64 0) (y := .int .i64 0) (by simp) (by simp) (by omega) (.int .i64 x2) (.int .i64 y2)
                refine bodyPost_ret (results_two rfl _ _ (w.heap.size + 2) (.int .i64 x2) (.int .i64 y2) _ rfl f0 f1 Tryd.underlying24 rfl (by kernel_rfl)) rfl ?_
                exact ⟨rfl, fb⟩
        · obtain ⟨rfl, rfl⟩ := none_xy n2
          have e : join8 (x, y) (1, 0) = (x, y) := by unfold join8; rw [if_neg (by simp [k, k2]), if_neg (by simp [n]), if_pos n2]
          rw [e]
          go_enter Tryd.func100, Tryd.ntmps100
          go_wp2_with fail
          rw [← hW]
          clear hW
          have a0 := H.get (b := w.heap.size) (o := 0) (v := .int .i64 x) (by simp)
          have a1 := H.get (b := w.heap.size) (o := 1) (v := .int .i64 y) (by simp)
          have b0 := H.get (b := w.heap.size + 1) (o := 0) (v := .int .i64 1) (by simp)
          have b1 := H.get (b := w.heap.size + 1) (o := 1) (v := .int .i64 0) (by simp)
          have r0 := H.get (b := w.heap.size + 2) (o := 0) (v := .int .i64 0) (by simp)
          have z0 := H.fz (b := w.heap.size + 2) (o := 0) (v := .int .i64 0) (by simp)
          have r1 := H.get (b := w.heap.size + 2) (o := 1) (v := .int .i64 0) (by simp)
          have z1 := H.fz (b := w.heap.size + 2) (o := 1) (v := .int .i64 0) (by simp)
          obtain ⟨gs, g0, g1, gz⟩ := (h.below H.below).none
          go_wp2_with (first | (go_at_call 63; refine (iOk_xy _ _ _ (h.below H.below)).mono ?_; rintro e w' ⟨rfl, hb⟩; replace H := H.call hb; have a0 := H.get (b := w.heap.size) (o := 0) (v := .int .i64 x) (by simp); have a1 := H.get (b := w.heap.size) (o := 1) (v := .int .i64 y) (by simp); have b0 := H.get (b := w.heap.size + 1) (o := 0) (v := .int .i64 1) (by simp); have b1 := H.get (b := w.heap.size + 1) (o := 1) (v := .int .i64 0) (by simp); have r0 := H.get (b := w.heap.size + 2) (o := 0) (v := .int .i64 0) (by simp); have z0 := H.fz (b := w.heap.size + 2) (o := 0) (v := .int .i64 0) (by simp); have r1 := H.get (b := w.heap.size + 2) (o := 1) (v := .int .i64 0) (by simp); have z1 := H.fz (b := w.heap.size + 2) (o := 1) (v := .int .i64 0) (by simp); obtain ⟨gs, g0, g1, gz⟩ := (h.below H.below).none))
          obtain ⟨f0, f1, fb⟩ := H.fill (b := w.heap.size + 2) (x := .int .i64 0) (y := .int .i64 0) (by simp) (by simp) (by omega) (.int .i64 x) (.int .i64 y)
          refine bodyPost_ret (results_two rfl _ _ (w.heap.size + 2) (.int .i64 x) (.int .i64 y) _ rfl f0 f1 Tryd.underlying24 rfl (by kernel_rfl)) rfl ?_
          exact ⟨rfl, fb⟩
      · obtain ⟨rfl, rfl⟩ := none_xy n
        have e : join8 (1, 0) (x2, y2) = (x2, y2) := by unfold join8; rw [if_neg (by simp [k, k2]), if_pos n]
        rw [e]
        go_enter Tryd.func100, Tryd.ntmps100
        go_wp2_with fail
        rw [← hW]
        clear hW
        have a0 := H.get (b := w.heap.size) (o := 0) (v := .int .i64 1) (by simp)
        have a1 := H.get (b := w.heap.size) (o := 1) (v := .int .i64 0) (by simp)
        have b0 := H.get (b := w.heap.size + 1) (o := 0) (v := .int .i64 x2) (by simp)
        have b1 := H.get (b := w.heap.size + 1) (o := 1) (v := .int .i64 y2) (by simp)
        have r0 := H.get (b := w.heap.size + 2) (o := 0) (v := .int .i64 0) (by simp)
        have z0 := H.fz (b := w.heap.size + 2) (o := 0) (v := .int .i64 0) (by simp)
        have r1 := H.get (b := w.heap.size + 2) (o := 1) (v := .int .i64 0) (by simp)
        have z1 := H.fz (b := w.heap.size + 2) (o := 1) (v := .int .i64 0) (by simp)
        obtain ⟨gs, g0, g1, gz⟩ := (h.below H.below).none
        go_wp2_with (first | (go_at_call 63; refine (iOk_xy _ _ _ (h.below H.below)).mono ?_; rintro e w' ⟨rfl, hb⟩; replace H := H.call hb; have a0 := H.get (b := w.heap.size) (o := 0) (v := .int .i64 1) (by simp); have a1 := H.get (b := w.heap.size) (o := 1) (v := .int .i64 0) (by simp); have b0 := H.get (b := w.heap.size + 1) (o := 0) (v := .int .i64 x2) (by simp); have b1 := H.get (b := w.heap.size + 1) (o := 1) (v := .int .i64 y2) (by simp); have r0 := H.get (b := w.heap.size + 2) (o := 0) (v := .int .i64 0) (by simp); have z0 := H.fz (b := w.heap.size + 2) (o := 0) (v := .int .i64 0) (by simp); have r1 := H.get (b := w.heap.size + 2) (o := 1) (v := .int .i64 0) (by simp); have z1 := H.fz (b := w.heap.size + 2) (o := 1) (v := .int .i64 0) (by simp); obtain ⟨gs, g0, g1, gz⟩ := (h.below H.below).none))
        obtain ⟨f0, f1, fb⟩ := H.fill (b := w.heap.size + 2) (x := .int .i64 0) (y := .int .i64 0) (by simp) (by simp) (by omega) (.int .i64 x2) (.int .i64 y2)
        refine bodyPost_ret (results_two rfl _ _ (w.heap.size + 2) (.int .i64 x2) (.int .i64 y2) _ rfl f0 f1 Tryd.underlying24 rfl (by kernel_rfl)) rfl ?_
        exact ⟨rfl, fb⟩
end Go.Proofs.YthbbgkpkijlclaaDoor.num
