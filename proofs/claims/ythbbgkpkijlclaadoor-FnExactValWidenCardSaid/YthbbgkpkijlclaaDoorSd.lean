/-
  The model's RangeJoin.
-/
import Derived.Test.YthbbgkpkijlclaaDoorSc
namespace Go.Proofs.YthbbgkpkijlclaaDoor.num
open Go.ChangeShapes Go.WideShapes Go.ChangeAt Go.RowKit
set_option linter.unusedVariables false


set_option maxRecDepth 100000 in
set_option maxHeartbeats 4000000 in
theorem RangeJoin_xy (x y x2 y2 : Int) (w : World) :
    Calls Tryd.prog 68 #[.agg #[.int .i64 x, .int .i64 y], .agg #[.int .i64 x2, .int .i64 y2]] w fun e w' => e = .returned (.agg #[.int .i64 (join8 (x, y) (x2, y2)).1, .int .i64 (join8 (x, y) (x2, y2)).2]) ∧ Below w.heap.size w w' := by
  obtain ⟨W, hW, H⟩ := Hd.three w (.int .i64 x) (.int .i64 y) (.int .i64 x2) (.int .i64 y2) (.int .i64 0) (.int .i64 0) 24 24 24
  have c0 := H.get (b := w.heap.size) (o := 0) (v := .int .i64 x) (by simp)
  have c1 := H.get (b := w.heap.size) (o := 1) (v := .int .i64 y) (by simp)
  cases h : rOk (x, y)
  · have e : join8 (x, y) (x2, y2) = none8 := by unfold join8; rw [if_pos (by simp [h])]
    rw [e]
    go_enter Tryd.func68, Tryd.ntmps68
    go_wp2_with fail
    rw [← hW]
    go_wp2_with (first | (go_at_call 59; refine (RangeOk_xy _ _ _).mono ?_; rintro e w' ⟨rfl, hb⟩; replace H := H.call hb; have c0 := H.get (b := w.heap.size + 1) (o := 0) (v := .int .i64 x2) (by simp); have c1 := H.get (b := w.heap.size + 1) (o := 1) (v := .int .i64 y2) (by simp)) | (go_at_call 89; refine (l8None_any _).mono ?_; rintro e w' ⟨rfl, hb⟩; replace H := H.call hb; have c0 := H.get (b := w.heap.size + 2) (o := 0) (v := .int .i64 0) (by simp); have c1 := H.get (b := w.heap.size + 2) (o := 1) (v := .int .i64 0) (by simp); have z0 := H.fz (b := w.heap.size + 2) (o := 0) (v := .int .i64 0) (by simp); have z1 := H.fz (b := w.heap.size + 2) (o := 1) (v := .int .i64 0) (by simp)))
    obtain ⟨f0, f1, fb⟩ := H.fill (b := w.heap.size + 2) (x := .int .i64 0) (y := .int .i64 0) (by simp) (by simp) (by omega) (.int .i64 1) (.int .i64 0)
    refine bodyPost_ret (results_two rfl _ _ (w.heap.size + 2) (.int .i64 1) (.int .i64 0) _ rfl f0 f1 Tryd.underlying24 rfl (by kernel_rfl)) rfl ?_
    exact ⟨rfl, fb⟩
  · cases h2 : rOk (x2, y2)
    · have e : join8 (x, y) (x2, y2) = none8 := by unfold join8; rw [if_pos (by simp [h2])]
      rw [e]
      go_enter Tryd.func68, Tryd.ntmps68
      go_wp2_with fail
      rw [← hW]
      go_wp2_with (first | (go_at_call 59; refine (RangeOk_xy _ _ _).mono ?_; rintro e w' ⟨rfl, hb⟩; replace H := H.call hb; have c0 := H.get (b := w.heap.size + 1) (o := 0) (v := .int .i64 x2) (by simp); have c1 := H.get (b := w.heap.size + 1) (o := 1) (v := .int .i64 y2) (by simp)) | (go_at_call 89; refine (l8None_any _).mono ?_; rintro e w' ⟨rfl, hb⟩; replace H := H.call hb; have c0 := H.get (b := w.heap.size + 2) (o := 0) (v := .int .i64 0) (by simp); have c1 := H.get (b := w.heap.size + 2) (o := 1) (v := .int .i64 0) (by simp); have z0 := H.fz (b := w.heap.size + 2) (o := 0) (v := .int .i64 0) (by simp); have z1 := H.fz (b := w.heap.size + 2) (o := 1) (v := .int .i64 0) (by simp)))
      obtain ⟨f0, f1, fb⟩ := H.fill (b := w.heap.size + 2) (x := .int .i64 0) (y := .int .i64 0) (by simp) (by simp) (by omega) (.int .i64 1) (.int .i64 0)
      refine bodyPost_ret (results_two rfl _ _ (w.heap.size + 2) (.int .i64 1) (.int .i64 0) _ rfl f0 f1 Tryd.underlying24 rfl (by kernel_rfl)) rfl ?_
      exact ⟨rfl, fb⟩
    · cases n : isN (x, y)
      · have hq := @some_if x y n
        cases n2 : isN (x2, y2)
        · have hq2 := @some_if x2 y2 n2
          have e : join8 (x, y) (x2, y2) = (min x x2, max y y2) := by unfold join8; rw [if_neg (by simp [h, h2]), if_neg (by simp [n]), if_neg (by simp [n2])]
          rw [e]
          go_enter Tryd.func68, Tryd.ntmps68
          go_wp2_with fail
          rw [← hW]
          go_wp2_with (go_at_call 59; refine (RangeOk_xy _ _ _).mono ?_; rintro e w' ⟨rfl, hb⟩; replace H := H.call hb; have c0 := H.get (b := w.heap.size + 1) (o := 0) (v := .int .i64 x2) (by simp); have c1 := H.get (b := w.heap.size + 1) (o := 1) (v := .int .i64 y2) (by simp))
          have k0 := fun p : Over w' => H.over (b := w.heap.size) (o := 0) (v := .int .i64 x) (by simp) p
          have k1 := fun p : Over w' => H.over (b := w.heap.size) (o := 1) (v := .int .i64 y) (by simp) p
          refine wp_region_over (by kernel_rfl) (by kernel_rfl) ?_
          repeat (go_big_quiet_step (first | (go_at_call 89; rename_i p; refine (l8None_any _).mono ?_; rintro e' w' ⟨rfl, hb1⟩; exact ⟨rfl, p.next hb1⟩)))
          refine wpQuiet_nil ?_
          rintro _ ⟨p, rfl⟩
          replace H := H.call p.below
          clear k0 k1
          generalize p.w = w3 at *
          go_wp2
          have k0 := fun p : Over w3 => H.over (b := w.heap.size + 1) (o := 0) (v := .int .i64 x2) (by simp) p
          have k1 := fun p : Over w3 => H.over (b := w.heap.size + 1) (o := 1) (v := .int .i64 y2) (by simp) p
          refine wp_region_over (by kernel_rfl) (by kernel_rfl) ?_
          repeat (go_big_quiet_step (first | (go_at_call 89; rename_i p; refine (l8None_any _).mono ?_; rintro e' w' ⟨rfl, hb1⟩; exact ⟨rfl, p.next hb1⟩)))
          refine wpQuiet_nil ?_
          rintro _ ⟨p, rfl⟩
          replace H := H.call p.below
          clear k0 k1
          generalize p.w = w4 at *
          have c0 := H.get (b := w.heap.size) (o := 0) (v := .int .i64 x) (by simp)
          have c1 := H.get (b := w.heap.size) (o := 1) (v := .int .i64 y) (by simp)
          have c2 := H.get (b := w.heap.size + 1) (o := 0) (v := .int .i64 x2) (by simp)
          have c3 := H.get (b := w.heap.size + 1) (o := 1) (v := .int .i64 y2) (by simp)
          have c4 := H.get (b := w.heap.size + 2) (o := 0) (v := .int .i64 0) (by simp)
          have c5 := H.get (b := w.heap.size + 2) (o := 1) (v := .int .i64 0) (by simp)
          have z0 := H.fz (b := w.heap.size + 2) (o := 0) (v := .int .i64 0) (by simp)
          have z1 := H.fz (b := w.heap.size + 2) (o := 1) (v := .int .i64 0) (by simp)
          go_wp2_with fail
          have k0 := fun p : Over w4 => H.over (b := w.heap.size) (o := 0) (v := .int .i64 x) (by simp) p
          have k1 := fun p : Over w4 => H.over (b := w.heap.size) (o := 1) (v := .int .i64 y) (by simp) p
          have k2 := fun p : Over w4 => H.over (b := w.heap.size + 1) (o := 0) (v := .int .i64 x2) (by simp) p
          have k3 := fun p : Over w4 => H.over (b := w.heap.size + 1) (o := 1) (v := .int .i64 y2) (by simp) p
          refine wp_region_tail_over rfl rfl rfl rfl (by kernel_rfl) (by kernel_rfl) (by kernel_rfl) ?_
          simp only [List.dropLast, tv, List.cons_append, List.nil_append]
          repeat (go_big_quiet_step (first | (go_at_call 144; rename_i p; refine (l8Min_any _ _ _).mono ?_; rintro e' w' ⟨rfl, rfl⟩; exact ⟨rfl, p, rfl⟩) | (go_at_call 145; rename_i p; refine (l8Max_any _ _ _).mono ?_; rintro e' w' ⟨rfl, rfl⟩; exact ⟨rfl, p, rfl⟩)))
          refine wpQuiet_nil ?_
          rintro _ ⟨p, rfl⟩
          replace H := H.call p.below
          clear k0 k1 k2 k3
          generalize p.w = w5 at *
          have c0 := H.get (b := w.heap.size + 2) (o := 0) (v := .int .i64 0) (by simp)
          have c1 := H.get (b := w.heap.size + 2) (o := 1) (v := .int .i64 0) (by simp)
          have z0 := H.fz (b := w.heap.size + 2) (o := 0) (v := .int .i64 0) (by simp)
          have z1 := H.fz (b := w.heap.size + 2) (o := 1) (v := .int .i64 0) (by simp)
          go_simp
          go_wp2
          obtain ⟨f0, f1, fb⟩ := H.fill (b := w.heap.size + 2) (x := .int .i64 0) (y := .int .i64 0) (by simp) (by simp) (by omega) (.int .i64 (min x x2)) (.int .i64 (max y y2))
          refine bodyPost_ret (results_two rfl _ _ (w.heap.size + 2) (.int .i64 (min x x2)) (.int .i64 (max y y2)) _ rfl f0 f1 Tryd.underlying24 rfl (by kernel_rfl)) rfl ?_
          exact ⟨rfl, fb⟩
        · obtain ⟨rfl, rfl⟩ := none_xy n2
          have e : join8 (x, y) (1, 0) = (x, y) := by unfold join8; rw [if_neg (by simp [h, h2]), if_neg (by simp [n]), if_pos n2]
          rw [e]
          go_enter Tryd.func68, Tryd.ntmps68
          go_wp2_with fail
          rw [← hW]
          go_wp2_with (go_at_call 59; refine (RangeOk_xy _ _ _).mono ?_; rintro e w' ⟨rfl, hb⟩; replace H := H.call hb; have c0 := H.get (b := w.heap.size + 1) (o := 0) (v := .int .i64 1) (by simp); have c1 := H.get (b := w.heap.size + 1) (o := 1) (v := .int .i64 0) (by simp))
          have k0 := fun p : Over w' => H.over (b := w.heap.size) (o := 0) (v := .int .i64 x) (by simp) p
          have k1 := fun p : Over w' => H.over (b := w.heap.size) (o := 1) (v := .int .i64 y) (by simp) p
          refine wp_region_over (by kernel_rfl) (by kernel_rfl) ?_
          repeat (go_big_quiet_step (first | (go_at_call 89; rename_i p; refine (l8None_any _).mono ?_; rintro e' w' ⟨rfl, hb1⟩; exact ⟨rfl, p.next hb1⟩)))
          refine wpQuiet_nil ?_
          rintro _ ⟨p, rfl⟩
          replace H := H.call p.below
          clear k0 k1
          generalize p.w = w3 at *
          go_wp2
          have k0 := fun p : Over w3 => H.over (b := w.heap.size + 1) (o := 0) (v := .int .i64 1) (by simp) p
          have k1 := fun p : Over w3 => H.over (b := w.heap.size + 1) (o := 1) (v := .int .i64 0) (by simp) p
          refine wp_region_over (by kernel_rfl) (by kernel_rfl) ?_
          repeat (go_big_quiet_step (first | (go_at_call 89; rename_i p; refine (l8None_any _).mono ?_; rintro e' w' ⟨rfl, hb1⟩; exact ⟨rfl, p.next hb1⟩)))
          refine wpQuiet_nil ?_
          rintro _ ⟨p, rfl⟩
          replace H := H.call p.below
          clear k0 k1
          generalize p.w = w4 at *
          have c0 := H.get (b := w.heap.size) (o := 0) (v := .int .i64 x) (by simp)
          have c1 := H.get (b := w.heap.size) (o := 1) (v := .int .i64 y) (by simp)
          have c2 := H.get (b := w.heap.size + 1) (o := 0) (v := .int .i64 1) (by simp)
          have c3 := H.get (b := w.heap.size + 1) (o := 1) (v := .int .i64 0) (by simp)
          have c4 := H.get (b := w.heap.size + 2) (o := 0) (v := .int .i64 0) (by simp)
          have c5 := H.get (b := w.heap.size + 2) (o := 1) (v := .int .i64 0) (by simp)
          have z0 := H.fz (b := w.heap.size + 2) (o := 0) (v := .int .i64 0) (by simp)
          have z1 := H.fz (b := w.heap.size + 2) (o := 1) (v := .int .i64 0) (by simp)
          go_wp2
          obtain ⟨f0, f1, fb⟩ := H.fill (b := w.heap.size + 2) (x := .int .i64 0) (y := .int .i64 0) (by simp) (by simp) (by omega) (.int .i64 x) (.int .i64 y)
          refine bodyPost_ret (results_two rfl _ _ (w.heap.size + 2) (.int .i64 x) (.int .i64 y) _ rfl f0 f1 Tryd.underlying24 rfl (by kernel_rfl)) rfl ?_
          exact ⟨rfl, fb⟩
      · obtain ⟨rfl, rfl⟩ := none_xy n
        have e : join8 (1, 0) (x2, y2) = (x2, y2) := by unfold join8; rw [if_neg (by simp [h, h2]), if_pos n]
        rw [e]
        go_enter Tryd.func68, Tryd.ntmps68
        go_wp2_with fail
        rw [← hW]
        go_wp2_with (go_at_call 59; refine (RangeOk_xy _ _ _).mono ?_; rintro e w' ⟨rfl, hb⟩; replace H := H.call hb; have c0 := H.get (b := w.heap.size + 1) (o := 0) (v := .int .i64 x2) (by simp); have c1 := H.get (b := w.heap.size + 1) (o := 1) (v := .int .i64 y2) (by simp))
        have k0 := fun p : Over w' => H.over (b := w.heap.size) (o := 0) (v := .int .i64 1) (by simp) p
        have k1 := fun p : Over w' => H.over (b := w.heap.size) (o := 1) (v := .int .i64 0) (by simp) p
        refine wp_region_over (by kernel_rfl) (by kernel_rfl) ?_
        repeat (go_big_quiet_step (first | (go_at_call 89; rename_i p; refine (l8None_any _).mono ?_; rintro e' w' ⟨rfl, hb1⟩; exact ⟨rfl, p.next hb1⟩)))
        refine wpQuiet_nil ?_
        rintro _ ⟨p, rfl⟩
        replace H := H.call p.below
        clear k0 k1
        generalize p.w = w3 at *
        have c0 := H.get (b := w.heap.size) (o := 0) (v := .int .i64 1) (by simp)
        have c1 := H.get (b := w.heap.size) (o := 1) (v := .int .i64 0) (by simp)
        have c2 := H.get (b := w.heap.size + 1) (o := 0) (v := .int .i64 x2) (by simp)
        have c3 := H.get (b := w.heap.size + 1) (o := 1) (v := .int .i64 y2) (by simp)
        have c4 := H.get (b := w.heap.size + 2) (o := 0) (v := .int .i64 0) (by simp)
        have c5 := H.get (b := w.heap.size + 2) (o := 1) (v := .int .i64 0) (by simp)
        have z0 := H.fz (b := w.heap.size + 2) (o := 0) (v := .int .i64 0) (by simp)
        have z1 := H.fz (b := w.heap.size + 2) (o := 1) (v := .int .i64 0) (by simp)
        go_wp2
        obtain ⟨f0, f1, fb⟩ := H.fill (b := w.heap.size + 2) (x := .int .i64 0) (y := .int .i64 0) (by simp) (by simp) (by omega) (.int .i64 x2) (.int .i64 y2)
        refine bodyPost_ret (results_two rfl _ _ (w.heap.size + 2) (.int .i64 x2) (.int .i64 y2) _ rfl f0 f1 Tryd.underlying24 rfl (by kernel_rfl)) rfl ?_
        exact ⟨rfl, fb⟩
end Go.Proofs.YthbbgkpkijlclaaDoor.num
