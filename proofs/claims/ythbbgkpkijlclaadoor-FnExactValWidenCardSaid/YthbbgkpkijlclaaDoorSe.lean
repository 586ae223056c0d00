/-
  The model's RangeMeet.
-/
import Derived.Test.YthbbgkpkijlclaaDoorSd
namespace Go.Proofs.YthbbgkpkijlclaaDoor.num
open Go.ChangeShapes Go.WideShapes Go.ChangeAt Go.RowKit
set_option linter.unusedVariables false


set_option maxRecDepth 100000 in
set_option maxHeartbeats 4000000 in
theorem RangeMeet_xy (x y x2 y2 : Int) (w : World) :
    Calls Tryd.prog 106 #[.agg #[.int .i64 x, .int .i64 y], .agg #[.int .i64 x2, .int .i64 y2]] w fun e w' => e = .returned (.agg #[.int .i64 (meet8 (x, y) (x2, y2)).1, .int .i64 (meet8 (x, y) (x2, y2)).2]) ∧ Below w.heap.size w w' := by
  obtain ⟨W, hW, H⟩ := Hd.three w (.int .i64 x) (.int .i64 y) (.int .i64 x2) (.int .i64 y2) (.int .i64 0) (.int .i64 0) 24 24 24
  cases h : rOk (x, y)
  · skip
    have e : meet8 (x, y) (x2, y2) = none8 := by unfold meet8; rw [if_pos (by simp [h])]
    rw [e]
    go_enter Tryd.func106, Tryd.ntmps106
    go_wp2_with fail
    rw [← hW]
    have k0 := fun p : Over W => H.over (b := w.heap.size) (o := 0) (v := .int .i64 x) (by simp) p
    have k1 := fun p : Over W => H.over (b := w.heap.size) (o := 1) (v := .int .i64 y) (by simp) p
    have k2 := fun p : Over W => H.over (b := w.heap.size + 1) (o := 0) (v := .int .i64 x2) (by simp) p
    have k3 := fun p : Over W => H.over (b := w.heap.size + 1) (o := 1) (v := .int .i64 y2) (by simp) p
    refine wp_region_over (by kernel_rfl) (by kernel_rfl) ?_
    repeat (go_big_quiet_step (first | (go_at_call 59; rename_i p; refine (RangeOk_xy _ _ _).mono ?_; rintro e' w' ⟨rfl, hb1⟩; exact ⟨by first | rw [h], p.next hb1⟩) | (go_at_call 89; rename_i p; refine (l8None_any _).mono ?_; rintro e' w' ⟨rfl, hb1⟩; exact ⟨rfl, p.next hb1⟩)))
    refine wpQuiet_nil ?_
    rintro _ ⟨p, rfl⟩
    replace H := H.call p.below
    clear k0 k1 k2 k3
    generalize p.w = w3 at *
    go_wp2_with (go_at_call 89; refine (l8None_any _).mono ?_; rintro e w' ⟨rfl, hb⟩; replace H := H.call hb; have c0 := H.get (b := w.heap.size + 2) (o := 0) (v := .int .i64 0) (by simp); have c1 := H.get (b := w.heap.size + 2) (o := 1) (v := .int .i64 0) (by simp); have z0 := H.fz (b := w.heap.size + 2) (o := 0) (v := .int .i64 0) (by simp); have z1 := H.fz (b := w.heap.size + 2) (o := 1) (v := .int .i64 0) (by simp))
    obtain ⟨f0, f1, fb⟩ := H.fill (b := w.heap.size + 2) (x := .int .i64 0) (y := .int .i64 0) (by simp) (by simp) (by omega) (.int .i64 1) (.int .i64 0)
    refine bodyPost_ret (results_two rfl _ _ (w.heap.size + 2) (.int .i64 1) (.int .i64 0) _ rfl f0 f1 Tryd.underlying24 rfl (by kernel_rfl)) rfl ?_
    exact ⟨rfl, fb⟩
  · cases h2 : rOk (x2, y2)
    · skip
      have e : meet8 (x, y) (x2, y2) = none8 := by unfold meet8; rw [if_pos (by simp [h2])]
      rw [e]
      go_enter Tryd.func106, Tryd.ntmps106
      go_wp2_with fail
      rw [← hW]
      have k0 := fun p : Over W => H.over (b := w.heap.size) (o := 0) (v := .int .i64 x) (by simp) p
      have k1 := fun p : Over W => H.over (b := w.heap.size) (o := 1) (v := .int .i64 y) (by simp) p
      have k2 := fun p : Over W => H.over (b := w.heap.size + 1) (o := 0) (v := .int .i64 x2) (by simp) p
      have k3 := fun p : Over W => H.over (b := w.heap.size + 1) (o := 1) (v := .int .i64 y2) (by simp) p
      refine wp_region_over (by kernel_rfl) (by kernel_rfl) ?_
      repeat (go_big_quiet_step (first | (go_at_call 59; rename_i p; refine (RangeOk_xy _ _ _).mono ?_; rintro e' w' ⟨rfl, hb1⟩; exact ⟨by first | rw [h] | rw [h2], p.next hb1⟩) | (go_at_call 89; rename_i p; refine (l8None_any _).mono ?_; rintro e' w' ⟨rfl, hb1⟩; exact ⟨rfl, p.next hb1⟩)))
      refine wpQuiet_nil ?_
      rintro _ ⟨p, rfl⟩
      replace H := H.call p.below
      clear k0 k1 k2 k3
      generalize p.w = w3 at *
      go_wp2_with (go_at_call 89; refine (l8None_any _).mono ?_; rintro e w' ⟨rfl, hb⟩; replace H := H.call hb; have c0 := H.get (b := w.heap.size + 2) (o := 0) (v := .int .i64 0) (by simp); have c1 := H.get (b := w.heap.size + 2) (o := 1) (v := .int .i64 0) (by simp); have z0 := H.fz (b := w.heap.size + 2) (o := 0) (v := .int .i64 0) (by simp); have z1 := H.fz (b := w.heap.size + 2) (o := 1) (v := .int .i64 0) (by simp))
      obtain ⟨f0, f1, fb⟩ := H.fill (b := w.heap.size + 2) (x := .int .i64 0) (y := .int .i64 0) (by simp) (by simp) (by omega) (.int .i64 1) (.int .i64 0)
      refine bodyPost_ret (results_two rfl _ _ (w.heap.size + 2) (.int .i64 1) (.int .i64 0) _ rfl f0 f1 Tryd.underlying24 rfl (by kernel_rfl)) rfl ?_
      exact ⟨rfl, fb⟩
    · cases n : isN (x, y)
      · have hq := @some_if x y n
        cases n2 : isN (x2, y2)
        · have hq2 := @some_if x2 y2 n2
          have e : meet8 (x, y) (x2, y2) = cut8 (max x x2) (min y y2) := by unfold meet8; rw [if_neg (by simp [h, h2, n, n2])]
          rw [e]
          go_enter Tryd.func106, Tryd.ntmps106
          go_wp2_with fail
          rw [← hW]
          have k0 := fun p : Over W => H.over (b := w.heap.size) (o := 0) (v := .int .i64 x) (by simp) p
          have k1 := fun p : Over W => H.over (b := w.heap.size) (o := 1) (v := .int .i64 y) (by simp) p
          have k2 := fun p : Over W => H.over (b := w.heap.size + 1) (o := 0) (v := .int .i64 x2) (by simp) p
          have k3 := fun p : Over W => H.over (b := w.heap.size + 1) (o := 1) (v := .int .i64 y2) (by simp) p
          refine wp_region_over (by kernel_rfl) (by kernel_rfl) ?_
          repeat (go_big_quiet_step (first | (go_at_call 59; rename_i p; refine (RangeOk_xy _ _ _).mono ?_; rintro e' w' ⟨rfl, hb1⟩; exact ⟨by first | rw [h] | rw [h2], p.next hb1⟩) | (go_at_call 89; rename_i p; refine (l8None_any _).mono ?_; rintro e' w' ⟨rfl, hb1⟩; exact ⟨rfl, p.next hb1⟩)))
          refine wpQuiet_nil ?_
          rintro _ ⟨p, rfl⟩
          replace H := H.call p.below
          clear k0 k1 k2 k3
          generalize p.w = w3 at *
          go_wp2_with fail
          have k0 := fun p : Over w3 => H.over (b := w.heap.size) (o := 0) (v := .int .i64 x) (by simp) p
          have k1 := fun p : Over w3 => H.over (b := w.heap.size) (o := 1) (v := .int .i64 y) (by simp) p
          have k2 := fun p : Over w3 => H.over (b := w.heap.size + 1) (o := 0) (v := .int .i64 x2) (by simp) p
          have k3 := fun p : Over w3 => H.over (b := w.heap.size + 1) (o := 1) (v := .int .i64 y2) (by simp) p
          refine wp_region_tail_over rfl rfl rfl rfl (by kernel_rfl) (by kernel_rfl) (by kernel_rfl) ?_
          simp only [List.dropLast, tv, List.cons_append, List.nil_append]
          repeat (go_big_quiet_step (first | (go_at_call 144; rename_i p; refine (l8Min_any _ _ _).mono ?_; rintro e' w' ⟨rfl, rfl⟩; exact ⟨rfl, p, rfl⟩) | (go_at_call 145; rename_i p; refine (l8Max_any _ _ _).mono ?_; rintro e' w' ⟨rfl, rfl⟩; exact ⟨rfl, p, rfl⟩) | (go_at_call 118; rename_i p; refine (l8Cut_any _ _ _).mono ?_; rintro e' w' ⟨rfl, hb1⟩; exact ⟨rfl, p.next hb1⟩)))
          refine wpQuiet_nil ?_
          rintro _ ⟨p, rfl⟩
          replace H := H.call p.below
          clear k0 k1 k2 k3
          generalize p.w = w5 at *
          have c0 := H.get (b := w.heap.size + 2) (o := 0) (v := .int .i64 0) (by simp)
          have c1 := H.get (b := w.heap.size + 2) (o := 1) (v := .int .i64 0) (by simp)
          have z0 := H.fz (b := w.heap.size + 2) (o := 0) (v := .int .i64 0) (by simp)
          have z1 := H.fz (b := w.heap.size + 2) (o := 1) (v := .int .i64 0) (by simp)
          go_simp
          go_wp2
          obtain ⟨f0, f1, fb⟩ := H.fill (b := w.heap.size + 2) (x := .int .i64 0) (y := .int .i64 0) (by simp) (by simp) (by omega) (.int .i64 (cut8 (max x x2) (min y y2)).1) (.int .i64 (cut8 (max x x2) (min y y2)).2)
          refine bodyPost_ret (results_two rfl _ _ (w.heap.size + 2) (.int .i64 (cut8 (max x x2) (min y y2)).1) (.int .i64 (cut8 (max x x2) (min y y2)).2) _ rfl f0 f1 Tryd.underlying24 rfl (by kernel_rfl)) rfl ?_
          exact ⟨rfl, fb⟩
        · obtain ⟨rfl, rfl⟩ := none_xy n2
          have e : meet8 (x, y) (1, 0) = none8 := by unfold meet8; rw [if_pos (by simp [n2])]
          rw [e]
          go_enter Tryd.func106, Tryd.ntmps106
          go_wp2_with fail
          rw [← hW]
          have k0 := fun p : Over W => H.over (b := w.heap.size) (o := 0) (v := .int .i64 x) (by simp) p
          have k1 := fun p : Over W => H.over (b := w.heap.size) (o := 1) (v := .int .i64 y) (by simp) p
          have k2 := fun p : Over W => H.over (b := w.heap.size + 1) (o := 0) (v := .int .i64 1) (by simp) p
          have k3 := fun p : Over W => H.over (b := w.heap.size + 1) (o := 1) (v := .int .i64 0) (by simp) p
          refine wp_region_over (by kernel_rfl) (by kernel_rfl) ?_
          repeat (go_big_quiet_step (first | (go_at_call 59; rename_i p; refine (RangeOk_xy _ _ _).mono ?_; rintro e' w' ⟨rfl, hb1⟩; exact ⟨by first | rw [h] | rw [h2], p.next hb1⟩) | (go_at_call 89; rename_i p; refine (l8None_any _).mono ?_; rintro e' w' ⟨rfl, hb1⟩; exact ⟨rfl, p.next hb1⟩)))
          refine wpQuiet_nil ?_
          rintro _ ⟨p, rfl⟩
          replace H := H.call p.below
          clear k0 k1 k2 k3
          generalize p.w = w3 at *
          go_wp2_with (go_at_call 89; refine (l8None_any _).mono ?_; rintro e w' ⟨rfl, hb⟩; replace H := H.call hb; have c0 := H.get (b := w.heap.size + 2) (o := 0) (v := .int .i64 0) (by simp); have c1 := H.get (b := w.heap.size + 2) (o := 1) (v := .int .i64 0) (by simp); have z0 := H.fz (b := w.heap.size + 2) (o := 0) (v := .int .i64 0) (by simp); have z1 := H.fz (b := w.heap.size + 2) (o := 1) (v := .int .i64 0) (by simp))
          obtain ⟨f0, f1, fb⟩ := H.fill (b := w.heap.size + 2) (x := .int .i64 0) (y := .int .i64 0) (by simp) (by simp) (by omega) (.int .i64 1) (.int .i64 0)
          refine bodyPost_ret (results_two rfl _ _ (w.heap.size + 2) (.int .i64 1) (.int .i64 0) _ rfl f0 f1 Tryd.underlying24 rfl (by kernel_rfl)) rfl ?_
          exact ⟨rfl, fb⟩
      · obtain ⟨rfl, rfl⟩ := none_xy n
        have e : meet8 (1, 0) (x2, y2) = none8 := by unfold meet8; rw [if_pos (by simp [n])]
        rw [e]
        go_enter Tryd.func106, Tryd.ntmps106
        go_wp2_with fail
        rw [← hW]
        have k0 := fun p : Over W => H.over (b := w.heap.size) (o := 0) (v := .int .i64 1) (by simp) p
        have k1 := fun p : Over W => H.over (b := w.heap.size) (o := 1) (v := .int .i64 0) (by simp) p
        have k2 := fun p : Over W => H.over (b := w.heap.size + 1) (o := 0) (v := .int .i64 x2) (by simp) p
        have k3 := fun p : Over W => H.over (b := w.heap.size + 1) (o := 1) (v := .int .i64 y2) (by simp) p
        refine wp_region_over (by kernel_rfl) (by kernel_rfl) ?_
        repeat (go_big_quiet_step (first | (go_at_call 59; rename_i p; refine (RangeOk_xy _ _ _).mono ?_; rintro e' w' ⟨rfl, hb1⟩; exact ⟨by first | rw [h] | rw [h2], p.next hb1⟩) | (go_at_call 89; rename_i p; refine (l8None_any _).mono ?_; rintro e' w' ⟨rfl, hb1⟩; exact ⟨rfl, p.next hb1⟩)))
        refine wpQuiet_nil ?_
        rintro _ ⟨p, rfl⟩
        replace H := H.call p.below
        clear k0 k1 k2 k3
        generalize p.w = w3 at *
        go_wp2_with (go_at_call 89; refine (l8None_any _).mono ?_; rintro e w' ⟨rfl, hb⟩; replace H := H.call hb; have c0 := H.get (b := w.heap.size + 2) (o := 0) (v := .int .i64 0) (by simp); have c1 := H.get (b := w.heap.size + 2) (o := 1) (v := .int .i64 0) (by simp); have z0 := H.fz (b := w.heap.size + 2) (o := 0) (v := .int .i64 0) (by simp); have z1 := H.fz (b := w.heap.size + 2) (o := 1) (v := .int .i64 0) (by simp))
        obtain ⟨f0, f1, fb⟩ := H.fill (b := w.heap.size + 2) (x := .int .i64 0) (y := .int .i64 0) (by simp) (by simp) (by omega) (.int .i64 1) (.int .i64 0)
        refine bodyPost_ret (results_two rfl _ _ (w.heap.size + 2) (.int .i64 1) (.int .i64 0) _ rfl f0 f1 Tryd.underlying24 rfl (by kernel_rfl)) rfl ?_
        exact ⟨rfl, fb⟩
end Go.Proofs.YthbbgkpkijlclaaDoor.num
