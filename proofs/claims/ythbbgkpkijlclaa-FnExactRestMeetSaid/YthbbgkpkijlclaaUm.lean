/-
  The program's RestMeet.
-/
import Derived.Test.YthbbgkpkijlclaaUl
namespace Go.Proofs.Ythbbgkpkijlclaa.num
open Go.ChangeShapes Go.WideShapes Go.ChangeAt Go.RowKit
set_option linter.unusedVariables false

set_option maxRecDepth 100000 in
set_option maxHeartbeats 4000000 in
theorem iMeet_bad9 (x y x2 y2 : Int) (h0 : qOk (x, y) = false ∨ qOk (x2, y2) = false) (w : World) :
    Calls Try.prog 9 #[.agg #[.int .i64 x, .int .i64 y], .agg #[.int .i64 x2, .int .i64 y2]] w fun e w' => e = .returned (mv9 (meet9 (x, y) (x2, y2))) ∧ Below w.heap.size w w' := by
  have e : meet9 (x, y) (x2, y2) = ((0, 0), false) := by unfold meet9; rw [if_pos h0]
  rw [e]
  obtain ⟨W, hW, H⟩ := Hd.three w (.int .i64 x) (.int .i64 y) (.int .i64 x2) (.int .i64 y2) (.int .i64 0) (.int .i64 0) 25 25 25
  cases h : qOk (x, y)
  · skip
    go_enter Try.func9, Try.ntmps9
    go_wp2_with fail
    rw [← hW]
    clear hW
    have c0 := H.get (b := w.heap.size) (o := 0) (v := .int .i64 x) (by simp)
    have c1 := H.get (b := w.heap.size) (o := 1) (v := .int .i64 y) (by simp)
    have c2 := H.get (b := w.heap.size + 1) (o := 0) (v := .int .i64 x2) (by simp)
    have c3 := H.get (b := w.heap.size + 1) (o := 1) (v := .int .i64 y2) (by simp)
    have c4 := H.get (b := w.heap.size + 2) (o := 0) (v := .int .i64 0) (by simp)
    have c5 := H.get (b := w.heap.size + 2) (o := 1) (v := .int .i64 0) (by simp)
    have z0 := H.fz (b := w.heap.size + 2) (o := 0) (v := .int .i64 0) (by simp)
    have z1 := H.fz (b := w.heap.size + 2) (o := 1) (v := .int .i64 0) (by simp)
    go_wp2_with (go_at_call 14; refine (iRestOk_xy _ _ _).mono ?_; rintro e w' ⟨rfl, hb⟩; (first | rw [h] | rw [h2]); replace H := H.call hb; have c0 := H.get (b := w.heap.size) (o := 0) (v := .int .i64 x) (by simp); have c1 := H.get (b := w.heap.size) (o := 1) (v := .int .i64 y) (by simp); have c2 := H.get (b := w.heap.size + 1) (o := 0) (v := .int .i64 x2) (by simp); have c3 := H.get (b := w.heap.size + 1) (o := 1) (v := .int .i64 y2) (by simp); have c4 := H.get (b := w.heap.size + 2) (o := 0) (v := .int .i64 0) (by simp); have c5 := H.get (b := w.heap.size + 2) (o := 1) (v := .int .i64 0) (by simp); have z0 := H.fz (b := w.heap.size + 2) (o := 0) (v := .int .i64 0) (by simp); have z1 := H.fz (b := w.heap.size + 2) (o := 1) (v := .int .i64 0) (by simp))
    obtain ⟨f0, f1, fb⟩ := H.fill (b := w.heap.size + 2) (x := .int .i64 0) (y := .int .i64 0) (by simp) (by simp) (by omega) (.int .i64 0) (.int .i64 0)
    refine bodyPost_ret (results_two_tmp rfl _ _ (w.heap.size + 2) (.int .i64 0) (.int .i64 0) _ rfl f0 f1 Try.underlying25 rfl (by kernel_rfl)) rfl ?_
    exact ⟨rfl, fb⟩
  · have h2 : qOk (x2, y2) = false := by rcases h0 with h0 | h0; · rw [h] at h0; cases h0
                                         · exact h0
    go_enter Try.func9, Try.ntmps9
    go_wp2_with fail
    rw [← hW]
    clear hW
    have c0 := H.get (b := w.heap.size) (o := 0) (v := .int .i64 x) (by simp)
    have c1 := H.get (b := w.heap.size) (o := 1) (v := .int .i64 y) (by simp)
    have c2 := H.get (b := w.heap.size + 1) (o := 0) (v := .int .i64 x2) (by simp)
    have c3 := H.get (b := w.heap.size + 1) (o := 1) (v := .int .i64 y2) (by simp)
    have c4 := H.get (b := w.heap.size + 2) (o := 0) (v := .int .i64 0) (by simp)
    have c5 := H.get (b := w.heap.size + 2) (o := 1) (v := .int .i64 0) (by simp)
    have z0 := H.fz (b := w.heap.size + 2) (o := 0) (v := .int .i64 0) (by simp)
    have z1 := H.fz (b := w.heap.size + 2) (o := 1) (v := .int .i64 0) (by simp)
    go_wp2_with (go_at_call 14; refine (iRestOk_xy _ _ _).mono ?_; rintro e w' ⟨rfl, hb⟩; (first | rw [h] | rw [h2]); replace H := H.call hb; have c0 := H.get (b := w.heap.size) (o := 0) (v := .int .i64 x) (by simp); have c1 := H.get (b := w.heap.size) (o := 1) (v := .int .i64 y) (by simp); have c2 := H.get (b := w.heap.size + 1) (o := 0) (v := .int .i64 x2) (by simp); have c3 := H.get (b := w.heap.size + 1) (o := 1) (v := .int .i64 y2) (by simp); have c4 := H.get (b := w.heap.size + 2) (o := 0) (v := .int .i64 0) (by simp); have c5 := H.get (b := w.heap.size + 2) (o := 1) (v := .int .i64 0) (by simp); have z0 := H.fz (b := w.heap.size + 2) (o := 0) (v := .int .i64 0) (by simp); have z1 := H.fz (b := w.heap.size + 2) (o := 1) (v := .int .i64 0) (by simp))
    obtain ⟨f0, f1, fb⟩ := H.fill (b := w.heap.size + 2) (x := .int .i64 0) (y := .int .i64 0) (by simp) (by simp) (by omega) (.int .i64 0) (.int .i64 0)
    refine bodyPost_ret (results_two_tmp rfl _ _ (w.heap.size + 2) (.int .i64 0) (.int .i64 0) _ rfl f0 f1 Try.underlying25 rfl (by kernel_rfl)) rfl ?_
    exact ⟨rfl, fb⟩
set_option maxRecDepth 100000 in
set_option maxHeartbeats 4000000 in
theorem iMeet_single9 (y x2 y2 : Int) (h : qOk (0, y) = true) (h2 : qOk (x2, y2) = true) (w : World) :
    Calls Try.prog 9 #[.agg #[.int .i64 0, .int .i64 y], .agg #[.int .i64 x2, .int .i64 y2]] w fun e w' => e = .returned (mv9 (meet9 (0, y) (x2, y2))) ∧ Below w.heap.size w w' := by
  have e : meet9 (0, y) (x2, y2) = ((if qHas (x2, y2) y = true then 0 else 0, if qHas (x2, y2) y = true then y else 0), qHas (x2, y2) y) := by
    unfold meet9; rw [if_neg (by simp [h, h2]), if_pos rfl]; cases qHas (x2, y2) y <;> rfl
  rw [e]
  obtain ⟨W, hW, H⟩ := Hd.three w (.int .i64 0) (.int .i64 y) (.int .i64 x2) (.int .i64 y2) (.int .i64 0) (.int .i64 0) 25 25 25
  have hh : ∀ w1 : World, Calls Try.prog 7 #[.agg #[.int .i64 x2, .int .i64 y2], .int .i64 y] w1 fun e w' => e = .returned (.bool (qHas (x2, y2) y)) ∧ Below w1.heap.size w1 w' := fun w1 => iRestHas_xy x2 y2 y w1
  generalize hk : qHas (x2, y2) y = k at *
  cases k
  · rw [show (((if false = true then (0 : Int) else 0, if false = true then y else 0), false) : T9 × Bool) = ((0, 0), false) by simp]
    go_enter Try.func9, Try.ntmps9
    go_wp2_with fail
    rw [← hW]
    clear hW
    have c0 := H.get (b := w.heap.size) (o := 0) (v := .int .i64 0) (by simp)
    have c1 := H.get (b := w.heap.size) (o := 1) (v := .int .i64 y) (by simp)
    have c2 := H.get (b := w.heap.size + 1) (o := 0) (v := .int .i64 x2) (by simp)
    have c3 := H.get (b := w.heap.size + 1) (o := 1) (v := .int .i64 y2) (by simp)
    have c4 := H.get (b := w.heap.size + 2) (o := 0) (v := .int .i64 0) (by simp)
    have c5 := H.get (b := w.heap.size + 2) (o := 1) (v := .int .i64 0) (by simp)
    have z0 := H.fz (b := w.heap.size + 2) (o := 0) (v := .int .i64 0) (by simp)
    have z1 := H.fz (b := w.heap.size + 2) (o := 1) (v := .int .i64 0) (by simp)
    go_wp2_with (first | (go_at_call 14; refine (iRestOk_xy _ _ _).mono ?_; rintro e w' ⟨rfl, hb⟩; (first | rw [h] | rw [h2]); replace H := H.call hb; have c0 := H.get (b := w.heap.size) (o := 0) (v := .int .i64 0) (by simp); have c1 := H.get (b := w.heap.size) (o := 1) (v := .int .i64 y) (by simp); have c2 := H.get (b := w.heap.size + 1) (o := 0) (v := .int .i64 x2) (by simp); have c3 := H.get (b := w.heap.size + 1) (o := 1) (v := .int .i64 y2) (by simp); have c4 := H.get (b := w.heap.size + 2) (o := 0) (v := .int .i64 0) (by simp); have c5 := H.get (b := w.heap.size + 2) (o := 1) (v := .int .i64 0) (by simp); have z0 := H.fz (b := w.heap.size + 2) (o := 0) (v := .int .i64 0) (by simp); have z1 := H.fz (b := w.heap.size + 2) (o := 1) (v := .int .i64 0) (by simp)) | (go_at_call 18; refine (single_xy _ _ _).mono ?_; rintro e w' ⟨rfl, hb⟩; simp only [decide_true]; replace H := H.call hb; have c0 := H.get (b := w.heap.size) (o := 0) (v := .int .i64 0) (by simp); have c1 := H.get (b := w.heap.size) (o := 1) (v := .int .i64 y) (by simp); have c2 := H.get (b := w.heap.size + 1) (o := 0) (v := .int .i64 x2) (by simp); have c3 := H.get (b := w.heap.size + 1) (o := 1) (v := .int .i64 y2) (by simp); have c4 := H.get (b := w.heap.size + 2) (o := 0) (v := .int .i64 0) (by simp); have c5 := H.get (b := w.heap.size + 2) (o := 1) (v := .int .i64 0) (by simp); have z0 := H.fz (b := w.heap.size + 2) (o := 0) (v := .int .i64 0) (by simp); have z1 := H.fz (b := w.heap.size + 2) (o := 1) (v := .int .i64 0) (by simp)))
    have k0 := fun p : Over _ => H.over (b := w.heap.size) (o := 0) (v := .int .i64 0) (by simp) p
    have k1 := fun p : Over _ => H.over (b := w.heap.size) (o := 1) (v := .int .i64 y) (by simp) p
    have k2 := fun p : Over _ => H.over (b := w.heap.size + 1) (o := 0) (v := .int .i64 x2) (by simp) p
    have k3 := fun p : Over _ => H.over (b := w.heap.size + 1) (o := 1) (v := .int .i64 y2) (by simp) p
    refine wp_region_tails_over 8 (by decide) (by kernel_rfl) (by kernel_rfl) (by kernel_rfl) ?_
    simp only [List.take, List.drop, List.map, tw, List.cons_append, List.nil_append]
    repeat (go_big_quiet_step (first | (go_at_call 7; rename_i p; refine (hh _).mono ?_; rintro e' w' ⟨rfl, hb1⟩; exact ⟨rfl, p.next hb1⟩) | (go_at_call 19; rename_i p; refine (just_any _ _ _ _).mono ?_; rintro e' w' ⟨rfl, hb1⟩; exact ⟨rfl, p.next hb1⟩)))
    refine wpQuiet_nil ?_
    rintro _ ⟨p, rfl⟩
    replace H := H.call p.below
    clear k0 k1 k2 k3
    generalize p.w = w5 at *
    have c0 := H.get (b := w.heap.size) (o := 0) (v := .int .i64 0) (by simp)
    have c1 := H.get (b := w.heap.size) (o := 1) (v := .int .i64 y) (by simp)
    have c2 := H.get (b := w.heap.size + 1) (o := 0) (v := .int .i64 x2) (by simp)
    have c3 := H.get (b := w.heap.size + 1) (o := 1) (v := .int .i64 y2) (by simp)
    have c4 := H.get (b := w.heap.size + 2) (o := 0) (v := .int .i64 0) (by simp)
    have c5 := H.get (b := w.heap.size + 2) (o := 1) (v := .int .i64 0) (by simp)
    have z0 := H.fz (b := w.heap.size + 2) (o := 0) (v := .int .i64 0) (by simp)
    have z1 := H.fz (b := w.heap.size + 2) (o := 1) (v := .int .i64 0) (by simp)
    go_simp
    go_wp2
    obtain ⟨f0, f1, fb⟩ := H.fill (b := w.heap.size + 2) (x := .int .i64 0) (y := .int .i64 0) (by simp) (by simp) (by omega) (.int .i64 0) (.int .i64 0)
    refine bodyPost_ret (results_two_tmp rfl _ _ (w.heap.size + 2) (.int .i64 0) (.int .i64 0) _ rfl f0 f1 Try.underlying25 rfl (by kernel_rfl)) rfl ?_
    exact ⟨rfl, fb⟩
  · rw [show (((if true = true then (0 : Int) else 0, if true = true then y else 0), true) : T9 × Bool) = ((0, y), true) by simp]
    go_enter Try.func9, Try.ntmps9
    go_wp2_with fail
    rw [← hW]
    clear hW
    have c0 := H.get (b := w.heap.size) (o := 0) (v := .int .i64 0) (by simp)
    have c1 := H.get (b := w.heap.size) (o := 1) (v := .int .i64 y) (by simp)
    have c2 := H.get (b := w.heap.size + 1) (o := 0) (v := .int .i64 x2) (by simp)
    have c3 := H.get (b := w.heap.size + 1) (o := 1) (v := .int .i64 y2) (by simp)
    have c4 := H.get (b := w.heap.size + 2) (o := 0) (v := .int .i64 0) (by simp)
    have c5 := H.get (b := w.heap.size + 2) (o := 1) (v := .int .i64 0) (by simp)
    have z0 := H.fz (b := w.heap.size + 2) (o := 0) (v := .int .i64 0) (by simp)
    have z1 := H.fz (b := w.heap.size + 2) (o := 1) (v := .int .i64 0) (by simp)
    go_wp2_with (first | (go_at_call 14; refine (iRestOk_xy _ _ _).mono ?_; rintro e w' ⟨rfl, hb⟩; (first | rw [h] | rw [h2]); replace H := H.call hb; have c0 := H.get (b := w.heap.size) (o := 0) (v := .int .i64 0) (by simp); have c1 := H.get (b := w.heap.size) (o := 1) (v := .int .i64 y) (by simp); have c2 := H.get (b := w.heap.size + 1) (o := 0) (v := .int .i64 x2) (by simp); have c3 := H.get (b := w.heap.size + 1) (o := 1) (v := .int .i64 y2) (by simp); have c4 := H.get (b := w.heap.size + 2) (o := 0) (v := .int .i64 0) (by simp); have c5 := H.get (b := w.heap.size + 2) (o := 1) (v := .int .i64 0) (by simp); have z0 := H.fz (b := w.heap.size + 2) (o := 0) (v := .int .i64 0) (by simp); have z1 := H.fz (b := w.heap.size + 2) (o := 1) (v := .int .i64 0) (by simp)) | (go_at_call 18; refine (single_xy _ _ _).mono ?_; rintro e w' ⟨rfl, hb⟩; simp only [decide_true]; replace H := H.call hb; have c0 := H.get (b := w.heap.size) (o := 0) (v := .int .i64 0) (by simp); have c1 := H.get (b := w.heap.size) (o := 1) (v := .int .i64 y) (by simp); have c2 := H.get (b := w.heap.size + 1) (o := 0) (v := .int .i64 x2) (by simp); have c3 := H.get (b := w.heap.size + 1) (o := 1) (v := .int .i64 y2) (by simp); have c4 := H.get (b := w.heap.size + 2) (o := 0) (v := .int .i64 0) (by simp); have c5 := H.get (b := w.heap.size + 2) (o := 1) (v := .int .i64 0) (by simp); have z0 := H.fz (b := w.heap.size + 2) (o := 0) (v := .int .i64 0) (by simp); have z1 := H.fz (b := w.heap.size + 2) (o := 1) (v := .int .i64 0) (by simp)))
    have k0 := fun p : Over _ => H.over (b := w.heap.size) (o := 0) (v := .int .i64 0) (by simp) p
    have k1 := fun p : Over _ => H.over (b := w.heap.size) (o := 1) (v := .int .i64 y) (by simp) p
    have k2 := fun p : Over _ => H.over (b := w.heap.size + 1) (o := 0) (v := .int .i64 x2) (by simp) p
    have k3 := fun p : Over _ => H.over (b := w.heap.size + 1) (o := 1) (v := .int .i64 y2) (by simp) p
    refine wp_region_tails_over 8 (by decide) (by kernel_rfl) (by kernel_rfl) (by kernel_rfl) ?_
    simp only [List.take, List.drop, List.map, tw, List.cons_append, List.nil_append]
    repeat (go_big_quiet_step (first | (go_at_call 7; rename_i p; refine (hh _).mono ?_; rintro e' w' ⟨rfl, hb1⟩; exact ⟨rfl, p.next hb1⟩) | (go_at_call 19; rename_i p; refine (just_any _ _ _ _).mono ?_; rintro e' w' ⟨rfl, hb1⟩; exact ⟨rfl, p.next hb1⟩)))
    refine wpQuiet_nil ?_
    rintro _ ⟨p, rfl⟩
    replace H := H.call p.below
    clear k0 k1 k2 k3
    generalize p.w = w5 at *
    have c0 := H.get (b := w.heap.size) (o := 0) (v := .int .i64 0) (by simp)
    have c1 := H.get (b := w.heap.size) (o := 1) (v := .int .i64 y) (by simp)
    have c2 := H.get (b := w.heap.size + 1) (o := 0) (v := .int .i64 x2) (by simp)
    have c3 := H.get (b := w.heap.size + 1) (o := 1) (v := .int .i64 y2) (by simp)
    have c4 := H.get (b := w.heap.size + 2) (o := 0) (v := .int .i64 0) (by simp)
    have c5 := H.get (b := w.heap.size + 2) (o := 1) (v := .int .i64 0) (by simp)
    have z0 := H.fz (b := w.heap.size + 2) (o := 0) (v := .int .i64 0) (by simp)
    have z1 := H.fz (b := w.heap.size + 2) (o := 1) (v := .int .i64 0) (by simp)
    go_simp
    go_wp2
    obtain ⟨f0, f1, fb⟩ := H.fill (b := w.heap.size + 2) (x := .int .i64 0) (y := .int .i64 0) (by simp) (by simp) (by omega) (.int .i64 0) (.int .i64 y)
    refine bodyPost_ret (results_two_tmp rfl _ _ (w.heap.size + 2) (.int .i64 0) (.int .i64 y) _ rfl f0 f1 Try.underlying25 rfl (by kernel_rfl)) rfl ?_
    exact ⟨rfl, fb⟩
set_option maxRecDepth 100000 in
set_option maxHeartbeats 4000000 in
theorem iMeet_right9 (x y y2 : Int) (hx : x ≠ 0) (h : qOk (x, y) = true) (h2 : qOk (0, y2) = true) (w : World) :
    Calls Try.prog 9 #[.agg #[.int .i64 x, .int .i64 y], .agg #[.int .i64 0, .int .i64 y2]] w fun e w' => e = .returned (mv9 (meet9 (x, y) (0, y2))) ∧ Below w.heap.size w w' := by
  have e : meet9 (x, y) (0, y2) = (if qHas (x, y) y2 = true then ((0, y2), true) else ((0, 0), false)) := by
    simp [meet9, h, h2, hx]
  rw [e]
  have hd : decide (x = 0) = false := by simp [hx]
  obtain ⟨W, hW, H⟩ := Hd.three w (.int .i64 x) (.int .i64 y) (.int .i64 0) (.int .i64 y2) (.int .i64 0) (.int .i64 0) 25 25 25
  have hh : ∀ w1 : World, Calls Try.prog 7 #[.agg #[.int .i64 x, .int .i64 y], .int .i64 y2] w1 fun e w' => e = .returned (.bool (qHas (x, y) y2)) ∧ Below w1.heap.size w1 w' := fun w1 => iRestHas_xy x y y2 w1
  generalize hk : qHas (x, y) y2 = k at *
  cases k
  · rw [if_neg (by simp)]
    go_enter Try.func9, Try.ntmps9
    go_wp2_with fail
    rw [← hW]
    clear hW
    have c0 := H.get (b := w.heap.size) (o := 0) (v := .int .i64 x) (by simp)
    have c1 := H.get (b := w.heap.size) (o := 1) (v := .int .i64 y) (by simp)
    have c2 := H.get (b := w.heap.size + 1) (o := 0) (v := .int .i64 0) (by simp)
    have c3 := H.get (b := w.heap.size + 1) (o := 1) (v := .int .i64 y2) (by simp)
    have c4 := H.get (b := w.heap.size + 2) (o := 0) (v := .int .i64 0) (by simp)
    have c5 := H.get (b := w.heap.size + 2) (o := 1) (v := .int .i64 0) (by simp)
    have z0 := H.fz (b := w.heap.size + 2) (o := 0) (v := .int .i64 0) (by simp)
    have z1 := H.fz (b := w.heap.size + 2) (o := 1) (v := .int .i64 0) (by simp)
    go_wp2_with (first | (go_at_call 14; refine (iRestOk_xy _ _ _).mono ?_; rintro e w' ⟨rfl, hb⟩; (first | rw [h] | rw [h2]); replace H := H.call hb; have c0 := H.get (b := w.heap.size) (o := 0) (v := .int .i64 x) (by simp); have c1 := H.get (b := w.heap.size) (o := 1) (v := .int .i64 y) (by simp); have c2 := H.get (b := w.heap.size + 1) (o := 0) (v := .int .i64 0) (by simp); have c3 := H.get (b := w.heap.size + 1) (o := 1) (v := .int .i64 y2) (by simp); have c4 := H.get (b := w.heap.size + 2) (o := 0) (v := .int .i64 0) (by simp); have c5 := H.get (b := w.heap.size + 2) (o := 1) (v := .int .i64 0) (by simp); have z0 := H.fz (b := w.heap.size + 2) (o := 0) (v := .int .i64 0) (by simp); have z1 := H.fz (b := w.heap.size + 2) (o := 1) (v := .int .i64 0) (by simp)) | (go_at_call 18; refine (single_xy _ _ _).mono ?_; rintro e w' ⟨rfl, hb⟩; (first | rw [hd] | simp only [decide_true]); replace H := H.call hb; have c0 := H.get (b := w.heap.size) (o := 0) (v := .int .i64 x) (by simp); have c1 := H.get (b := w.heap.size) (o := 1) (v := .int .i64 y) (by simp); have c2 := H.get (b := w.heap.size + 1) (o := 0) (v := .int .i64 0) (by simp); have c3 := H.get (b := w.heap.size + 1) (o := 1) (v := .int .i64 y2) (by simp); have c4 := H.get (b := w.heap.size + 2) (o := 0) (v := .int .i64 0) (by simp); have c5 := H.get (b := w.heap.size + 2) (o := 1) (v := .int .i64 0) (by simp); have z0 := H.fz (b := w.heap.size + 2) (o := 0) (v := .int .i64 0) (by simp); have z1 := H.fz (b := w.heap.size + 2) (o := 1) (v := .int .i64 0) (by simp)))
    have k0 := fun p : Over _ => H.over (b := w.heap.size) (o := 0) (v := .int .i64 x) (by simp) p
    have k1 := fun p : Over _ => H.over (b := w.heap.size) (o := 1) (v := .int .i64 y) (by simp) p
    have k2 := fun p : Over _ => H.over (b := w.heap.size + 1) (o := 0) (v := .int .i64 0) (by simp) p
    have k3 := fun p : Over _ => H.over (b := w.heap.size + 1) (o := 1) (v := .int .i64 y2) (by simp) p
    refine wp_region_tails_over 8 (by decide) (by kernel_rfl) (by kernel_rfl) (by kernel_rfl) ?_
    simp only [List.take, List.drop, List.map, tw, List.cons_append, List.nil_append]
    repeat (go_big_quiet_step (first | (go_at_call 7; rename_i p; refine (hh _).mono ?_; rintro e' w' ⟨rfl, hb1⟩; exact ⟨rfl, p.next hb1⟩) | (go_at_call 19; rename_i p; refine (just_any _ _ _ _).mono ?_; rintro e' w' ⟨rfl, hb1⟩; exact ⟨rfl, p.next hb1⟩)))
    refine wpQuiet_nil ?_
    rintro _ ⟨p, rfl⟩
    replace H := H.call p.below
    clear k0 k1 k2 k3
    generalize p.w = w5 at *
    have c0 := H.get (b := w.heap.size) (o := 0) (v := .int .i64 x) (by simp)
    have c1 := H.get (b := w.heap.size) (o := 1) (v := .int .i64 y) (by simp)
    have c2 := H.get (b := w.heap.size + 1) (o := 0) (v := .int .i64 0) (by simp)
    have c3 := H.get (b := w.heap.size + 1) (o := 1) (v := .int .i64 y2) (by simp)
    have c4 := H.get (b := w.heap.size + 2) (o := 0) (v := .int .i64 0) (by simp)
    have c5 := H.get (b := w.heap.size + 2) (o := 1) (v := .int .i64 0) (by simp)
    have z0 := H.fz (b := w.heap.size + 2) (o := 0) (v := .int .i64 0) (by simp)
    have z1 := H.fz (b := w.heap.size + 2) (o := 1) (v := .int .i64 0) (by simp)
    go_simp
    go_wp2
    obtain ⟨f0, f1, fb⟩ := H.fill (b := w.heap.size + 2) (x := .int .i64 0) (y := .int .i64 0) (by simp) (by simp) (by omega) (.int .i64 0) (.int .i64 0)
    refine bodyPost_ret (results_two_tmp rfl _ _ (w.heap.size + 2) (.int .i64 0) (.int .i64 0) _ rfl f0 f1 Try.underlying25 rfl (by kernel_rfl)) rfl ?_
    exact ⟨rfl, fb⟩
  · rw [if_pos rfl]
    go_enter Try.func9, Try.ntmps9
    go_wp2_with fail
    rw [← hW]
    clear hW
    have c0 := H.get (b := w.heap.size) (o := 0) (v := .int .i64 x) (by simp)
    have c1 := H.get (b := w.heap.size) (o := 1) (v := .int .i64 y) (by simp)
    have c2 := H.get (b := w.heap.size + 1) (o := 0) (v := .int .i64 0) (by simp)
    have c3 := H.get (b := w.heap.size + 1) (o := 1) (v := .int .i64 y2) (by simp)
    have c4 := H.get (b := w.heap.size + 2) (o := 0) (v := .int .i64 0) (by simp)
    have c5 := H.get (b := w.heap.size + 2) (o := 1) (v := .int .i64 0) (by simp)
    have z0 := H.fz (b := w.heap.size + 2) (o := 0) (v := .int .i64 0) (by simp)
    have z1 := H.fz (b := w.heap.size + 2) (o := 1) (v := .int .i64 0) (by simp)
    go_wp2_with (first | (go_at_call 14; refine (iRestOk_xy _ _ _).mono ?_; rintro e w' ⟨rfl, hb⟩; (first | rw [h] | rw [h2]); replace H := H.call hb; have c0 := H.get (b := w.heap.size) (o := 0) (v := .int .i64 x) (by simp); have c1 := H.get (b := w.heap.size) (o := 1) (v := .int .i64 y) (by simp); have c2 := H.get (b := w.heap.size + 1) (o := 0) (v := .int .i64 0) (by simp); have c3 := H.get (b := w.heap.size + 1) (o := 1) (v := .int .i64 y2) (by simp); have c4 := H.get (b := w.heap.size + 2) (o := 0) (v := .int .i64 0) (by simp); have c5 := H.get (b := w.heap.size + 2) (o := 1) (v := .int .i64 0) (by simp); have z0 := H.fz (b := w.heap.size + 2) (o := 0) (v := .int .i64 0) (by simp); have z1 := H.fz (b := w.heap.size + 2) (o := 1) (v := .int .i64 0) (by simp)) | (go_at_call 18; refine (single_xy _ _ _).mono ?_; rintro e w' ⟨rfl, hb⟩; (first | rw [hd] | simp only [decide_true]); replace H := H.call hb; have c0 := H.get (b := w.heap.size) (o := 0) (v := .int .i64 x) (by simp); have c1 := H.get (b := w.heap.size) (o := 1) (v := .int .i64 y) (by simp); have c2 := H.get (b := w.heap.size + 1) (o := 0) (v := .int .i64 0) (by simp); have c3 := H.get (b := w.heap.size + 1) (o := 1) (v := .int .i64 y2) (by simp); have c4 := H.get (b := w.heap.size + 2) (o := 0) (v := .int .i64 0) (by simp); have c5 := H.get (b := w.heap.size + 2) (o := 1) (v := .int .i64 0) (by simp); have z0 := H.fz (b := w.heap.size + 2) (o := 0) (v := .int .i64 0) (by simp); have z1 := H.fz (b := w.heap.size + 2) (o := 1) (v := .int .i64 0) (by simp)))
    have k0 := fun p : Over _ => H.over (b := w.heap.size) (o := 0) (v := .int .i64 x) (by simp) p
    have k1 := fun p : Over _ => H.over (b := w.heap.size) (o := 1) (v := .int .i64 y) (by simp) p
    have k2 := fun p : Over _ => H.over (b := w.heap.size + 1) (o := 0) (v := .int .i64 0) (by simp) p
    have k3 := fun p : Over _ => H.over (b := w.heap.size + 1) (o := 1) (v := .int .i64 y2) (by simp) p
    refine wp_region_tails_over 8 (by decide) (by kernel_rfl) (by kernel_rfl) (by kernel_rfl) ?_
    simp only [List.take, List.drop, List.map, tw, List.cons_append, List.nil_append]
    repeat (go_big_quiet_step (first | (go_at_call 7; rename_i p; refine (hh _).mono ?_; rintro e' w' ⟨rfl, hb1⟩; exact ⟨rfl, p.next hb1⟩) | (go_at_call 19; rename_i p; refine (just_any _ _ _ _).mono ?_; rintro e' w' ⟨rfl, hb1⟩; exact ⟨rfl, p.next hb1⟩)))
    refine wpQuiet_nil ?_
    rintro _ ⟨p, rfl⟩
    replace H := H.call p.below
    clear k0 k1 k2 k3
    generalize p.w = w5 at *
    have c0 := H.get (b := w.heap.size) (o := 0) (v := .int .i64 x) (by simp)
    have c1 := H.get (b := w.heap.size) (o := 1) (v := .int .i64 y) (by simp)
    have c2 := H.get (b := w.heap.size + 1) (o := 0) (v := .int .i64 0) (by simp)
    have c3 := H.get (b := w.heap.size + 1) (o := 1) (v := .int .i64 y2) (by simp)
    have c4 := H.get (b := w.heap.size + 2) (o := 0) (v := .int .i64 0) (by simp)
    have c5 := H.get (b := w.heap.size + 2) (o := 1) (v := .int .i64 0) (by simp)
    have z0 := H.fz (b := w.heap.size + 2) (o := 0) (v := .int .i64 0) (by simp)
    have z1 := H.fz (b := w.heap.size + 2) (o := 1) (v := .int .i64 0) (by simp)
    go_simp
    go_wp2
    obtain ⟨f0, f1, fb⟩ := H.fill (b := w.heap.size + 2) (x := .int .i64 0) (y := .int .i64 0) (by simp) (by simp) (by omega) (.int .i64 0) (.int .i64 y2)
    refine bodyPost_ret (results_two_tmp rfl _ _ (w.heap.size + 2) (.int .i64 0) (.int .i64 y2) _ rfl f0 f1 Try.underlying25 rfl (by kernel_rfl)) rfl ?_
    exact ⟨rfl, fb⟩
set_option maxRecDepth 100000 in
set_option maxHeartbeats 4000000 in
theorem iMeet_both9 (x y x2 y2 : Int) (hx : x ≠ 0) (hx2 : x2 ≠ 0) (h : qOk (x, y) = true) (h2 : qOk (x2, y2) = true) (w : World) :
    Calls Try.prog 9 #[.agg #[.int .i64 x, .int .i64 y], .agg #[.int .i64 x2, .int .i64 y2]] w fun e w' => e = .returned (mv9 (meet9 (x, y) (x2, y2))) ∧ Below w.heap.size w w' := by
  have hd : decide (x = 0) = false := by simp [hx]
  have hd2 : decide (x2 = 0) = false := by simp [hx2]
  obtain ⟨W, hW, H⟩ := Hd.three w (.int .i64 x) (.int .i64 y) (.int .i64 x2) (.int .i64 y2) (.int .i64 0) (.int .i64 0) 25 25 25
  by_cases hlt : x < x2
  · rw [meet9_turn h h2 hx hx2 hlt]
    have hm : ∀ w1 : World, Calls Try.prog 20 #[.agg #[.int .i64 x2, .int .i64 y2], .agg #[.int .i64 x, .int .i64 y]] w1 fun e w' => e = .returned (.tuple #[.agg #[.int .i64 (mf9 (x2, y2) (x, y)).1.1, .int .i64 (mf9 (x2, y2) (x, y)).1.2], .bool (mf9 (x2, y2) (x, y)).2]) ∧ Below w1.heap.size w1 w' := fun w1 => meetFine_xy x2 y2 x y hx2 hx h2 h w1
    generalize mf9 (x2, y2) (x, y) = q at *
    go_enter Try.func9, Try.ntmps9
    go_wp2_with fail
    rw [← hW]
    clear hW
    have c0 := H.get (b := w.heap.size) (o := 0) (v := .int .i64 x) (by simp)
    have c1 := H.get (b := w.heap.size) (o := 1) (v := .int .i64 y) (by simp)
    have c2 := H.get (b := w.heap.size + 1) (o := 0) (v := .int .i64 x2) (by simp)
    have c3 := H.get (b := w.heap.size + 1) (o := 1) (v := .int .i64 y2) (by simp)
    have c4 := H.get (b := w.heap.size + 2) (o := 0) (v := .int .i64 0) (by simp)
    have c5 := H.get (b := w.heap.size + 2) (o := 1) (v := .int .i64 0) (by simp)
    have z0 := H.fz (b := w.heap.size + 2) (o := 0) (v := .int .i64 0) (by simp)
    have z1 := H.fz (b := w.heap.size + 2) (o := 1) (v := .int .i64 0) (by simp)
    go_wp2_with (first | (go_at_call 14; refine (iRestOk_xy _ _ _).mono ?_; rintro e w' ⟨rfl, hb⟩; (first | rw [h] | rw [h2]); replace H := H.call hb; have c0 := H.get (b := w.heap.size) (o := 0) (v := .int .i64 x) (by simp); have c1 := H.get (b := w.heap.size) (o := 1) (v := .int .i64 y) (by simp); have c2 := H.get (b := w.heap.size + 1) (o := 0) (v := .int .i64 x2) (by simp); have c3 := H.get (b := w.heap.size + 1) (o := 1) (v := .int .i64 y2) (by simp); have c4 := H.get (b := w.heap.size + 2) (o := 0) (v := .int .i64 0) (by simp); have c5 := H.get (b := w.heap.size + 2) (o := 1) (v := .int .i64 0) (by simp); have z0 := H.fz (b := w.heap.size + 2) (o := 0) (v := .int .i64 0) (by simp); have z1 := H.fz (b := w.heap.size + 2) (o := 1) (v := .int .i64 0) (by simp)) | (go_at_call 18; refine (single_xy _ _ _).mono ?_; rintro e w' ⟨rfl, hb⟩; (first | rw [hd] | rw [hd2]); replace H := H.call hb; have c0 := H.get (b := w.heap.size) (o := 0) (v := .int .i64 x) (by simp); have c1 := H.get (b := w.heap.size) (o := 1) (v := .int .i64 y) (by simp); have c2 := H.get (b := w.heap.size + 1) (o := 0) (v := .int .i64 x2) (by simp); have c3 := H.get (b := w.heap.size + 1) (o := 1) (v := .int .i64 y2) (by simp); have c4 := H.get (b := w.heap.size + 2) (o := 0) (v := .int .i64 0) (by simp); have c5 := H.get (b := w.heap.size + 2) (o := 1) (v := .int .i64 0) (by simp); have z0 := H.fz (b := w.heap.size + 2) (o := 0) (v := .int .i64 0) (by simp); have z1 := H.fz (b := w.heap.size + 2) (o := 1) (v := .int .i64 0) (by simp)) | (go_at_call 20; refine (hm _).mono ?_; rintro e w' ⟨rfl, hb⟩; replace H := H.call hb; have c0 := H.get (b := w.heap.size) (o := 0) (v := .int .i64 x) (by simp); have c1 := H.get (b := w.heap.size) (o := 1) (v := .int .i64 y) (by simp); have c2 := H.get (b := w.heap.size + 1) (o := 0) (v := .int .i64 x2) (by simp); have c3 := H.get (b := w.heap.size + 1) (o := 1) (v := .int .i64 y2) (by simp); have c4 := H.get (b := w.heap.size + 2) (o := 0) (v := .int .i64 0) (by simp); have c5 := H.get (b := w.heap.size + 2) (o := 1) (v := .int .i64 0) (by simp); have z0 := H.fz (b := w.heap.size + 2) (o := 0) (v := .int .i64 0) (by simp); have z1 := H.fz (b := w.heap.size + 2) (o := 1) (v := .int .i64 0) (by simp)))
    obtain ⟨f0, f1, fb⟩ := H.fill (b := w.heap.size + 2) (x := .int .i64 0) (y := .int .i64 0) (by simp) (by simp) (by omega) (.int .i64 q.1.1) (.int .i64 q.1.2)
    refine bodyPost_ret (results_two_tmp rfl _ _ (w.heap.size + 2) (.int .i64 q.1.1) (.int .i64 q.1.2) _ rfl f0 f1 Try.underlying25 rfl (by kernel_rfl)) rfl ?_
    exact ⟨rfl, fb⟩
  · rw [meet9_fine h h2 hx hx2 hlt]
    have hm : ∀ w1 : World, Calls Try.prog 20 #[.agg #[.int .i64 x, .int .i64 y], .agg #[.int .i64 x2, .int .i64 y2]] w1 fun e w' => e = .returned (.tuple #[.agg #[.int .i64 (mf9 (x, y) (x2, y2)).1.1, .int .i64 (mf9 (x, y) (x2, y2)).1.2], .bool (mf9 (x, y) (x2, y2)).2]) ∧ Below w1.heap.size w1 w' := fun w1 => meetFine_xy x y x2 y2 hx hx2 h h2 w1
    generalize mf9 (x, y) (x2, y2) = q at *
    go_enter Try.func9, Try.ntmps9
    go_wp2_with fail
    rw [← hW]
    clear hW
    have c0 := H.get (b := w.heap.size) (o := 0) (v := .int .i64 x) (by simp)
    have c1 := H.get (b := w.heap.size) (o := 1) (v := .int .i64 y) (by simp)
    have c2 := H.get (b := w.heap.size + 1) (o := 0) (v := .int .i64 x2) (by simp)
    have c3 := H.get (b := w.heap.size + 1) (o := 1) (v := .int .i64 y2) (by simp)
    have c4 := H.get (b := w.heap.size + 2) (o := 0) (v := .int .i64 0) (by simp)
    have c5 := H.get (b := w.heap.size + 2) (o := 1) (v := .int .i64 0) (by simp)
    have z0 := H.fz (b := w.heap.size + 2) (o := 0) (v := .int .i64 0) (by simp)
    have z1 := H.fz (b := w.heap.size + 2) (o := 1) (v := .int .i64 0) (by simp)
    go_wp2_with (first | (go_at_call 14; refine (iRestOk_xy _ _ _).mono ?_; rintro e w' ⟨rfl, hb⟩; (first | rw [h] | rw [h2]); replace H := H.call hb; have c0 := H.get (b := w.heap.size) (o := 0) (v := .int .i64 x) (by simp); have c1 := H.get (b := w.heap.size) (o := 1) (v := .int .i64 y) (by simp); have c2 := H.get (b := w.heap.size + 1) (o := 0) (v := .int .i64 x2) (by simp); have c3 := H.get (b := w.heap.size + 1) (o := 1) (v := .int .i64 y2) (by simp); have c4 := H.get (b := w.heap.size + 2) (o := 0) (v := .int .i64 0) (by simp); have c5 := H.get (b := w.heap.size + 2) (o := 1) (v := .int .i64 0) (by simp); have z0 := H.fz (b := w.heap.size + 2) (o := 0) (v := .int .i64 0) (by simp); have z1 := H.fz (b := w.heap.size + 2) (o := 1) (v := .int .i64 0) (by simp)) | (go_at_call 18; refine (single_xy _ _ _).mono ?_; rintro e w' ⟨rfl, hb⟩; (first | rw [hd] | rw [hd2]); replace H := H.call hb; have c0 := H.get (b := w.heap.size) (o := 0) (v := .int .i64 x) (by simp); have c1 := H.get (b := w.heap.size) (o := 1) (v := .int .i64 y) (by simp); have c2 := H.get (b := w.heap.size + 1) (o := 0) (v := .int .i64 x2) (by simp); have c3 := H.get (b := w.heap.size + 1) (o := 1) (v := .int .i64 y2) (by simp); have c4 := H.get (b := w.heap.size + 2) (o := 0) (v := .int .i64 0) (by simp); have c5 := H.get (b := w.heap.size + 2) (o := 1) (v := .int .i64 0) (by simp); have z0 := H.fz (b := w.heap.size + 2) (o := 0) (v := .int .i64 0) (by simp); have z1 := H.fz (b := w.heap.size + 2) (o := 1) (v := .int .i64 0) (by simp)) | (go_at_call 20; refine (hm _).mono ?_; rintro e w' ⟨rfl, hb⟩; replace H := H.call hb; have c0 := H.get (b := w.heap.size) (o := 0) (v := .int .i64 x) (by simp); have c1 := H.get (b := w.heap.size) (o := 1) (v := .int .i64 y) (by simp); have c2 := H.get (b := w.heap.size + 1) (o := 0) (v := .int .i64 x2) (by simp); have c3 := H.get (b := w.heap.size + 1) (o := 1) (v := .int .i64 y2) (by simp); have c4 := H.get (b := w.heap.size + 2) (o := 0) (v := .int .i64 0) (by simp); have c5 := H.get (b := w.heap.size + 2) (o := 1) (v := .int .i64 0) (by simp); have z0 := H.fz (b := w.heap.size + 2) (o := 0) (v := .int .i64 0) (by simp); have z1 := H.fz (b := w.heap.size + 2) (o := 1) (v := .int .i64 0) (by simp)))
    obtain ⟨f0, f1, fb⟩ := H.fill (b := w.heap.size + 2) (x := .int .i64 0) (y := .int .i64 0) (by simp) (by simp) (by omega) (.int .i64 q.1.1) (.int .i64 q.1.2)
    refine bodyPost_ret (results_two_tmp rfl _ _ (w.heap.size + 2) (.int .i64 q.1.1) (.int .i64 q.1.2) _ rfl f0 f1 Try.underlying25 rfl (by kernel_rfl)) rfl ?_
    exact ⟨rfl, fb⟩
theorem iMeet_xy9 (x y x2 y2 : Int) (w : World) :
    Calls Try.prog 9 #[.agg #[.int .i64 x, .int .i64 y], .agg #[.int .i64 x2, .int .i64 y2]] w fun e w' => e = .returned (mv9 (meet9 (x, y) (x2, y2))) ∧ Below w.heap.size w w' := by
  cases h : qOk (x, y)
  · exact iMeet_bad9 x y x2 y2 (.inl h) w
  · cases h2 : qOk (x2, y2)
    · exact iMeet_bad9 x y x2 y2 (.inr h2) w
    · by_cases hz : x = 0
      · subst hz
        exact iMeet_single9 y x2 y2 h h2 w
      · by_cases hz2 : x2 = 0
        · subst hz2
          exact iMeet_right9 x y y2 hz h h2 w
        · exact iMeet_both9 x y x2 y2 hz hz2 h h2 w
end Go.Proofs.Ythbbgkpkijlclaa.num
