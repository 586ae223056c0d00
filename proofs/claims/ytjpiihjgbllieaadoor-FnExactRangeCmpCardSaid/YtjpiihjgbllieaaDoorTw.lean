/-
  The model's RangeCmp of two ranges that are ok and not none: not above.
-/
import Derived.Test.YtjpiihjgbllieaaDoorTt
namespace Go.Proofs.YtjpiihjgbllieaaDoor.num
open Go.ChangeShapes Go.WideShapes Go.ChangeAt Go.RowKit
set_option linter.unusedVariables false

set_option maxRecDepth 100000 in
set_option maxHeartbeats 4000000 in
theorem sCmp_4 (x y x2 y2 : Int) (w : World) (ka : rOk (x, y) = true) (kb : rOk (x2, y2) = true) (n : isN (x, y) = false) (n2 : isN (x2, y2) = false) :
    Calls Tryd.prog 39 #[.int .i64 4, .agg #[.int .i64 x, .int .i64 y], .agg #[.int .i64 x2, .int .i64 y2]] w fun e w' => e = .returned (.tuple #[(.agg #[.int .i64 ((rangeCmp 4 (x, y) (x2, y2)).1).1, .int .i64 ((rangeCmp 4 (x, y) (x2, y2)).1).2]), (.agg #[.int .i64 ((rangeCmp 4 (x, y) (x2, y2)).2).1, .int .i64 ((rangeCmp 4 (x, y) (x2, y2)).2).2])]) ∧ Below w.heap.size w w' := by
  obtain ⟨W, hW, H⟩ := Hd.two2 w (.int .i64 x) (.int .i64 y) (.int .i64 x2) (.int .i64 y2) (.int .i64 0) (.int .i64 0) (.int .i64 0) (.int .i64 0) 46 46 46 46
  have hq := @some_if x y n
  have hq2 := @some_if x2 y2 n2
  obtain ⟨hx1, hx2, hx3⟩ := ok_some ka (by rw [n]; simp)
  obtain ⟨hy1, hy2, hy3⟩ := ok_some kb (by rw [n2]; simp)
  simp only at hx1 hx2 hx3 hy1 hy2 hy3
  have e : rangeCmp 4 (x, y) (x2, y2) = if isN (cut8 x (min y y2)) = true ∨ isN (cut8 (max x2 x) y2) = true then (none8, none8) else ((cut8 x (min y y2)), (cut8 (max x2 x) y2)) := by
    unfold rangeCmp; rw [if_neg (by simp [ka, kb, n, n2])]; rfl
  rw [e]
  clear e
  generalize hp : cut8 x (min y y2) = rp at *
  generalize hq' : cut8 (max x2 x) y2 = rq at *
  cases np : isN rp
  · have hqp := @some_if rp.1 rp.2 np
    cases nq : isN rq
    · have hqq := @some_if rq.1 rq.2 nq
      rw [if_neg (by simp)]
      go_enter Tryd.func39, Tryd.ntmps39
      go_wp2_with fail
      rw [← hW]
      clear hW
      refine (l8None_any _).mono ?_
      rintro e w2 ⟨rfl, hb⟩
      replace H := H.call hb
      have l3 := H.lt (b := w.heap.size + 3) (o := 0) (v := .int .i64 0) (by simp)
      clear hb
      go_wp2_with fail
      refine (l8None_any _).mono ?_
      rintro e w3 ⟨rfl, hb⟩
      replace H := (H.box (.int .i64 1) (.int .i64 0) 46).call hb
      clear hb
      obtain ⟨gx, hgx⟩ : ∃ g, g = w2.heap.size := ⟨_, rfl⟩
      rw [← hgx] at H l3 ⊢
      clear hgx
      have lx := H.lt (b := gx) (o := 0) (v := .int .i64 1) (by simp)
      go_wp2_with fail
      replace H := H.box (.int .i64 1) (.int .i64 0) 46
      generalize w3.alloc (.cells #[.int .i64 1, .int .i64 0] 46) = W4 at H ⊢
      obtain ⟨gy, hgy⟩ : ∃ g, g = w3.heap.size := ⟨_, rfl⟩
      rw [← hgy] at H lx ⊢
      clear hgy
      have hord : w.heap.size + 3 < gx ∧ gx < gy := ⟨l3, lx⟩
      clear l3 lx
      obtain ⟨ho1, ho2⟩ := hord
      have k0 := fun p : Over W4 => H.over (b := w.heap.size) (o := 0) (v := .int .i64 x) (by simp) p
      have k1 := fun p : Over W4 => H.over (b := w.heap.size) (o := 1) (v := .int .i64 y) (by simp) p
      have k2 := fun p : Over W4 => H.over (b := w.heap.size + 1) (o := 0) (v := .int .i64 x2) (by simp) p
      have k3 := fun p : Over W4 => H.over (b := w.heap.size + 1) (o := 1) (v := .int .i64 y2) (by simp) p
      have k4 := fun p : Over W4 => H.over (b := gx) (o := 0) (v := .int .i64 1) (by simp) p
      have k5 := fun p : Over W4 => H.over (b := gx) (o := 1) (v := .int .i64 0) (by simp) p
      have k6 := fun p : Over W4 => H.over (b := gy) (o := 0) (v := .int .i64 1) (by simp) p
      have k7 := fun p : Over W4 => H.over (b := gy) (o := 1) (v := .int .i64 0) (by simp) p
      refine wp_region_over (by kernel_rfl) (by kernel_rfl) ?_
      repeat (go_big_quiet_step (first | (go_at_call 43; rename_i p; refine (RangeOk_xy _ _ _).mono ?_; rintro e' w' ⟨rfl, hb1⟩; exact ⟨by first | rw [ka] | rw [kb], p.next hb1⟩) | (go_at_call 79; rename_i p; refine (l8None_any _).mono ?_; rintro e' w' ⟨rfl, hb1⟩; exact ⟨rfl, p.next hb1⟩)))
      refine wpQuiet_nil ?_
      rintro _ ⟨p, rfl⟩
      replace H := H.call p.below
      clear k0 k1 k2 k3 k4 k5 k6 k7
      obtain ⟨W5, hW5⟩ : ∃ W, W = p.w := ⟨_, rfl⟩
      rw [← hW5] at H ⊢
      clear hW5 p
      have c0 := H.get (b := w.heap.size) (o := 0) (v := .int .i64 x) (by simp)
      have c1 := H.get (b := w.heap.size) (o := 1) (v := .int .i64 y) (by simp)
      have c2 := H.get (b := w.heap.size + 1) (o := 0) (v := .int .i64 x2) (by simp)
      have c3 := H.get (b := w.heap.size + 1) (o := 1) (v := .int .i64 y2) (by simp)
      have c4 := H.get (b := gx) (o := 0) (v := .int .i64 1) (by simp)
      have c5 := H.get (b := gx) (o := 1) (v := .int .i64 0) (by simp)
      have c6 := H.get (b := gy) (o := 0) (v := .int .i64 1) (by simp)
      have c7 := H.get (b := gy) (o := 1) (v := .int .i64 0) (by simp)
      have f4 := H.fz (b := gx) (o := 0) (v := .int .i64 1) (by simp)
      have f5 := H.fz (b := gx) (o := 1) (v := .int .i64 0) (by simp)
      have f6 := H.fz (b := gy) (o := 0) (v := .int .i64 1) (by simp)
      have f7 := H.fz (b := gy) (o := 1) (v := .int .i64 0) (by simp)
      go_wp2_with fail
      have k0 := fun p : Over W5 => H.over (b := w.heap.size) (o := 0) (v := .int .i64 x) (by simp) p
      have k1 := fun p : Over W5 => H.over (b := w.heap.size) (o := 1) (v := .int .i64 y) (by simp) p
      have k2 := fun p : Over W5 => H.over (b := w.heap.size + 1) (o := 0) (v := .int .i64 x2) (by simp) p
      have k3 := fun p : Over W5 => H.over (b := w.heap.size + 1) (o := 1) (v := .int .i64 y2) (by simp) p
      have k4 := fun p : Over W5 => H.over (b := gx) (o := 0) (v := .int .i64 1) (by simp) p
      have k5 := fun p : Over W5 => H.over (b := gx) (o := 1) (v := .int .i64 0) (by simp) p
      have k6 := fun p : Over W5 => H.over (b := gy) (o := 0) (v := .int .i64 1) (by simp) p
      have k7 := fun p : Over W5 => H.over (b := gy) (o := 1) (v := .int .i64 0) (by simp) p
      refine wp_region_tail_over rfl rfl rfl rfl (by kernel_rfl) (by kernel_rfl) (by kernel_rfl) ?_
      simp only [List.dropLast, tv, List.cons_append, List.nil_append]
      repeat (go_big_quiet_step (first | (go_at_call 99; rename_i p; refine (l8Min_any _ _ _).mono ?_; rintro e' w' ⟨rfl, rfl⟩; exact ⟨rfl, p, rfl⟩) | (go_at_call 100; rename_i p; refine (l8Max_any _ _ _).mono ?_; rintro e' w' ⟨rfl, rfl⟩; exact ⟨rfl, p, rfl⟩) | (go_at_call 85; rename_i p; refine (l8Cut_any _ _ _).mono ?_; rintro e' w' ⟨rfl, hb1⟩; exact ⟨by first | rw [hp] | rw [hq'], p.next hb1⟩)))
      refine wpQuiet_nil ?_
      rintro _ ⟨p, rfl⟩
      replace H := H.call p.below
      clear k0 k1 k2 k3 k4 k5 k6 k7
      obtain ⟨Wa, hWa⟩ : ∃ W, W = p.w := ⟨_, rfl⟩
      rw [← hWa] at H ⊢
      clear hWa p
      have c0 := H.get (b := w.heap.size) (o := 0) (v := .int .i64 x) (by simp)
      have c1 := H.get (b := w.heap.size) (o := 1) (v := .int .i64 y) (by simp)
      have c2 := H.get (b := w.heap.size + 1) (o := 0) (v := .int .i64 x2) (by simp)
      have c3 := H.get (b := w.heap.size + 1) (o := 1) (v := .int .i64 y2) (by simp)
      have c4 := H.get (b := gx) (o := 0) (v := .int .i64 1) (by simp)
      have c5 := H.get (b := gx) (o := 1) (v := .int .i64 0) (by simp)
      have c6 := H.get (b := gy) (o := 0) (v := .int .i64 1) (by simp)
      have c7 := H.get (b := gy) (o := 1) (v := .int .i64 0) (by simp)
      have f4 := H.fz (b := gx) (o := 0) (v := .int .i64 1) (by simp)
      have f5 := H.fz (b := gx) (o := 1) (v := .int .i64 0) (by simp)
      have f6 := H.fz (b := gy) (o := 0) (v := .int .i64 1) (by simp)
      have f7 := H.fz (b := gy) (o := 1) (v := .int .i64 0) (by simp)
      go_wp2_with fail
      have H5 := ((Hd.weak H (L' := [(gx, 0, .int .i64 1), (gx, 1, .int .i64 0), (gy, 0, .int .i64 1), (gy, 1, .int .i64 0), (w.heap.size + 3, 0, .int .i64 0), (w.heap.size + 3, 1, .int .i64 0), (w.heap.size + 2, 0, .int .i64 0), (w.heap.size + 2, 1, .int .i64 0), (w.heap.size + 1, 0, .int .i64 x2), (w.heap.size + 1, 1, .int .i64 y2), (w.heap.size, 0, .int .i64 x), (w.heap.size, 1, .int .i64 y)]) (by simp)).set2 (by omega) (by simp; omega) (.int .i64 rp.1) (.int .i64 rp.2))
      clear H
      refine gen_world (Q := Code.wp _ _ _ _) H5 ?_
      clear H5
      intro W8 H
      have k0 := fun p : Over W8 => H.over (b := w.heap.size) (o := 0) (v := .int .i64 x) (by simp) p
      have k1 := fun p : Over W8 => H.over (b := w.heap.size) (o := 1) (v := .int .i64 y) (by simp) p
      have k2 := fun p : Over W8 => H.over (b := w.heap.size + 1) (o := 0) (v := .int .i64 x2) (by simp) p
      have k3 := fun p : Over W8 => H.over (b := w.heap.size + 1) (o := 1) (v := .int .i64 y2) (by simp) p
      have k4 := fun p : Over W8 => H.over (b := gx) (o := 0) (v := .int .i64 rp.1) (by simp) p
      have k5 := fun p : Over W8 => H.over (b := gx) (o := 1) (v := .int .i64 rp.2) (by simp) p
      have k6 := fun p : Over W8 => H.over (b := gy) (o := 0) (v := .int .i64 1) (by simp) p
      have k7 := fun p : Over W8 => H.over (b := gy) (o := 1) (v := .int .i64 0) (by simp) p
      refine wp_region_tail_over rfl rfl rfl rfl (by kernel_rfl) (by kernel_rfl) (by kernel_rfl) ?_
      simp only [List.dropLast, tv, List.cons_append, List.nil_append]
      repeat (go_big_quiet_step (first | (go_at_call 99; rename_i p; refine (l8Min_any _ _ _).mono ?_; rintro e' w' ⟨rfl, rfl⟩; exact ⟨rfl, p, rfl⟩) | (go_at_call 100; rename_i p; refine (l8Max_any _ _ _).mono ?_; rintro e' w' ⟨rfl, rfl⟩; exact ⟨rfl, p, rfl⟩) | (go_at_call 85; rename_i p; refine (l8Cut_any _ _ _).mono ?_; rintro e' w' ⟨rfl, hb1⟩; exact ⟨by first | rw [hp] | rw [hq'], p.next hb1⟩)))
      refine wpQuiet_nil ?_
      rintro _ ⟨p, rfl⟩
      replace H := H.call p.below
      clear k0 k1 k2 k3 k4 k5 k6 k7
      obtain ⟨Wb, hWb⟩ : ∃ W, W = p.w := ⟨_, rfl⟩
      rw [← hWb] at H ⊢
      clear hWb p
      have c0 := H.get (b := w.heap.size) (o := 0) (v := .int .i64 x) (by simp)
      have c1 := H.get (b := w.heap.size) (o := 1) (v := .int .i64 y) (by simp)
      have c2 := H.get (b := w.heap.size + 1) (o := 0) (v := .int .i64 x2) (by simp)
      have c3 := H.get (b := w.heap.size + 1) (o := 1) (v := .int .i64 y2) (by simp)
      have c4 := H.get (b := gx) (o := 0) (v := .int .i64 rp.1) (by simp)
      have c5 := H.get (b := gx) (o := 1) (v := .int .i64 rp.2) (by simp)
      have c6 := H.get (b := gy) (o := 0) (v := .int .i64 1) (by simp)
      have c7 := H.get (b := gy) (o := 1) (v := .int .i64 0) (by simp)
      have f4 := H.fz (b := gx) (o := 0) (v := .int .i64 rp.1) (by simp)
      have f5 := H.fz (b := gx) (o := 1) (v := .int .i64 rp.2) (by simp)
      have f6 := H.fz (b := gy) (o := 0) (v := .int .i64 1) (by simp)
      have f7 := H.fz (b := gy) (o := 1) (v := .int .i64 0) (by simp)
      go_wp2_with fail
      have H6 := ((Hd.weak H (L' := [(gy, 0, .int .i64 1), (gy, 1, .int .i64 0), (gx, 0, .int .i64 rp.1), (gx, 1, .int .i64 rp.2), (w.heap.size + 3, 0, .int .i64 0), (w.heap.size + 3, 1, .int .i64 0), (w.heap.size + 2, 0, .int .i64 0), (w.heap.size + 2, 1, .int .i64 0), (w.heap.size + 1, 0, .int .i64 x2), (w.heap.size + 1, 1, .int .i64 y2), (w.heap.size, 0, .int .i64 x), (w.heap.size, 1, .int .i64 y)]) (by simp)).set2 (by omega) (by simp; omega) (.int .i64 rq.1) (.int .i64 rq.2))
      refine gen_world (Q := Code.wp _ _ _ _) H6 ?_
      clear H6 H
      intro W6 H
      have k0 := fun p : Over W6 => H.over (b := w.heap.size) (o := 0) (v := .int .i64 x) (by simp) p
      have k1 := fun p : Over W6 => H.over (b := w.heap.size) (o := 1) (v := .int .i64 y) (by simp) p
      have k2 := fun p : Over W6 => H.over (b := w.heap.size + 1) (o := 0) (v := .int .i64 x2) (by simp) p
      have k3 := fun p : Over W6 => H.over (b := w.heap.size + 1) (o := 1) (v := .int .i64 y2) (by simp) p
      have k4 := fun p : Over W6 => H.over (b := gx) (o := 0) (v := .int .i64 rp.1) (by simp) p
      have k5 := fun p : Over W6 => H.over (b := gx) (o := 1) (v := .int .i64 rp.2) (by simp) p
      have k6 := fun p : Over W6 => H.over (b := gy) (o := 0) (v := .int .i64 rq.1) (by simp) p
      have k7 := fun p : Over W6 => H.over (b := gy) (o := 1) (v := .int .i64 rq.2) (by simp) p
      refine wp_region_over (by kernel_rfl) (by kernel_rfl) ?_
      repeat (go_big_quiet_step (first | (go_at_call 79; rename_i p; refine (l8None_any _).mono ?_; rintro e' w' ⟨rfl, hb1⟩; exact ⟨rfl, p.next hb1⟩)))
      refine wpQuiet_nil ?_
      rintro _ ⟨p, rfl⟩
      replace H := H.call p.below
      clear k0 k1 k2 k3 k4 k5 k6 k7
      obtain ⟨W7, hW7⟩ : ∃ W, W = p.w := ⟨_, rfl⟩
      rw [← hW7] at H ⊢
      clear hW7 p
      have c0 := H.get (b := w.heap.size) (o := 0) (v := .int .i64 x) (by simp)
      have c1 := H.get (b := w.heap.size) (o := 1) (v := .int .i64 y) (by simp)
      have c2 := H.get (b := w.heap.size + 1) (o := 0) (v := .int .i64 x2) (by simp)
      have c3 := H.get (b := w.heap.size + 1) (o := 1) (v := .int .i64 y2) (by simp)
      have c4 := H.get (b := gx) (o := 0) (v := .int .i64 rp.1) (by simp)
      have c5 := H.get (b := gx) (o := 1) (v := .int .i64 rp.2) (by simp)
      have c6 := H.get (b := gy) (o := 0) (v := .int .i64 rq.1) (by simp)
      have c7 := H.get (b := gy) (o := 1) (v := .int .i64 rq.2) (by simp)
      have r20 := H.get (b := w.heap.size + 2) (o := 0) (v := .int .i64 0) (by simp)
      have z20 := H.fz (b := w.heap.size + 2) (o := 0) (v := .int .i64 0) (by simp)
      have r21 := H.get (b := w.heap.size + 2) (o := 1) (v := .int .i64 0) (by simp)
      have z21 := H.fz (b := w.heap.size + 2) (o := 1) (v := .int .i64 0) (by simp)
      have r30 := H.get (b := w.heap.size + 3) (o := 0) (v := .int .i64 0) (by simp)
      have z30 := H.fz (b := w.heap.size + 3) (o := 0) (v := .int .i64 0) (by simp)
      have r31 := H.get (b := w.heap.size + 3) (o := 1) (v := .int .i64 0) (by simp)
      have z31 := H.fz (b := w.heap.size + 3) (o := 1) (v := .int .i64 0) (by simp)
      go_wp2_with fail
      go_region
      all_goals go_wp2_with fail
      all_goals refine bodyPost_ret (results_two_two rfl _ _ (w.heap.size + 2) (w.heap.size + 3) (.int .i64 rp.1) (.int .i64 rp.2) (.int .i64 rq.1) (.int .i64 rq.2) _ rfl rfl (by simp [go_sem, *]) (by simp [go_sem, *]) (by simp [go_sem, *]) (by simp [go_sem, *]) Tryd.underlying46 rfl (by kernel_rfl)) rfl ?_
      all_goals
        have hb2 : w.heap.size ≤ w.heap.size + 2 := Nat.le_add_right _ _
        have hb3 : w.heap.size ≤ w.heap.size + 3 := Nat.le_add_right _ _
        exact ⟨rfl, by first | exact ((((H.below.setCell hb2 _).setCell hb2 _).setCell hb3 _).setCell hb3 _).drew | exact (((H.below.setCell hb2 _).setCell hb2 _).setCell hb3 _).setCell hb3 _⟩
    · obtain ⟨eq1, eq2⟩ := (isN_iff rq).1 nq
      rw [if_pos (by simp)]
      go_enter Tryd.func39, Tryd.ntmps39
      go_wp2_with fail
      rw [← hW]
      clear hW
      refine (l8None_any _).mono ?_
      rintro e w2 ⟨rfl, hb⟩
      replace H := H.call hb
      have l3 := H.lt (b := w.heap.size + 3) (o := 0) (v := .int .i64 0) (by simp)
      clear hb
      go_wp2_with fail
      refine (l8None_any _).mono ?_
      rintro e w3 ⟨rfl, hb⟩
      replace H := (H.box (.int .i64 1) (.int .i64 0) 46).call hb
      clear hb
      obtain ⟨gx, hgx⟩ : ∃ g, g = w2.heap.size := ⟨_, rfl⟩
      rw [← hgx] at H l3 ⊢
      clear hgx
      have lx := H.lt (b := gx) (o := 0) (v := .int .i64 1) (by simp)
      go_wp2_with fail
      replace H := H.box (.int .i64 1) (.int .i64 0) 46
      generalize w3.alloc (.cells #[.int .i64 1, .int .i64 0] 46) = W4 at H ⊢
      obtain ⟨gy, hgy⟩ : ∃ g, g = w3.heap.size := ⟨_, rfl⟩
      rw [← hgy] at H lx ⊢
      clear hgy
      have hord : w.heap.size + 3 < gx ∧ gx < gy := ⟨l3, lx⟩
      clear l3 lx
      obtain ⟨ho1, ho2⟩ := hord
      have k0 := fun p : Over W4 => H.over (b := w.heap.size) (o := 0) (v := .int .i64 x) (by simp) p
      have k1 := fun p : Over W4 => H.over (b := w.heap.size) (o := 1) (v := .int .i64 y) (by simp) p
      have k2 := fun p : Over W4 => H.over (b := w.heap.size + 1) (o := 0) (v := .int .i64 x2) (by simp) p
      have k3 := fun p : Over W4 => H.over (b := w.heap.size + 1) (o := 1) (v := .int .i64 y2) (by simp) p
      have k4 := fun p : Over W4 => H.over (b := gx) (o := 0) (v := .int .i64 1) (by simp) p
      have k5 := fun p : Over W4 => H.over (b := gx) (o := 1) (v := .int .i64 0) (by simp) p
      have k6 := fun p : Over W4 => H.over (b := gy) (o := 0) (v := .int .i64 1) (by simp) p
      have k7 := fun p : Over W4 => H.over (b := gy) (o := 1) (v := .int .i64 0) (by simp) p
      refine wp_region_over (by kernel_rfl) (by kernel_rfl) ?_
      repeat (go_big_quiet_step (first | (go_at_call 43; rename_i p; refine (RangeOk_xy _ _ _).mono ?_; rintro e' w' ⟨rfl, hb1⟩; exact ⟨by first | rw [ka] | rw [kb], p.next hb1⟩) | (go_at_call 79; rename_i p; refine (l8None_any _).mono ?_; rintro e' w' ⟨rfl, hb1⟩; exact ⟨rfl, p.next hb1⟩)))
      refine wpQuiet_nil ?_
      rintro _ ⟨p, rfl⟩
      replace H := H.call p.below
      clear k0 k1 k2 k3 k4 k5 k6 k7
      obtain ⟨W5, hW5⟩ : ∃ W, W = p.w := ⟨_, rfl⟩
      rw [← hW5] at H ⊢
      clear hW5 p
      have c0 := H.get (b := w.heap.size) (o := 0) (v := .int .i64 x) (by simp)
      have c1 := H.get (b := w.heap.size) (o := 1) (v := .int .i64 y) (by simp)
      have c2 := H.get (b := w.heap.size + 1) (o := 0) (v := .int .i64 x2) (by simp)
      have c3 := H.get (b := w.heap.size + 1) (o := 1) (v := .int .i64 y2) (by simp)
      have c4 := H.get (b := gx) (o := 0) (v := .int .i64 1) (by simp)
      have c5 := H.get (b := gx) (o := 1) (v := .int .i64 0) (by simp)
      have c6 := H.get (b := gy) (o := 0) (v := .int .i64 1) (by simp)
      have c7 := H.get (b := gy) (o := 1) (v := .int .i64 0) (by simp)
      have f4 := H.fz (b := gx) (o := 0) (v := .int .i64 1) (by simp)
      have f5 := H.fz (b := gx) (o := 1) (v := .int .i64 0) (by simp)
      have f6 := H.fz (b := gy) (o := 0) (v := .int .i64 1) (by simp)
      have f7 := H.fz (b := gy) (o := 1) (v := .int .i64 0) (by simp)
      go_wp2_with fail
      have k0 := fun p : Over W5 => H.over (b := w.heap.size) (o := 0) (v := .int .i64 x) (by simp) p
      have k1 := fun p : Over W5 => H.over (b := w.heap.size) (o := 1) (v := .int .i64 y) (by simp) p
      have k2 := fun p : Over W5 => H.over (b := w.heap.size + 1) (o := 0) (v := .int .i64 x2) (by simp) p
      have k3 := fun p : Over W5 => H.over (b := w.heap.size + 1) (o := 1) (v := .int .i64 y2) (by simp) p
      have k4 := fun p : Over W5 => H.over (b := gx) (o := 0) (v := .int .i64 1) (by simp) p
      have k5 := fun p : Over W5 => H.over (b := gx) (o := 1) (v := .int .i64 0) (by simp) p
      have k6 := fun p : Over W5 => H.over (b := gy) (o := 0) (v := .int .i64 1) (by simp) p
      have k7 := fun p : Over W5 => H.over (b := gy) (o := 1) (v := .int .i64 0) (by simp) p
      refine wp_region_tail_over rfl rfl rfl rfl (by kernel_rfl) (by kernel_rfl) (by kernel_rfl) ?_
      simp only [List.dropLast, tv, List.cons_append, List.nil_append]
      repeat (go_big_quiet_step (first | (go_at_call 99; rename_i p; refine (l8Min_any _ _ _).mono ?_; rintro e' w' ⟨rfl, rfl⟩; exact ⟨rfl, p, rfl⟩) | (go_at_call 100; rename_i p; refine (l8Max_any _ _ _).mono ?_; rintro e' w' ⟨rfl, rfl⟩; exact ⟨rfl, p, rfl⟩) | (go_at_call 85; rename_i p; refine (l8Cut_any _ _ _).mono ?_; rintro e' w' ⟨rfl, hb1⟩; exact ⟨by first | rw [hp] | rw [hq'], p.next hb1⟩)))
      refine wpQuiet_nil ?_
      rintro _ ⟨p, rfl⟩
      replace H := H.call p.below
      clear k0 k1 k2 k3 k4 k5 k6 k7
      obtain ⟨Wa, hWa⟩ : ∃ W, W = p.w := ⟨_, rfl⟩
      rw [← hWa] at H ⊢
      clear hWa p
      have c0 := H.get (b := w.heap.size) (o := 0) (v := .int .i64 x) (by simp)
      have c1 := H.get (b := w.heap.size) (o := 1) (v := .int .i64 y) (by simp)
      have c2 := H.get (b := w.heap.size + 1) (o := 0) (v := .int .i64 x2) (by simp)
      have c3 := H.get (b := w.heap.size + 1) (o := 1) (v := .int .i64 y2) (by simp)
      have c4 := H.get (b := gx) (o := 0) (v := .int .i64 1) (by simp)
      have c5 := H.get (b := gx) (o := 1) (v := .int .i64 0) (by simp)
      have c6 := H.get (b := gy) (o := 0) (v := .int .i64 1) (by simp)
      have c7 := H.get (b := gy) (o := 1) (v := .int .i64 0) (by simp)
      have f4 := H.fz (b := gx) (o := 0) (v := .int .i64 1) (by simp)
      have f5 := H.fz (b := gx) (o := 1) (v := .int .i64 0) (by simp)
      have f6 := H.fz (b := gy) (o := 0) (v := .int .i64 1) (by simp)
      have f7 := H.fz (b := gy) (o := 1) (v := .int .i64 0) (by simp)
      go_wp2_with fail
      have H5 := ((Hd.weak H (L' := [(gx, 0, .int .i64 1), (gx, 1, .int .i64 0), (gy, 0, .int .i64 1), (gy, 1, .int .i64 0), (w.heap.size + 3, 0, .int .i64 0), (w.heap.size + 3, 1, .int .i64 0), (w.heap.size + 2, 0, .int .i64 0), (w.heap.size + 2, 1, .int .i64 0), (w.heap.size + 1, 0, .int .i64 x2), (w.heap.size + 1, 1, .int .i64 y2), (w.heap.size, 0, .int .i64 x), (w.heap.size, 1, .int .i64 y)]) (by simp)).set2 (by omega) (by simp; omega) (.int .i64 rp.1) (.int .i64 rp.2))
      clear H
      refine gen_world (Q := Code.wp _ _ _ _) H5 ?_
      clear H5
      intro W8 H
      have k0 := fun p : Over W8 => H.over (b := w.heap.size) (o := 0) (v := .int .i64 x) (by simp) p
      have k1 := fun p : Over W8 => H.over (b := w.heap.size) (o := 1) (v := .int .i64 y) (by simp) p
      have k2 := fun p : Over W8 => H.over (b := w.heap.size + 1) (o := 0) (v := .int .i64 x2) (by simp) p
      have k3 := fun p : Over W8 => H.over (b := w.heap.size + 1) (o := 1) (v := .int .i64 y2) (by simp) p
      have k4 := fun p : Over W8 => H.over (b := gx) (o := 0) (v := .int .i64 rp.1) (by simp) p
      have k5 := fun p : Over W8 => H.over (b := gx) (o := 1) (v := .int .i64 rp.2) (by simp) p
      have k6 := fun p : Over W8 => H.over (b := gy) (o := 0) (v := .int .i64 1) (by simp) p
      have k7 := fun p : Over W8 => H.over (b := gy) (o := 1) (v := .int .i64 0) (by simp) p
      refine wp_region_tail_over rfl rfl rfl rfl (by kernel_rfl) (by kernel_rfl) (by kernel_rfl) ?_
      simp only [List.dropLast, tv, List.cons_append, List.nil_append]
      repeat (go_big_quiet_step (first | (go_at_call 99; rename_i p; refine (l8Min_any _ _ _).mono ?_; rintro e' w' ⟨rfl, rfl⟩; exact ⟨rfl, p, rfl⟩) | (go_at_call 100; rename_i p; refine (l8Max_any _ _ _).mono ?_; rintro e' w' ⟨rfl, rfl⟩; exact ⟨rfl, p, rfl⟩) | (go_at_call 85; rename_i p; refine (l8Cut_any _ _ _).mono ?_; rintro e' w' ⟨rfl, hb1⟩; exact ⟨by first | rw [hp] | rw [hq'], p.next hb1⟩)))
      refine wpQuiet_nil ?_
      rintro _ ⟨p, rfl⟩
      replace H := H.call p.below
      clear k0 k1 k2 k3 k4 k5 k6 k7
      obtain ⟨Wb, hWb⟩ : ∃ W, W = p.w := ⟨_, rfl⟩
      rw [← hWb] at H ⊢
      clear hWb p
      have c0 := H.get (b := w.heap.size) (o := 0) (v := .int .i64 x) (by simp)
      have c1 := H.get (b := w.heap.size) (o := 1) (v := .int .i64 y) (by simp)
      have c2 := H.get (b := w.heap.size + 1) (o := 0) (v := .int .i64 x2) (by simp)
      have c3 := H.get (b := w.heap.size + 1) (o := 1) (v := .int .i64 y2) (by simp)
      have c4 := H.get (b := gx) (o := 0) (v := .int .i64 rp.1) (by simp)
      have c5 := H.get (b := gx) (o := 1) (v := .int .i64 rp.2) (by simp)
      have c6 := H.get (b := gy) (o := 0) (v := .int .i64 1) (by simp)
      have c7 := H.get (b := gy) (o := 1) (v := .int .i64 0) (by simp)
      have f4 := H.fz (b := gx) (o := 0) (v := .int .i64 rp.1) (by simp)
      have f5 := H.fz (b := gx) (o := 1) (v := .int .i64 rp.2) (by simp)
      have f6 := H.fz (b := gy) (o := 0) (v := .int .i64 1) (by simp)
      have f7 := H.fz (b := gy) (o := 1) (v := .int .i64 0) (by simp)
      go_wp2_with fail
      have H6 := ((Hd.weak H (L' := [(gy, 0, .int .i64 1), (gy, 1, .int .i64 0), (gx, 0, .int .i64 rp.1), (gx, 1, .int .i64 rp.2), (w.heap.size + 3, 0, .int .i64 0), (w.heap.size + 3, 1, .int .i64 0), (w.heap.size + 2, 0, .int .i64 0), (w.heap.size + 2, 1, .int .i64 0), (w.heap.size + 1, 0, .int .i64 x2), (w.heap.size + 1, 1, .int .i64 y2), (w.heap.size, 0, .int .i64 x), (w.heap.size, 1, .int .i64 y)]) (by simp)).set2 (by omega) (by simp; omega) (.int .i64 1) (.int .i64 0))
      refine gen_world (Q := Code.wp _ _ _ _) H6 ?_
      clear H6 H
      intro W6 H
      have k0 := fun p : Over W6 => H.over (b := w.heap.size) (o := 0) (v := .int .i64 x) (by simp) p
      have k1 := fun p : Over W6 => H.over (b := w.heap.size) (o := 1) (v := .int .i64 y) (by simp) p
      have k2 := fun p : Over W6 => H.over (b := w.heap.size + 1) (o := 0) (v := .int .i64 x2) (by simp) p
      have k3 := fun p : Over W6 => H.over (b := w.heap.size + 1) (o := 1) (v := .int .i64 y2) (by simp) p
      have k4 := fun p : Over W6 => H.over (b := gx) (o := 0) (v := .int .i64 rp.1) (by simp) p
      have k5 := fun p : Over W6 => H.over (b := gx) (o := 1) (v := .int .i64 rp.2) (by simp) p
      have k6 := fun p : Over W6 => H.over (b := gy) (o := 0) (v := .int .i64 1) (by simp) p
      have k7 := fun p : Over W6 => H.over (b := gy) (o := 1) (v := .int .i64 0) (by simp) p
      refine wp_region_over (by kernel_rfl) (by kernel_rfl) ?_
      repeat (go_big_quiet_step (first | (go_at_call 79; rename_i p; refine (l8None_any _).mono ?_; rintro e' w' ⟨rfl, hb1⟩; exact ⟨rfl, p.next hb1⟩)))
      refine wpQuiet_nil ?_
      rintro _ ⟨p, rfl⟩
      replace H := H.call p.below
      clear k0 k1 k2 k3 k4 k5 k6 k7
      obtain ⟨W7, hW7⟩ : ∃ W, W = p.w := ⟨_, rfl⟩
      rw [← hW7] at H ⊢
      clear hW7 p
      have r20 := H.get (b := w.heap.size + 2) (o := 0) (v := .int .i64 0) (by simp)
      have z20 := H.fz (b := w.heap.size + 2) (o := 0) (v := .int .i64 0) (by simp)
      have r21 := H.get (b := w.heap.size + 2) (o := 1) (v := .int .i64 0) (by simp)
      have z21 := H.fz (b := w.heap.size + 2) (o := 1) (v := .int .i64 0) (by simp)
      have r30 := H.get (b := w.heap.size + 3) (o := 0) (v := .int .i64 0) (by simp)
      have z30 := H.fz (b := w.heap.size + 3) (o := 0) (v := .int .i64 0) (by simp)
      have r31 := H.get (b := w.heap.size + 3) (o := 1) (v := .int .i64 0) (by simp)
      have z31 := H.fz (b := w.heap.size + 3) (o := 1) (v := .int .i64 0) (by simp)
      go_wp2_with (go_at_call 79; refine (l8None_any _).mono ?_; rintro e w9 ⟨rfl, hb⟩; (first | (replace H := H.call hb) | (replace H := (H.call (Below.refl _ _).drew).call hb)); clear hb; have r20 := H.get (b := w.heap.size + 2) (o := 0) (v := .int .i64 0) (by simp); have z20 := H.fz (b := w.heap.size + 2) (o := 0) (v := .int .i64 0) (by simp); have r21 := H.get (b := w.heap.size + 2) (o := 1) (v := .int .i64 0) (by simp); have z21 := H.fz (b := w.heap.size + 2) (o := 1) (v := .int .i64 0) (by simp); have r30 := H.get (b := w.heap.size + 3) (o := 0) (v := .int .i64 0) (by simp); have z30 := H.fz (b := w.heap.size + 3) (o := 0) (v := .int .i64 0) (by simp); have r31 := H.get (b := w.heap.size + 3) (o := 1) (v := .int .i64 0) (by simp); have z31 := H.fz (b := w.heap.size + 3) (o := 1) (v := .int .i64 0) (by simp))
      all_goals refine bodyPost_ret (results_two_two rfl _ _ (w.heap.size + 2) (w.heap.size + 3) (.int .i64 1) (.int .i64 0) (.int .i64 1) (.int .i64 0) _ rfl rfl (by simp [go_sem, *]) (by simp [go_sem, *]) (by simp [go_sem, *]) (by simp [go_sem, *]) Tryd.underlying46 rfl (by kernel_rfl)) rfl ?_
      all_goals
        have hb2 : w.heap.size ≤ w.heap.size + 2 := Nat.le_add_right _ _
        have hb3 : w.heap.size ≤ w.heap.size + 3 := Nat.le_add_right _ _
        exact ⟨rfl, by first | exact ((((H.below.setCell hb2 _).setCell hb2 _).setCell hb3 _).setCell hb3 _).drew | exact (((H.below.setCell hb2 _).setCell hb2 _).setCell hb3 _).setCell hb3 _⟩
  · obtain ⟨ep1, ep2⟩ := (isN_iff rp).1 np
    rw [if_pos (by simp)]
    go_enter Tryd.func39, Tryd.ntmps39
    go_wp2_with fail
    rw [← hW]
    clear hW
    refine (l8None_any _).mono ?_
    rintro e w2 ⟨rfl, hb⟩
    replace H := H.call hb
    have l3 := H.lt (b := w.heap.size + 3) (o := 0) (v := .int .i64 0) (by simp)
    clear hb
    go_wp2_with fail
    refine (l8None_any _).mono ?_
    rintro e w3 ⟨rfl, hb⟩
    replace H := (H.box (.int .i64 1) (.int .i64 0) 46).call hb
    clear hb
    obtain ⟨gx, hgx⟩ : ∃ g, g = w2.heap.size := ⟨_, rfl⟩
    rw [← hgx] at H l3 ⊢
    clear hgx
    have lx := H.lt (b := gx) (o := 0) (v := .int .i64 1) (by simp)
    go_wp2_with fail
    replace H := H.box (.int .i64 1) (.int .i64 0) 46
    generalize w3.alloc (.cells #[.int .i64 1, .int .i64 0] 46) = W4 at H ⊢
    obtain ⟨gy, hgy⟩ : ∃ g, g = w3.heap.size := ⟨_, rfl⟩
    rw [← hgy] at H lx ⊢
    clear hgy
    have hord : w.heap.size + 3 < gx ∧ gx < gy := ⟨l3, lx⟩
    clear l3 lx
    obtain ⟨ho1, ho2⟩ := hord
    have k0 := fun p : Over W4 => H.over (b := w.heap.size) (o := 0) (v := .int .i64 x) (by simp) p
    have k1 := fun p : Over W4 => H.over (b := w.heap.size) (o := 1) (v := .int .i64 y) (by simp) p
    have k2 := fun p : Over W4 => H.over (b := w.heap.size + 1) (o := 0) (v := .int .i64 x2) (by simp) p
    have k3 := fun p : Over W4 => H.over (b := w.heap.size + 1) (o := 1) (v := .int .i64 y2) (by simp) p
    have k4 := fun p : Over W4 => H.over (b := gx) (o := 0) (v := .int .i64 1) (by simp) p
    have k5 := fun p : Over W4 => H.over (b := gx) (o := 1) (v := .int .i64 0) (by simp) p
    have k6 := fun p : Over W4 => H.over (b := gy) (o := 0) (v := .int .i64 1) (by simp) p
    have k7 := fun p : Over W4 => H.over (b := gy) (o := 1) (v := .int .i64 0) (by simp) p
    refine wp_region_over (by kernel_rfl) (by kernel_rfl) ?_
    repeat (go_big_quiet_step (first | (go_at_call 43; rename_i p; refine (RangeOk_xy _ _ _).mono ?_; rintro e' w' ⟨rfl, hb1⟩; exact ⟨by first | rw [ka] | rw [kb], p.next hb1⟩) | (go_at_call 79; rename_i p; refine (l8None_any _).mono ?_; rintro e' w' ⟨rfl, hb1⟩; exact ⟨rfl, p.next hb1⟩)))
    refine wpQuiet_nil ?_
    rintro _ ⟨p, rfl⟩
    replace H := H.call p.below
    clear k0 k1 k2 k3 k4 k5 k6 k7
    obtain ⟨W5, hW5⟩ : ∃ W, W = p.w := ⟨_, rfl⟩
    rw [← hW5] at H ⊢
    clear hW5 p
    have c0 := H.get (b := w.heap.size) (o := 0) (v := .int .i64 x) (by simp)
    have c1 := H.get (b := w.heap.size) (o := 1) (v := .int .i64 y) (by simp)
    have c2 := H.get (b := w.heap.size + 1) (o := 0) (v := .int .i64 x2) (by simp)
    have c3 := H.get (b := w.heap.size + 1) (o := 1) (v := .int .i64 y2) (by simp)
    have c4 := H.get (b := gx) (o := 0) (v := .int .i64 1) (by simp)
    have c5 := H.get (b := gx) (o := 1) (v := .int .i64 0) (by simp)
    have c6 := H.get (b := gy) (o := 0) (v := .int .i64 1) (by simp)
    have c7 := H.get (b := gy) (o := 1) (v := .int .i64 0) (by simp)
    have f4 := H.fz (b := gx) (o := 0) (v := .int .i64 1) (by simp)
    have f5 := H.fz (b := gx) (o := 1) (v := .int .i64 0) (by simp)
    have f6 := H.fz (b := gy) (o := 0) (v := .int .i64 1) (by simp)
    have f7 := H.fz (b := gy) (o := 1) (v := .int .i64 0) (by simp)
    go_wp2_with fail
    have k0 := fun p : Over W5 => H.over (b := w.heap.size) (o := 0) (v := .int .i64 x) (by simp) p
    have k1 := fun p : Over W5 => H.over (b := w.heap.size) (o := 1) (v := .int .i64 y) (by simp) p
    have k2 := fun p : Over W5 => H.over (b := w.heap.size + 1) (o := 0) (v := .int .i64 x2) (by simp) p
    have k3 := fun p : Over W5 => H.over (b := w.heap.size + 1) (o := 1) (v := .int .i64 y2) (by simp) p
    have k4 := fun p : Over W5 => H.over (b := gx) (o := 0) (v := .int .i64 1) (by simp) p
    have k5 := fun p : Over W5 => H.over (b := gx) (o := 1) (v := .int .i64 0) (by simp) p
    have k6 := fun p : Over W5 => H.over (b := gy) (o := 0) (v := .int .i64 1) (by simp) p
    have k7 := fun p : Over W5 => H.over (b := gy) (o := 1) (v := .int .i64 0) (by simp) p
    refine wp_region_tail_over rfl rfl rfl rfl (by kernel_rfl) (by kernel_rfl) (by kernel_rfl) ?_
    simp only [List.dropLast, tv, List.cons_append, List.nil_append]
    repeat (go_big_quiet_step (first | (go_at_call 99; rename_i p; refine (l8Min_any _ _ _).mono ?_; rintro e' w' ⟨rfl, rfl⟩; exact ⟨rfl, p, rfl⟩) | (go_at_call 100; rename_i p; refine (l8Max_any _ _ _).mono ?_; rintro e' w' ⟨rfl, rfl⟩; exact ⟨rfl, p, rfl⟩) | (go_at_call 85; rename_i p; refine (l8Cut_any _ _ _).mono ?_; rintro e' w' ⟨rfl, hb1⟩; exact ⟨by first | rw [hp] | rw [hq'], p.next hb1⟩)))
    refine wpQuiet_nil ?_
    rintro _ ⟨p, rfl⟩
    replace H := H.call p.below
    clear k0 k1 k2 k3 k4 k5 k6 k7
    obtain ⟨Wa, hWa⟩ : ∃ W, W = p.w := ⟨_, rfl⟩
    rw [← hWa] at H ⊢
    clear hWa p
    have c0 := H.get (b := w.heap.size) (o := 0) (v := .int .i64 x) (by simp)
    have c1 := H.get (b := w.heap.size) (o := 1) (v := .int .i64 y) (by simp)
    have c2 := H.get (b := w.heap.size + 1) (o := 0) (v := .int .i64 x2) (by simp)
    have c3 := H.get (b := w.heap.size + 1) (o := 1) (v := .int .i64 y2) (by simp)
    have c4 := H.get (b := gx) (o := 0) (v := .int .i64 1) (by simp)
    have c5 := H.get (b := gx) (o := 1) (v := .int .i64 0) (by simp)
    have c6 := H.get (b := gy) (o := 0) (v := .int .i64 1) (by simp)
    have c7 := H.get (b := gy) (o := 1) (v := .int .i64 0) (by simp)
    have f4 := H.fz (b := gx) (o := 0) (v := .int .i64 1) (by simp)
    have f5 := H.fz (b := gx) (o := 1) (v := .int .i64 0) (by simp)
    have f6 := H.fz (b := gy) (o := 0) (v := .int .i64 1) (by simp)
    have f7 := H.fz (b := gy) (o := 1) (v := .int .i64 0) (by simp)
    go_wp2_with fail
    have H5 := ((Hd.weak H (L' := [(gx, 0, .int .i64 1), (gx, 1, .int .i64 0), (gy, 0, .int .i64 1), (gy, 1, .int .i64 0), (w.heap.size + 3, 0, .int .i64 0), (w.heap.size + 3, 1, .int .i64 0), (w.heap.size + 2, 0, .int .i64 0), (w.heap.size + 2, 1, .int .i64 0), (w.heap.size + 1, 0, .int .i64 x2), (w.heap.size + 1, 1, .int .i64 y2), (w.heap.size, 0, .int .i64 x), (w.heap.size, 1, .int .i64 y)]) (by simp)).set2 (by omega) (by simp; omega) (.int .i64 1) (.int .i64 0))
    clear H
    refine gen_world (Q := Code.wp _ _ _ _) H5 ?_
    clear H5
    intro W8 H
    have k0 := fun p : Over W8 => H.over (b := w.heap.size) (o := 0) (v := .int .i64 x) (by simp) p
    have k1 := fun p : Over W8 => H.over (b := w.heap.size) (o := 1) (v := .int .i64 y) (by simp) p
    have k2 := fun p : Over W8 => H.over (b := w.heap.size + 1) (o := 0) (v := .int .i64 x2) (by simp) p
    have k3 := fun p : Over W8 => H.over (b := w.heap.size + 1) (o := 1) (v := .int .i64 y2) (by simp) p
    have k4 := fun p : Over W8 => H.over (b := gx) (o := 0) (v := .int .i64 1) (by simp) p
    have k5 := fun p : Over W8 => H.over (b := gx) (o := 1) (v := .int .i64 0) (by simp) p
    have k6 := fun p : Over W8 => H.over (b := gy) (o := 0) (v := .int .i64 1) (by simp) p
    have k7 := fun p : Over W8 => H.over (b := gy) (o := 1) (v := .int .i64 0) (by simp) p
    refine wp_region_tail_over rfl rfl rfl rfl (by kernel_rfl) (by kernel_rfl) (by kernel_rfl) ?_
    simp only [List.dropLast, tv, List.cons_append, List.nil_append]
    repeat (go_big_quiet_step (first | (go_at_call 99; rename_i p; refine (l8Min_any _ _ _).mono ?_; rintro e' w' ⟨rfl, rfl⟩; exact ⟨rfl, p, rfl⟩) | (go_at_call 100; rename_i p; refine (l8Max_any _ _ _).mono ?_; rintro e' w' ⟨rfl, rfl⟩; exact ⟨rfl, p, rfl⟩) | (go_at_call 85; rename_i p; refine (l8Cut_any _ _ _).mono ?_; rintro e' w' ⟨rfl, hb1⟩; exact ⟨by first | rw [hp] | rw [hq'], p.next hb1⟩)))
    refine wpQuiet_nil ?_
    rintro _ ⟨p, rfl⟩
    replace H := H.call p.below
    clear k0 k1 k2 k3 k4 k5 k6 k7
    obtain ⟨Wb, hWb⟩ : ∃ W, W = p.w := ⟨_, rfl⟩
    rw [← hWb] at H ⊢
    clear hWb p
    have c0 := H.get (b := w.heap.size) (o := 0) (v := .int .i64 x) (by simp)
    have c1 := H.get (b := w.heap.size) (o := 1) (v := .int .i64 y) (by simp)
    have c2 := H.get (b := w.heap.size + 1) (o := 0) (v := .int .i64 x2) (by simp)
    have c3 := H.get (b := w.heap.size + 1) (o := 1) (v := .int .i64 y2) (by simp)
    have c4 := H.get (b := gx) (o := 0) (v := .int .i64 1) (by simp)
    have c5 := H.get (b := gx) (o := 1) (v := .int .i64 0) (by simp)
    have c6 := H.get (b := gy) (o := 0) (v := .int .i64 1) (by simp)
    have c7 := H.get (b := gy) (o := 1) (v := .int .i64 0) (by simp)
    have f4 := H.fz (b := gx) (o := 0) (v := .int .i64 1) (by simp)
    have f5 := H.fz (b := gx) (o := 1) (v := .int .i64 0) (by simp)
    have f6 := H.fz (b := gy) (o := 0) (v := .int .i64 1) (by simp)
    have f7 := H.fz (b := gy) (o := 1) (v := .int .i64 0) (by simp)
    go_wp2_with fail
    have H6 := ((Hd.weak H (L' := [(gy, 0, .int .i64 1), (gy, 1, .int .i64 0), (gx, 0, .int .i64 1), (gx, 1, .int .i64 0), (w.heap.size + 3, 0, .int .i64 0), (w.heap.size + 3, 1, .int .i64 0), (w.heap.size + 2, 0, .int .i64 0), (w.heap.size + 2, 1, .int .i64 0), (w.heap.size + 1, 0, .int .i64 x2), (w.heap.size + 1, 1, .int .i64 y2), (w.heap.size, 0, .int .i64 x), (w.heap.size, 1, .int .i64 y)]) (by simp)).set2 (by omega) (by simp; omega) (.int .i64 rq.1) (.int .i64 rq.2))
    refine gen_world (Q := Code.wp _ _ _ _) H6 ?_
    clear H6 H
    intro W6 H
    have k0 := fun p : Over W6 => H.over (b := w.heap.size) (o := 0) (v := .int .i64 x) (by simp) p
    have k1 := fun p : Over W6 => H.over (b := w.heap.size) (o := 1) (v := .int .i64 y) (by simp) p
    have k2 := fun p : Over W6 => H.over (b := w.heap.size + 1) (o := 0) (v := .int .i64 x2) (by simp) p
    have k3 := fun p : Over W6 => H.over (b := w.heap.size + 1) (o := 1) (v := .int .i64 y2) (by simp) p
    have k4 := fun p : Over W6 => H.over (b := gx) (o := 0) (v := .int .i64 1) (by simp) p
    have k5 := fun p : Over W6 => H.over (b := gx) (o := 1) (v := .int .i64 0) (by simp) p
    have k6 := fun p : Over W6 => H.over (b := gy) (o := 0) (v := .int .i64 rq.1) (by simp) p
    have k7 := fun p : Over W6 => H.over (b := gy) (o := 1) (v := .int .i64 rq.2) (by simp) p
    refine wp_region_over (by kernel_rfl) (by kernel_rfl) ?_
    repeat (go_big_quiet_step (first | (go_at_call 79; rename_i p; refine (l8None_any _).mono ?_; rintro e' w' ⟨rfl, hb1⟩; exact ⟨rfl, p.next hb1⟩)))
    refine wpQuiet_nil ?_
    rintro _ ⟨p, rfl⟩
    replace H := H.call p.below
    clear k0 k1 k2 k3 k4 k5 k6 k7
    obtain ⟨W7, hW7⟩ : ∃ W, W = p.w := ⟨_, rfl⟩
    rw [← hW7] at H ⊢
    clear hW7 p
    have r20 := H.get (b := w.heap.size + 2) (o := 0) (v := .int .i64 0) (by simp)
    have z20 := H.fz (b := w.heap.size + 2) (o := 0) (v := .int .i64 0) (by simp)
    have r21 := H.get (b := w.heap.size + 2) (o := 1) (v := .int .i64 0) (by simp)
    have z21 := H.fz (b := w.heap.size + 2) (o := 1) (v := .int .i64 0) (by simp)
    have r30 := H.get (b := w.heap.size + 3) (o := 0) (v := .int .i64 0) (by simp)
    have z30 := H.fz (b := w.heap.size + 3) (o := 0) (v := .int .i64 0) (by simp)
    have r31 := H.get (b := w.heap.size + 3) (o := 1) (v := .int .i64 0) (by simp)
    have z31 := H.fz (b := w.heap.size + 3) (o := 1) (v := .int .i64 0) (by simp)
    go_wp2_with (go_at_call 79; refine (l8None_any _).mono ?_; rintro e w9 ⟨rfl, hb⟩; (first | (replace H := H.call hb) | (replace H := (H.call (Below.refl _ _).drew).call hb)); clear hb; have r20 := H.get (b := w.heap.size + 2) (o := 0) (v := .int .i64 0) (by simp); have z20 := H.fz (b := w.heap.size + 2) (o := 0) (v := .int .i64 0) (by simp); have r21 := H.get (b := w.heap.size + 2) (o := 1) (v := .int .i64 0) (by simp); have z21 := H.fz (b := w.heap.size + 2) (o := 1) (v := .int .i64 0) (by simp); have r30 := H.get (b := w.heap.size + 3) (o := 0) (v := .int .i64 0) (by simp); have z30 := H.fz (b := w.heap.size + 3) (o := 0) (v := .int .i64 0) (by simp); have r31 := H.get (b := w.heap.size + 3) (o := 1) (v := .int .i64 0) (by simp); have z31 := H.fz (b := w.heap.size + 3) (o := 1) (v := .int .i64 0) (by simp))
    all_goals refine bodyPost_ret (results_two_two rfl _ _ (w.heap.size + 2) (w.heap.size + 3) (.int .i64 1) (.int .i64 0) (.int .i64 1) (.int .i64 0) _ rfl rfl (by simp [go_sem, *]) (by simp [go_sem, *]) (by simp [go_sem, *]) (by simp [go_sem, *]) Tryd.underlying46 rfl (by kernel_rfl)) rfl ?_
    all_goals
      have hb2 : w.heap.size ≤ w.heap.size + 2 := Nat.le_add_right _ _
      have hb3 : w.heap.size ≤ w.heap.size + 3 := Nat.le_add_right _ _
      exact ⟨rfl, by first | exact ((((H.below.setCell hb2 _).setCell hb2 _).setCell hb3 _).setCell hb3 _).drew | exact (((H.below.setCell hb2 _).setCell hb2 _).setCell hb3 _).setCell hb3 _⟩
end Go.Proofs.YtjpiihjgbllieaaDoor.num
