/-
  The model's RangeCmp.
-/
import Derived.Test.YtjpiihjgbllieaaDoorTq
namespace Go.Proofs.YtjpiihjgbllieaaDoor.num
open Go.ChangeShapes Go.WideShapes Go.ChangeAt Go.RowKit
set_option linter.unusedVariables false

set_option maxRecDepth 100000 in
set_option maxHeartbeats 4000000 in
theorem sCmp_bad (c x y x2 y2 : Int) (w : World) (hbad : ¬ (rOk (x, y) = true ∧ rOk (x2, y2) = true ∧ isN (x, y) = false ∧ isN (x2, y2) = false)) :
    Calls Tryd.prog 39 #[.int .i64 c, .agg #[.int .i64 x, .int .i64 y], .agg #[.int .i64 x2, .int .i64 y2]] w fun e w' => e = .returned (.tuple #[(.agg #[.int .i64 ((rangeCmp c (x, y) (x2, y2)).1).1, .int .i64 ((rangeCmp c (x, y) (x2, y2)).1).2]), (.agg #[.int .i64 ((rangeCmp c (x, y) (x2, y2)).2).1, .int .i64 ((rangeCmp c (x, y) (x2, y2)).2).2])]) ∧ Below w.heap.size w w' := by
  obtain ⟨W, hW, H⟩ := Hd.two2 w (.int .i64 x) (.int .i64 y) (.int .i64 x2) (.int .i64 y2) (.int .i64 0) (.int .i64 0) (.int .i64 0) (.int .i64 0) 46 46 46 46
  cases ka : rOk (x, y)
  · skip
    have e : rangeCmp c (x, y) (x2, y2) = (none8, none8) := by unfold rangeCmp; rw [if_pos (by simp [ka])]
    rw [e]
    go_enter Tryd.func39, Tryd.ntmps39
    go_wp2_with fail
    rw [← hW]
    clear hW
    refine (l8None_any _).mono ?_
    rintro e w2 ⟨rfl, hb⟩
    replace H := H.call hb
    have l3 := H.lt (b := w.heap.size + 3) (o := 0) (v := .int .i64 0) (by simp)
    clear hb
    go_wp2_with fail
    refine (l8None_any _).mono ?_
    rintro e w3 ⟨rfl, hb⟩
    replace H := (H.box (.int .i64 1) (.int .i64 0) 46).call hb
    clear hb
    obtain ⟨gx, hgx⟩ : ∃ g, g = w2.heap.size := ⟨_, rfl⟩
    rw [← hgx] at H l3 ⊢
    clear hgx
    have lx := H.lt (b := gx) (o := 0) (v := .int .i64 1) (by simp)
    go_wp2_with fail
    replace H := H.box (.int .i64 1) (.int .i64 0) 46
    generalize w3.alloc (.cells #[.int .i64 1, .int .i64 0] 46) = W4 at H ⊢
    obtain ⟨gy, hgy⟩ : ∃ g, g = w3.heap.size := ⟨_, rfl⟩
    rw [← hgy] at H lx ⊢
    clear hgy
    have hord : w.heap.size + 3 < gx ∧ gx < gy := ⟨l3, lx⟩
    clear l3 lx
    obtain ⟨ho1, ho2⟩ := hord
    have k0 := fun p : Over W4 => H.over (b := w.heap.size) (o := 0) (v := .int .i64 x) (by simp) p
    have k1 := fun p : Over W4 => H.over (b := w.heap.size) (o := 1) (v := .int .i64 y) (by simp) p
    have k2 := fun p : Over W4 => H.over (b := w.heap.size + 1) (o := 0) (v := .int .i64 x2) (by simp) p
    have k3 := fun p : Over W4 => H.over (b := w.heap.size + 1) (o := 1) (v := .int .i64 y2) (by simp) p
    have k4 := fun p : Over W4 => H.over (b := gx) (o := 0) (v := .int .i64 1) (by simp) p
    have k5 := fun p : Over W4 => H.over (b := gx) (o := 1) (v := .int .i64 0) (by simp) p
    have k6 := fun p : Over W4 => H.over (b := gy) (o := 0) (v := .int .i64 1) (by simp) p
    have k7 := fun p : Over W4 => H.over (b := gy) (o := 1) (v := .int .i64 0) (by simp) p
    refine wp_region_over (by kernel_rfl) (by kernel_rfl) ?_
    repeat (go_big_quiet_step (first | (go_at_call 43; rename_i p; refine (RangeOk_xy _ _ _).mono ?_; rintro e' w' ⟨rfl, hb1⟩; exact ⟨by first | rw [ka] | rw [kb], p.next hb1⟩) | (go_at_call 79; rename_i p; refine (l8None_any _).mono ?_; rintro e' w' ⟨rfl, hb1⟩; exact ⟨rfl, p.next hb1⟩)))
    refine wpQuiet_nil ?_
    rintro _ ⟨p, rfl⟩
    replace H := H.call p.below
    clear k0 k1 k2 k3 k4 k5 k6 k7
    obtain ⟨W5, hW5⟩ : ∃ W, W = p.w := ⟨_, rfl⟩
    rw [← hW5] at H ⊢
    clear hW5 p
    have c0 := H.get (b := w.heap.size) (o := 0) (v := .int .i64 x) (by simp)
    have c1 := H.get (b := w.heap.size) (o := 1) (v := .int .i64 y) (by simp)
    have c2 := H.get (b := w.heap.size + 1) (o := 0) (v := .int .i64 x2) (by simp)
    have c3 := H.get (b := w.heap.size + 1) (o := 1) (v := .int .i64 y2) (by simp)
    have c4 := H.get (b := gx) (o := 0) (v := .int .i64 1) (by simp)
    have c5 := H.get (b := gx) (o := 1) (v := .int .i64 0) (by simp)
    have c6 := H.get (b := gy) (o := 0) (v := .int .i64 1) (by simp)
    have c7 := H.get (b := gy) (o := 1) (v := .int .i64 0) (by simp)
    have r20 := H.get (b := w.heap.size + 2) (o := 0) (v := .int .i64 0) (by simp)
    have z20 := H.fz (b := w.heap.size + 2) (o := 0) (v := .int .i64 0) (by simp)
    have r21 := H.get (b := w.heap.size + 2) (o := 1) (v := .int .i64 0) (by simp)
    have z21 := H.fz (b := w.heap.size + 2) (o := 1) (v := .int .i64 0) (by simp)
    have r30 := H.get (b := w.heap.size + 3) (o := 0) (v := .int .i64 0) (by simp)
    have z30 := H.fz (b := w.heap.size + 3) (o := 0) (v := .int .i64 0) (by simp)
    have r31 := H.get (b := w.heap.size + 3) (o := 1) (v := .int .i64 0) (by simp)
    have z31 := H.fz (b := w.heap.size + 3) (o := 1) (v := .int .i64 0) (by simp)
    go_wp2_with fail
    go_region
    all_goals go_wp2_with fail
    all_goals refine bodyPost_ret (results_two_two rfl _ _ (w.heap.size + 2) (w.heap.size + 3) (.int .i64 1) (.int .i64 0) (.int .i64 1) (.int .i64 0) _ rfl rfl (by simp [go_sem, *]) (by simp [go_sem, *]) (by simp [go_sem, *]) (by simp [go_sem, *]) Tryd.underlying46 rfl (by kernel_rfl)) rfl ?_
    all_goals
      have hb2 : w.heap.size ≤ w.heap.size + 2 := Nat.le_add_right _ _
      have hb3 : w.heap.size ≤ w.heap.size + 3 := Nat.le_add_right _ _
      exact ⟨rfl, by first | exact ((((H.below.setCell hb2 _).setCell hb2 _).setCell hb3 _).setCell hb3 _).drew | exact (((H.below.setCell hb2 _).setCell hb2 _).setCell hb3 _).setCell hb3 _⟩
  · cases kb : rOk (x2, y2)
    · skip
      have e : rangeCmp c (x, y) (x2, y2) = (none8, none8) := by unfold rangeCmp; rw [if_pos (by simp [kb])]
      rw [e]
      go_enter Tryd.func39, Tryd.ntmps39
      go_wp2_with fail
      rw [← hW]
      clear hW
      refine (l8None_any _).mono ?_
      rintro e w2 ⟨rfl, hb⟩
      replace H := H.call hb
      have l3 := H.lt (b := w.heap.size + 3) (o := 0) (v := .int .i64 0) (by simp)
      clear hb
      go_wp2_with fail
      refine (l8None_any _).mono ?_
      rintro e w3 ⟨rfl, hb⟩
      replace H := (H.box (.int .i64 1) (.int .i64 0) 46).call hb
      clear hb
      obtain ⟨gx, hgx⟩ : ∃ g, g = w2.heap.size := ⟨_, rfl⟩
      rw [← hgx] at H l3 ⊢
      clear hgx
      have lx := H.lt (b := gx) (o := 0) (v := .int .i64 1) (by simp)
      go_wp2_with fail
      replace H := H.box (.int .i64 1) (.int .i64 0) 46
      generalize w3.alloc (.cells #[.int .i64 1, .int .i64 0] 46) = W4 at H ⊢
      obtain ⟨gy, hgy⟩ : ∃ g, g = w3.heap.size := ⟨_, rfl⟩
      rw [← hgy] at H lx ⊢
      clear hgy
      have hord : w.heap.size + 3 < gx ∧ gx < gy := ⟨l3, lx⟩
      clear l3 lx
      obtain ⟨ho1, ho2⟩ := hord
      have k0 := fun p : Over W4 => H.over (b := w.heap.size) (o := 0) (v := .int .i64 x) (by simp) p
      have k1 := fun p : Over W4 => H.over (b := w.heap.size) (o := 1) (v := .int .i64 y) (by simp) p
      have k2 := fun p : Over W4 => H.over (b := w.heap.size + 1) (o := 0) (v := .int .i64 x2) (by simp) p
      have k3 := fun p : Over W4 => H.over (b := w.heap.size + 1) (o := 1) (v := .int .i64 y2) (by simp) p
      have k4 := fun p : Over W4 => H.over (b := gx) (o := 0) (v := .int .i64 1) (by simp) p
      have k5 := fun p : Over W4 => H.over (b := gx) (o := 1) (v := .int .i64 0) (by simp) p
      have k6 := fun p : Over W4 => H.over (b := gy) (o := 0) (v := .int .i64 1) (by simp) p
      have k7 := fun p : Over W4 => H.over (b := gy) (o := 1) (v := .int .i64 0) (by simp) p
      refine wp_region_over (by kernel_rfl) (by kernel_rfl) ?_
      repeat (go_big_quiet_step (first | (go_at_call 43; rename_i p; refine (RangeOk_xy _ _ _).mono ?_; rintro e' w' ⟨rfl, hb1⟩; exact ⟨by first | rw [ka] | rw [kb], p.next hb1⟩) | (go_at_call 79; rename_i p; refine (l8None_any _).mono ?_; rintro e' w' ⟨rfl, hb1⟩; exact ⟨rfl, p.next hb1⟩)))
      refine wpQuiet_nil ?_
      rintro _ ⟨p, rfl⟩
      replace H := H.call p.below
      clear k0 k1 k2 k3 k4 k5 k6 k7
      obtain ⟨W5, hW5⟩ : ∃ W, W = p.w := ⟨_, rfl⟩
      rw [← hW5] at H ⊢
      clear hW5 p
      have c0 := H.get (b := w.heap.size) (o := 0) (v := .int .i64 x) (by simp)
      have c1 := H.get (b := w.heap.size) (o := 1) (v := .int .i64 y) (by simp)
      have c2 := H.get (b := w.heap.size + 1) (o := 0) (v := .int .i64 x2) (by simp)
      have c3 := H.get (b := w.heap.size + 1) (o := 1) (v := .int .i64 y2) (by simp)
      have c4 := H.get (b := gx) (o := 0) (v := .int .i64 1) (by simp)
      have c5 := H.get (b := gx) (o := 1) (v := .int .i64 0) (by simp)
      have c6 := H.get (b := gy) (o := 0) (v := .int .i64 1) (by simp)
      have c7 := H.get (b := gy) (o := 1) (v := .int .i64 0) (by simp)
      have r20 := H.get (b := w.heap.size + 2) (o := 0) (v := .int .i64 0) (by simp)
      have z20 := H.fz (b := w.heap.size + 2) (o := 0) (v := .int .i64 0) (by simp)
      have r21 := H.get (b := w.heap.size + 2) (o := 1) (v := .int .i64 0) (by simp)
      have z21 := H.fz (b := w.heap.size + 2) (o := 1) (v := .int .i64 0) (by simp)
      have r30 := H.get (b := w.heap.size + 3) (o := 0) (v := .int .i64 0) (by simp)
      have z30 := H.fz (b := w.heap.size + 3) (o := 0) (v := .int .i64 0) (by simp)
      have r31 := H.get (b := w.heap.size + 3) (o := 1) (v := .int .i64 0) (by simp)
      have z31 := H.fz (b := w.heap.size + 3) (o := 1) (v := .int .i64 0) (by simp)
      go_wp2_with fail
      go_region
      all_goals go_wp2_with fail
      all_goals refine bodyPost_ret (results_two_two rfl _ _ (w.heap.size + 2) (w.heap.size + 3) (.int .i64 1) (.int .i64 0) (.int .i64 1) (.int .i64 0) _ rfl rfl (by simp [go_sem, *]) (by simp [go_sem, *]) (by simp [go_sem, *]) (by simp [go_sem, *]) Tryd.underlying46 rfl (by kernel_rfl)) rfl ?_
      all_goals
        have hb2 : w.heap.size ≤ w.heap.size + 2 := Nat.le_add_right _ _
        have hb3 : w.heap.size ≤ w.heap.size + 3 := Nat.le_add_right _ _
        exact ⟨rfl, by first | exact ((((H.below.setCell hb2 _).setCell hb2 _).setCell hb3 _).setCell hb3 _).drew | exact (((H.below.setCell hb2 _).setCell hb2 _).setCell hb3 _).setCell hb3 _⟩
    · cases n : isN (x, y)
      · have hq := @some_if x y n
        cases n2 : isN (x2, y2)
        · exact absurd ⟨ka, kb, n, n2⟩ hbad
        · obtain ⟨rfl, rfl⟩ := none_xy n2
          have e : rangeCmp c (x, y) (1, 0) = (none8, none8) := by unfold rangeCmp; rw [if_pos (by simp [n2])]
          rw [e]
          go_enter Tryd.func39, Tryd.ntmps39
          go_wp2_with fail
          rw [← hW]
          clear hW
          refine (l8None_any _).mono ?_
          rintro e w2 ⟨rfl, hb⟩
          replace H := H.call hb
          have l3 := H.lt (b := w.heap.size + 3) (o := 0) (v := .int .i64 0) (by simp)
          clear hb
          go_wp2_with fail
          refine (l8None_any _).mono ?_
          rintro e w3 ⟨rfl, hb⟩
          replace H := (H.box (.int .i64 1) (.int .i64 0) 46).call hb
          clear hb
          obtain ⟨gx, hgx⟩ : ∃ g, g = w2.heap.size := ⟨_, rfl⟩
          rw [← hgx] at H l3 ⊢
          clear hgx
          have lx := H.lt (b := gx) (o := 0) (v := .int .i64 1) (by simp)
          go_wp2_with fail
          replace H := H.box (.int .i64 1) (.int .i64 0) 46
          generalize w3.alloc (.cells #[.int .i64 1, .int .i64 0] 46) = W4 at H ⊢
          obtain ⟨gy, hgy⟩ : ∃ g, g = w3.heap.size := ⟨_, rfl⟩
          rw [← hgy] at H lx ⊢
          clear hgy
          have hord : w.heap.size + 3 < gx ∧ gx < gy := ⟨l3, lx⟩
          clear l3 lx
          obtain ⟨ho1, ho2⟩ := hord
          have k0 := fun p : Over W4 => H.over (b := w.heap.size) (o := 0) (v := .int .i64 x) (by simp) p
          have k1 := fun p : Over W4 => H.over (b := w.heap.size) (o := 1) (v := .int .i64 y) (by simp) p
          have k2 := fun p : Over W4 => H.over (b := w.heap.size + 1) (o := 0) (v := .int .i64 1) (by simp) p
          have k3 := fun p : Over W4 => H.over (b := w.heap.size + 1) (o := 1) (v := .int .i64 0) (by simp) p
          have k4 := fun p : Over W4 => H.over (b := gx) (o := 0) (v := .int .i64 1) (by simp) p
          have k5 := fun p : Over W4 => H.over (b := gx) (o := 1) (v := .int .i64 0) (by simp) p
          have k6 := fun p : Over W4 => H.over (b := gy) (o := 0) (v := .int .i64 1) (by simp) p
          have k7 := fun p : Over W4 => H.over (b := gy) (o := 1) (v := .int .i64 0) (by simp) p
          refine wp_region_over (by kernel_rfl) (by kernel_rfl) ?_
          repeat (go_big_quiet_step (first | (go_at_call 43; rename_i p; refine (RangeOk_xy _ _ _).mono ?_; rintro e' w' ⟨rfl, hb1⟩; exact ⟨by first | rw [ka] | rw [kb], p.next hb1⟩) | (go_at_call 79; rename_i p; refine (l8None_any _).mono ?_; rintro e' w' ⟨rfl, hb1⟩; exact ⟨rfl, p.next hb1⟩)))
          refine wpQuiet_nil ?_
          rintro _ ⟨p, rfl⟩
          replace H := H.call p.below
          clear k0 k1 k2 k3 k4 k5 k6 k7
          obtain ⟨W5, hW5⟩ : ∃ W, W = p.w := ⟨_, rfl⟩
          rw [← hW5] at H ⊢
          clear hW5 p
          have c0 := H.get (b := w.heap.size) (o := 0) (v := .int .i64 x) (by simp)
          have c1 := H.get (b := w.heap.size) (o := 1) (v := .int .i64 y) (by simp)
          have c2 := H.get (b := w.heap.size + 1) (o := 0) (v := .int .i64 1) (by simp)
          have c3 := H.get (b := w.heap.size + 1) (o := 1) (v := .int .i64 0) (by simp)
          have c4 := H.get (b := gx) (o := 0) (v := .int .i64 1) (by simp)
          have c5 := H.get (b := gx) (o := 1) (v := .int .i64 0) (by simp)
          have c6 := H.get (b := gy) (o := 0) (v := .int .i64 1) (by simp)
          have c7 := H.get (b := gy) (o := 1) (v := .int .i64 0) (by simp)
          have r20 := H.get (b := w.heap.size + 2) (o := 0) (v := .int .i64 0) (by simp)
          have z20 := H.fz (b := w.heap.size + 2) (o := 0) (v := .int .i64 0) (by simp)
          have r21 := H.get (b := w.heap.size + 2) (o := 1) (v := .int .i64 0) (by simp)
          have z21 := H.fz (b := w.heap.size + 2) (o := 1) (v := .int .i64 0) (by simp)
          have r30 := H.get (b := w.heap.size + 3) (o := 0) (v := .int .i64 0) (by simp)
          have z30 := H.fz (b := w.heap.size + 3) (o := 0) (v := .int .i64 0) (by simp)
          have r31 := H.get (b := w.heap.size + 3) (o := 1) (v := .int .i64 0) (by simp)
          have z31 := H.fz (b := w.heap.size + 3) (o := 1) (v := .int .i64 0) (by simp)
          go_wp2_with fail
          go_region
          all_goals go_wp2_with fail
          all_goals refine bodyPost_ret (results_two_two rfl _ _ (w.heap.size + 2) (w.heap.size + 3) (.int .i64 1) (.int .i64 0) (.int .i64 1) (.int .i64 0) _ rfl rfl (by simp [go_sem, *]) (by simp [go_sem, *]) (by simp [go_sem, *]) (by simp [go_sem, *]) Tryd.underlying46 rfl (by kernel_rfl)) rfl ?_
          all_goals
            have hb2 : w.heap.size ≤ w.heap.size + 2 := Nat.le_add_right _ _
            have hb3 : w.heap.size ≤ w.heap.size + 3 := Nat.le_add_right _ _
            exact ⟨rfl, by first | exact ((((H.below.setCell hb2 _).setCell hb2 _).setCell hb3 _).setCell hb3 _).drew | exact (((H.below.setCell hb2 _).setCell hb2 _).setCell hb3 _).setCell hb3 _⟩
      · obtain ⟨rfl, rfl⟩ := none_xy n
        have e : rangeCmp c (1, 0) (x2, y2) = (none8, none8) := by unfold rangeCmp; rw [if_pos (by simp [n])]
        rw [e]
        go_enter Tryd.func39, Tryd.ntmps39
        go_wp2_with fail
        rw [← hW]
        clear hW
        refine (l8None_any _).mono ?_
        rintro e w2 ⟨rfl, hb⟩
        replace H := H.call hb
        have l3 := H.lt (b := w.heap.size + 3) (o := 0) (v := .int .i64 0) (by simp)
        clear hb
        go_wp2_with fail
        refine (l8None_any _).mono ?_
        rintro e w3 ⟨rfl, hb⟩
        replace H := (H.box (.int .i64 1) (.int .i64 0) 46).call hb
        clear hb
        obtain ⟨gx, hgx⟩ : ∃ g, g = w2.heap.size := ⟨_, rfl⟩
        rw [← hgx] at H l3 ⊢
        clear hgx
        have lx := H.lt (b := gx) (o := 0) (v := .int .i64 1) (by simp)
        go_wp2_with fail
        replace H := H.box (.int .i64 1) (.int .i64 0) 46
        generalize w3.alloc (.cells #[.int .i64 1, .int .i64 0] 46) = W4 at H ⊢
        obtain ⟨gy, hgy⟩ : ∃ g, g = w3.heap.size := ⟨_, rfl⟩
        rw [← hgy] at H lx ⊢
        clear hgy
        have hord : w.heap.size + 3 < gx ∧ gx < gy := ⟨l3, lx⟩
        clear l3 lx
        obtain ⟨ho1, ho2⟩ := hord
        have k0 := fun p : Over W4 => H.over (b := w.heap.size) (o := 0) (v := .int .i64 1) (by simp) p
        have k1 := fun p : Over W4 => H.over (b := w.heap.size) (o := 1) (v := .int .i64 0) (by simp) p
        have k2 := fun p : Over W4 => H.over (b := w.heap.size + 1) (o := 0) (v := .int .i64 x2) (by simp) p
        have k3 := fun p : Over W4 => H.over (b := w.heap.size + 1) (o := 1) (v := .int .i64 y2) (by simp) p
        have k4 := fun p : Over W4 => H.over (b := gx) (o := 0) (v := .int .i64 1) (by simp) p
        have k5 := fun p : Over W4 => H.over (b := gx) (o := 1) (v := .int .i64 0) (by simp) p
        have k6 := fun p : Over W4 => H.over (b := gy) (o := 0) (v := .int .i64 1) (by simp) p
        have k7 := fun p : Over W4 => H.over (b := gy) (o := 1) (v := .int .i64 0) (by simp) p
        refine wp_region_over (by kernel_rfl) (by kernel_rfl) ?_
        repeat (go_big_quiet_step (first | (go_at_call 43; rename_i p; refine (RangeOk_xy _ _ _).mono ?_; rintro e' w' ⟨rfl, hb1⟩; exact ⟨by first | rw [ka] | rw [kb], p.next hb1⟩) | (go_at_call 79; rename_i p; refine (l8None_any _).mono ?_; rintro e' w' ⟨rfl, hb1⟩; exact ⟨rfl, p.next hb1⟩)))
        refine wpQuiet_nil ?_
        rintro _ ⟨p, rfl⟩
        replace H := H.call p.below
        clear k0 k1 k2 k3 k4 k5 k6 k7
        obtain ⟨W5, hW5⟩ : ∃ W, W = p.w := ⟨_, rfl⟩
        rw [← hW5] at H ⊢
        clear hW5 p
        have c0 := H.get (b := w.heap.size) (o := 0) (v := .int .i64 1) (by simp)
        have c1 := H.get (b := w.heap.size) (o := 1) (v := .int .i64 0) (by simp)
        have c2 := H.get (b := w.heap.size + 1) (o := 0) (v := .int .i64 x2) (by simp)
        have c3 := H.get (b := w.heap.size + 1) (o := 1) (v := .int .i64 y2) (by simp)
        have c4 := H.get (b := gx) (o := 0) (v := .int .i64 1) (by simp)
        have c5 := H.get (b := gx) (o := 1) (v := .int .i64 0) (by simp)
        have c6 := H.get (b := gy) (o := 0) (v := .int .i64 1) (by simp)
        have c7 := H.get (b := gy) (o := 1) (v := .int .i64 0) (by simp)
        have r20 := H.get (b := w.heap.size + 2) (o := 0) (v := .int .i64 0) (by simp)
        have z20 := H.fz (b := w.heap.size + 2) (o := 0) (v := .int .i64 0) (by simp)
        have r21 := H.get (b := w.heap.size + 2) (o := 1) (v := .int .i64 0) (by simp)
        have z21 := H.fz (b := w.heap.size + 2) (o := 1) (v := .int .i64 0) (by simp)
        have r30 := H.get (b := w.heap.size + 3) (o := 0) (v := .int .i64 0) (by simp)
        have z30 := H.fz (b := w.heap.size + 3) (o := 0) (v := .int .i64 0) (by simp)
        have r31 := H.get (b := w.heap.size + 3) (o := 1) (v := .int .i64 0) (by simp)
        have z31 := H.fz (b := w.heap.size + 3) (o := 1) (v := .int .i64 0) (by simp)
        go_wp2_with fail
        go_region
        all_goals go_wp2_with fail
        all_goals refine bodyPost_ret (results_two_two rfl _ _ (w.heap.size + 2) (w.heap.size + 3) (.int .i64 1) (.int .i64 0) (.int .i64 1) (.int .i64 0) _ rfl rfl (by simp [go_sem, *]) (by simp [go_sem, *]) (by simp [go_sem, *]) (by simp [go_sem, *]) Tryd.underlying46 rfl (by kernel_rfl)) rfl ?_
        all_goals
          have hb2 : w.heap.size ≤ w.heap.size + 2 := Nat.le_add_right _ _
          have hb3 : w.heap.size ≤ w.heap.size + 3 := Nat.le_add_right _ _
          exact ⟨rfl, by first | exact ((((H.below.setCell hb2 _).setCell hb2 _).setCell hb3 _).setCell hb3 _).drew | exact (((H.below.setCell hb2 _).setCell hb2 _).setCell hb3 _).setCell hb3 _⟩
end Go.Proofs.YtjpiihjgbllieaaDoor.num
