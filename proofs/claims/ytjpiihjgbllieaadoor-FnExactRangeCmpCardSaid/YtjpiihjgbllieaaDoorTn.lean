/-
  The program's compareRanges of the comparisons that are turned; RangeCmp.
-/
import Derived.Test.YtjpiihjgbllieaaDoorTm
import Derived.Test.YtjpiihjgbllieaaDoorSp8
namespace Go.Proofs.YtjpiihjgbllieaaDoor.num
open Go.ChangeShapes Go.WideShapes Go.ChangeAt Go.RowKit
set_option linter.unusedVariables false

set_option maxRecDepth 100000 in
set_option maxHeartbeats 4000000 in
theorem compareR (c x y x2 y2 : Int) (hx1 : -2147483648 ≤ x) (hx2 : y ≤ 2147483647) (hx3 : x ≤ y) (hy1 : -2147483648 ≤ x2) (hy2 : y2 ≤ 2147483647) (hy3 : x2 ≤ y2) (w : World) (h : Gv w 1 none8) (ht : Tv w) :
    Calls Tryd.prog 102 #[.int .i64 c, .agg #[.int .i64 x, .int .i64 y, .int .i64 x2, .int .i64 y2]] w fun e w' => e = .returned (.agg #[.int .i64 (raw8 c (x, y) (x2, y2)).1.1, .int .i64 (raw8 c (x, y) (x2, y2)).1.2, .int .i64 (raw8 c (x, y) (x2, y2)).2.1, .int .i64 (raw8 c (x, y) (x2, y2)).2.2]) ∧ Below w.heap.size w w' := by
  by_cases c5 : c = 5
  · subst c5
    rw [show raw8 5 (x, y) (x2, y2) = ((raw8 3 (x2, y2) (x, y)).2, (raw8 3 (x2, y2) (x, y)).1) from rfl]
    obtain ⟨W, hW, H⟩ := Hd.fourfour w (.int .i64 x) (.int .i64 y) (.int .i64 x2) (.int .i64 y2) (.int .i64 0) (.int .i64 0) (.int .i64 0) (.int .i64 0) 94 94
    have s0 := H.get (b := w.heap.size) (o := 0) (v := .int .i64 x) (by simp)
    have s1 := H.get (b := w.heap.size) (o := 1) (v := .int .i64 y) (by simp)
    have s2 := H.get (b := w.heap.size) (o := 2) (v := .int .i64 x2) (by simp)
    have s3 := H.get (b := w.heap.size) (o := 3) (v := .int .i64 y2) (by simp)
    have l0 := H.lt (b := w.heap.size) (o := 0) (v := .int .i64 x) (by simp)
    have l1 := H.lt (b := w.heap.size + 1) (o := 0) (v := .int .i64 0) (by simp)
    go_enter Tryd.func102, Tryd.ntmps102
    go_wp2_with fail
    rw [← hW]
    clear hW
    go_cut [5, 6] from 5 (fun t5 t6 wc => ∃ ga gb, t5 = .pointer (some ⟨ga, 0, none⟩) ∧ t6 = .pointer (some ⟨gb, 0, none⟩) ∧ w.heap.size + 1 < ga ∧ w.heap.size + 1 < gb ∧ ga ≠ gb ∧ Hd w [(ga, 0, .int .i64 x), (ga, 1, .int .i64 y), (gb, 0, .int .i64 x2), (gb, 1, .int .i64 y2), (w.heap.size + 1, 0, .int .i64 0), (w.heap.size + 1, 1, .int .i64 0), (w.heap.size + 1, 2, .int .i64 0), (w.heap.size + 1, 3, .int .i64 0), (w.heap.size, 0, .int .i64 x), (w.heap.size, 1, .int .i64 y), (w.heap.size, 2, .int .i64 x2), (w.heap.size, 3, .int .i64 y2)] wc)
    case first =>
      go_region
      all_goals
        go_wp2_with fail
        go_meet
      · exact ⟨_, _, rfl, rfl, by omega, by omega, by omega, (((H.box (.int .i64 x) (.int .i64 y) 46).box (.int .i64 x2) (.int .i64 y2) 46).weak (by simp)).call (Below.refl _ _).drew⟩
      · exact ⟨_, _, rfl, rfl, by omega, by omega, by omega, (((H.box (.int .i64 x2) (.int .i64 y2) 46).box (.int .i64 x) (.int .i64 y) 46).weak (by simp)).call (Below.refl _ _).drew⟩
    case rest =>
      obtain ⟨ga, gb, rfl, rfl, hga, hgb, hne, H'⟩ := hcut
      clear H s0 s1 s2 s3 l0 l1
      have H := H'
      clear H'
      go_wp2_with fail
      obtain ⟨W1, hW1⟩ : ∃ W1, W1 = wc := ⟨_, rfl⟩
      rw [← hW1] at H ⊢
      clear hW1
      have k0 := fun p : Over W1 => H.over (b := w.heap.size) (o := 0) (v := .int .i64 x) (by simp) p
      have k1 := fun p : Over W1 => H.over (b := w.heap.size) (o := 1) (v := .int .i64 y) (by simp) p
      have k2 := fun p : Over W1 => H.over (b := w.heap.size) (o := 2) (v := .int .i64 x2) (by simp) p
      have k3 := fun p : Over W1 => H.over (b := w.heap.size) (o := 3) (v := .int .i64 y2) (by simp) p
      have hg := h.below H.below
      have htv := ht.below H.below
      refine wp_region_tail_over rfl rfl rfl rfl (by kernel_rfl) (by kernel_rfl) (by kernel_rfl) ?_
      simp only [List.dropLast, tv, List.cons_append, List.nil_append]
      repeat (go_big_quiet_step (first | (go_at_call 156; rename_i p; refine (implTurn5 _ (htv.below p.below)).mono ?_; rintro e' w' ⟨rfl, rfl⟩; exact ⟨rfl, p, rfl⟩) | (go_at_call 157; rename_i p; refine (turned_xy _ _ _ _ _).mono ?_; rintro e' w' ⟨rfl, hb1⟩; exact ⟨rfl, p.next hb1⟩) | (go_at_call 102; rename_i p; refine (compareA _ _ _ _ _ (by assumption) (by assumption) (by assumption) (by assumption) (by assumption) (by assumption) _ (hg.over p) (by omega)).mono ?_; rintro e' w' ⟨rfl, hb1⟩; exact ⟨rfl, p.next hb1⟩)))
      refine wpQuiet_nil ?_
      rintro _ ⟨p, rfl⟩
      replace H := H.call p.below
      clear k0 k1 k2 k3 hg htv
      obtain ⟨W3, hW3⟩ : ∃ W3, W3 = p.w := ⟨_, rfl⟩
      rw [← hW3] at H ⊢
      clear hW3 p
      have r0 := H.get (b := w.heap.size + 1) (o := 0) (v := .int .i64 0) (by simp)
      have z0 := H.fz (b := w.heap.size + 1) (o := 0) (v := .int .i64 0) (by simp)
      have r1 := H.get (b := w.heap.size + 1) (o := 1) (v := .int .i64 0) (by simp)
      have z1 := H.fz (b := w.heap.size + 1) (o := 1) (v := .int .i64 0) (by simp)
      have r2 := H.get (b := w.heap.size + 1) (o := 2) (v := .int .i64 0) (by simp)
      have z2 := H.fz (b := w.heap.size + 1) (o := 2) (v := .int .i64 0) (by simp)
      have r3 := H.get (b := w.heap.size + 1) (o := 3) (v := .int .i64 0) (by simp)
      have z3 := H.fz (b := w.heap.size + 1) (o := 3) (v := .int .i64 0) (by simp)
      go_wp2_with fail
      refine bodyPost_ret (results_four rfl _ _ (w.heap.size + 1) (.int .i64 (raw8 3 (x2, y2) (x, y)).2.1) (.int .i64 (raw8 3 (x2, y2) (x, y)).2.2) (.int .i64 (raw8 3 (x2, y2) (x, y)).1.1) (.int .i64 (raw8 3 (x2, y2) (x, y)).1.2) _ rfl (by simp [go_sem, *]) (by simp [go_sem, *]) (by simp [go_sem, *]) (by simp [go_sem, *]) Tryd.underlying94 rfl (by kernel_rfl)) rfl ?_
      exact ⟨rfl, (((H.below.setCell (by show w.heap.size ≤ w.heap.size + 1; omega) _).setCell (by show w.heap.size ≤ w.heap.size + 1; omega) _).setCell (by show w.heap.size ≤ w.heap.size + 1; omega) _).setCell (by show w.heap.size ≤ w.heap.size + 1; omega) _⟩
  · by_cases c6 : c = 6
    · subst c6
      rw [show raw8 6 (x, y) (x2, y2) = ((raw8 4 (x2, y2) (x, y)).2, (raw8 4 (x2, y2) (x, y)).1) from rfl]
      obtain ⟨W, hW, H⟩ := Hd.fourfour w (.int .i64 x) (.int .i64 y) (.int .i64 x2) (.int .i64 y2) (.int .i64 0) (.int .i64 0) (.int .i64 0) (.int .i64 0) 94 94
      have s0 := H.get (b := w.heap.size) (o := 0) (v := .int .i64 x) (by simp)
      have s1 := H.get (b := w.heap.size) (o := 1) (v := .int .i64 y) (by simp)
      have s2 := H.get (b := w.heap.size) (o := 2) (v := .int .i64 x2) (by simp)
      have s3 := H.get (b := w.heap.size) (o := 3) (v := .int .i64 y2) (by simp)
      have l0 := H.lt (b := w.heap.size) (o := 0) (v := .int .i64 x) (by simp)
      have l1 := H.lt (b := w.heap.size + 1) (o := 0) (v := .int .i64 0) (by simp)
      go_enter Tryd.func102, Tryd.ntmps102
      go_wp2_with fail
      rw [← hW]
      clear hW
      go_cut [5, 6] from 5 (fun t5 t6 wc => ∃ ga gb, t5 = .pointer (some ⟨ga, 0, none⟩) ∧ t6 = .pointer (some ⟨gb, 0, none⟩) ∧ w.heap.size + 1 < ga ∧ w.heap.size + 1 < gb ∧ ga ≠ gb ∧ Hd w [(ga, 0, .int .i64 x), (ga, 1, .int .i64 y), (gb, 0, .int .i64 x2), (gb, 1, .int .i64 y2), (w.heap.size + 1, 0, .int .i64 0), (w.heap.size + 1, 1, .int .i64 0), (w.heap.size + 1, 2, .int .i64 0), (w.heap.size + 1, 3, .int .i64 0), (w.heap.size, 0, .int .i64 x), (w.heap.size, 1, .int .i64 y), (w.heap.size, 2, .int .i64 x2), (w.heap.size, 3, .int .i64 y2)] wc)
      case first =>
        go_region
        all_goals
          go_wp2_with fail
          go_meet
        · exact ⟨_, _, rfl, rfl, by omega, by omega, by omega, (((H.box (.int .i64 x) (.int .i64 y) 46).box (.int .i64 x2) (.int .i64 y2) 46).weak (by simp)).call (Below.refl _ _).drew⟩
        · exact ⟨_, _, rfl, rfl, by omega, by omega, by omega, (((H.box (.int .i64 x2) (.int .i64 y2) 46).box (.int .i64 x) (.int .i64 y) 46).weak (by simp)).call (Below.refl _ _).drew⟩
      case rest =>
        obtain ⟨ga, gb, rfl, rfl, hga, hgb, hne, H'⟩ := hcut
        clear H s0 s1 s2 s3 l0 l1
        have H := H'
        clear H'
        go_wp2_with fail
        obtain ⟨W1, hW1⟩ : ∃ W1, W1 = wc := ⟨_, rfl⟩
        rw [← hW1] at H ⊢
        clear hW1
        have k0 := fun p : Over W1 => H.over (b := w.heap.size) (o := 0) (v := .int .i64 x) (by simp) p
        have k1 := fun p : Over W1 => H.over (b := w.heap.size) (o := 1) (v := .int .i64 y) (by simp) p
        have k2 := fun p : Over W1 => H.over (b := w.heap.size) (o := 2) (v := .int .i64 x2) (by simp) p
        have k3 := fun p : Over W1 => H.over (b := w.heap.size) (o := 3) (v := .int .i64 y2) (by simp) p
        have hg := h.below H.below
        have htv := ht.below H.below
        refine wp_region_tail_over rfl rfl rfl rfl (by kernel_rfl) (by kernel_rfl) (by kernel_rfl) ?_
        simp only [List.dropLast, tv, List.cons_append, List.nil_append]
        repeat (go_big_quiet_step (first | (go_at_call 156; rename_i p; refine (implTurn6 _ (htv.below p.below)).mono ?_; rintro e' w' ⟨rfl, rfl⟩; exact ⟨rfl, p, rfl⟩) | (go_at_call 157; rename_i p; refine (turned_xy _ _ _ _ _).mono ?_; rintro e' w' ⟨rfl, hb1⟩; exact ⟨rfl, p.next hb1⟩) | (go_at_call 102; rename_i p; refine (compareA _ _ _ _ _ (by assumption) (by assumption) (by assumption) (by assumption) (by assumption) (by assumption) _ (hg.over p) (by omega)).mono ?_; rintro e' w' ⟨rfl, hb1⟩; exact ⟨rfl, p.next hb1⟩)))
        refine wpQuiet_nil ?_
        rintro _ ⟨p, rfl⟩
        replace H := H.call p.below
        clear k0 k1 k2 k3 hg htv
        obtain ⟨W3, hW3⟩ : ∃ W3, W3 = p.w := ⟨_, rfl⟩
        rw [← hW3] at H ⊢
        clear hW3 p
        have r0 := H.get (b := w.heap.size + 1) (o := 0) (v := .int .i64 0) (by simp)
        have z0 := H.fz (b := w.heap.size + 1) (o := 0) (v := .int .i64 0) (by simp)
        have r1 := H.get (b := w.heap.size + 1) (o := 1) (v := .int .i64 0) (by simp)
        have z1 := H.fz (b := w.heap.size + 1) (o := 1) (v := .int .i64 0) (by simp)
        have r2 := H.get (b := w.heap.size + 1) (o := 2) (v := .int .i64 0) (by simp)
        have z2 := H.fz (b := w.heap.size + 1) (o := 2) (v := .int .i64 0) (by simp)
        have r3 := H.get (b := w.heap.size + 1) (o := 3) (v := .int .i64 0) (by simp)
        have z3 := H.fz (b := w.heap.size + 1) (o := 3) (v := .int .i64 0) (by simp)
        go_wp2_with fail
        refine bodyPost_ret (results_four rfl _ _ (w.heap.size + 1) (.int .i64 (raw8 4 (x2, y2) (x, y)).2.1) (.int .i64 (raw8 4 (x2, y2) (x, y)).2.2) (.int .i64 (raw8 4 (x2, y2) (x, y)).1.1) (.int .i64 (raw8 4 (x2, y2) (x, y)).1.2) _ rfl (by simp [go_sem, *]) (by simp [go_sem, *]) (by simp [go_sem, *]) (by simp [go_sem, *]) Tryd.underlying94 rfl (by kernel_rfl)) rfl ?_
        exact ⟨rfl, (((H.below.setCell (by show w.heap.size ≤ w.heap.size + 1; omega) _).setCell (by show w.heap.size ≤ w.heap.size + 1; omega) _).setCell (by show w.heap.size ≤ w.heap.size + 1; omega) _).setCell (by show w.heap.size ≤ w.heap.size + 1; omega) _⟩
    · exact compareA c x y x2 y2 hx1 hx2 hx3 hy1 hy2 hy3 w h ⟨c5, c6⟩
end Go.Proofs.YtjpiihjgbllieaaDoor.num
