/-
  The program's ascending, compareRanges.
-/
import Derived.Test.YthbbgkpkijlclaaDoorTl
import Derived.Test.YthbbgkpkijlclaaDoorTf
import Derived.Deep.Cut
import Derived.Deep.CutRange
namespace Go.Proofs.YthbbgkpkijlclaaDoor.num
open Go.ChangeShapes Go.WideShapes Go.ChangeAt Go.RowKit
set_option linter.unusedVariables false

theorem Hd.box4 {w0 w : World} {L : List (Nat × Nat × Value)} (h : Hd w0 L w) (x y z u : Value) (t : TypeId) : Hd w0 ((w.heap.size, 0, x) :: (w.heap.size, 1, y) :: (w.heap.size, 2, z) :: (w.heap.size, 3, u) :: L) (w.alloc (.cells #[x, y, z, u] t)) := by
  have k := h.call ((Below.refl w.heap.size w).alloc (Nat.le_refl _) (.cells #[x, y, z, u] t))
  refine ⟨k.below, fun b o v hm => ?_⟩
  simp only [List.mem_cons, Prod.mk.injEq] at hm
  rcases hm with ⟨rfl, rfl, rfl⟩ | ⟨rfl, rfl, rfl⟩ | ⟨rfl, rfl, rfl⟩ | ⟨rfl, rfl, rfl⟩ | hm
  · exact ⟨by simp, by simp [go_sem], by simp [go_sem]⟩
  · exact ⟨by simp, by simp [go_sem], by simp [go_sem]⟩
  · exact ⟨by simp, by simp [go_sem], by simp [go_sem]⟩
  · exact ⟨by simp, by simp [go_sem], by simp [go_sem]⟩
  · exact k.cells b o v hm
theorem Hd.twofour (w : World) (x y x2 y2 a b c d : Value) (t t2 t3 : TypeId) : ∃ W, W = ((w.alloc (.cells #[x, y] t)).alloc (.cells #[x2, y2] t2)).alloc (.cells #[a, b, c, d] t3) ∧
    Hd w [(w.heap.size + 2, 0, a), (w.heap.size + 2, 1, b), (w.heap.size + 2, 2, c), (w.heap.size + 2, 3, d), (w.heap.size + 1, 0, x2), (w.heap.size + 1, 1, y2), (w.heap.size, 0, x), (w.heap.size, 1, y)] W := by
  refine ⟨_, rfl, ?_⟩
  have h := (((Hd.start w).box x y t).box x2 y2 t2).box4 a b c d t3
  rw [size_alloc1, size_alloc1] at h
  exact h
set_option maxRecDepth 100000 in
set_option maxHeartbeats 4000000 in
theorem ascending_xy (x y x2 y2 m : Int) (hm : m = 0 ∨ m = 1) (hx1 : -2147483648 ≤ x) (hx2 : y ≤ 2147483647) (hx3 : x ≤ y) (hy1 : -2147483648 ≤ x2) (hy2 : y2 ≤ 2147483647) (hy3 : x2 ≤ y2) (w : World) (h : Gv w 1 none8) :
    Calls Tryd.prog 212 #[.agg #[.int .i64 x, .int .i64 y], .agg #[.int .i64 x2, .int .i64 y2], .int .i64 m] w fun e w' => e = .returned (.agg #[.int .i64 (cut8 x (min y (y2 - m))).1, .int .i64 (cut8 x (min y (y2 - m))).2, .int .i64 (cut8 (max x2 (x + m)) y2).1, .int .i64 (cut8 (max x2 (x + m)) y2).2]) ∧ Below w.heap.size w w' := by
  obtain ⟨W, hW, H⟩ := Hd.twofour w (.int .i64 x) (.int .i64 y) (.int .i64 x2) (.int .i64 y2) (.int .i64 0) (.int .i64 0) (.int .i64 0) (.int .i64 0) 24 24 122
  have e1 : IntKind.i64.wrap (y2 - m) = y2 - m := IntWalk.i64_in _ ⟨by omega, by omega⟩
  have e2 : IntKind.i64.wrap (x + m) = x + m := IntWalk.i64_in _ ⟨by omega, by omega⟩
  by_cases p1 : y ≤ y2 - m
  · by_cases p2 : x2 < x + m
    · skip
      rw [show min y (y2 - m) = y by omega, show max x2 (x + m) = (x + m) by omega]
      go_enter Tryd.func212, Tryd.ntmps212
      go_wp2_with fail
      rw [← hW]
      clear hW
      have k0 := fun p : Over W => H.over (b := w.heap.size) (o := 0) (v := .int .i64 x) (by simp) p
      have k1 := fun p : Over W => H.over (b := w.heap.size) (o := 1) (v := .int .i64 y) (by simp) p
      have k2 := fun p : Over W => H.over (b := w.heap.size + 1) (o := 0) (v := .int .i64 x2) (by simp) p
      have k3 := fun p : Over W => H.over (b := w.heap.size + 1) (o := 1) (v := .int .i64 y2) (by simp) p
      have hg := h.below H.below
      refine wp_region_tail_over rfl rfl rfl rfl (by kernel_rfl) (by kernel_rfl) (by kernel_rfl) ?_
      simp only [List.dropLast, tv, List.cons_append, List.nil_append]
      repeat (go_big_quiet_step (first | (go_at_call 165; rename_i p; refine (fromTo_any _ _ _ (hg.over p)).mono ?_; rintro e' w' ⟨rfl, hb1⟩; exact ⟨rfl, p.next hb1⟩) | (go_at_call 120; rename_i p; refine (rangesOf_xy _ _ _ _ _).mono ?_; rintro e' w' ⟨rfl, hb1⟩; exact ⟨rfl, p.next hb1⟩)))
      refine wpQuiet_nil ?_
      rintro _ ⟨p, rfl⟩
      replace H := H.call p.below
      clear k0 k1 k2 k3 hg
      obtain ⟨W3, hW3⟩ : ∃ W3, W3 = p.w := ⟨_, rfl⟩
      rw [← hW3] at H ⊢
      clear hW3 p
      have r0 := H.get (b := w.heap.size + 2) (o := 0) (v := .int .i64 0) (by simp)
      have r1 := H.get (b := w.heap.size + 2) (o := 1) (v := .int .i64 0) (by simp)
      have r2 := H.get (b := w.heap.size + 2) (o := 2) (v := .int .i64 0) (by simp)
      have r3 := H.get (b := w.heap.size + 2) (o := 3) (v := .int .i64 0) (by simp)
      have z0 := H.fz (b := w.heap.size + 2) (o := 0) (v := .int .i64 0) (by simp)
      have z1 := H.fz (b := w.heap.size + 2) (o := 1) (v := .int .i64 0) (by simp)
      have z2 := H.fz (b := w.heap.size + 2) (o := 2) (v := .int .i64 0) (by simp)
      have z3 := H.fz (b := w.heap.size + 2) (o := 3) (v := .int .i64 0) (by simp)
      go_wp2_with fail
      refine bodyPost_ret (results_four rfl _ _ (w.heap.size + 2) (.int .i64 (cut8 x y).1) (.int .i64 (cut8 x y).2) (.int .i64 (cut8 (x + m) y2).1) (.int .i64 (cut8 (x + m) y2).2) _ rfl (by simp [go_sem, *]) (by simp [go_sem, *]) (by simp [go_sem, *]) (by simp [go_sem, *]) Tryd.underlying122 rfl (by kernel_rfl)) rfl ?_
      exact ⟨rfl, (((H.below.setCell (by show w.heap.size ≤ w.heap.size + 2; omega) _).setCell (by show w.heap.size ≤ w.heap.size + 2; omega) _).setCell (by show w.heap.size ≤ w.heap.size + 2; omega) _).setCell (by show w.heap.size ≤ w.heap.size + 2; omega) _⟩
    · skip
      rw [show min y (y2 - m) = y by omega, show max x2 (x + m) = x2 by omega]
      go_enter Tryd.func212, Tryd.ntmps212
      go_wp2_with fail
      rw [← hW]
      clear hW
      have k0 := fun p : Over W => H.over (b := w.heap.size) (o := 0) (v := .int .i64 x) (by simp) p
      have k1 := fun p : Over W => H.over (b := w.heap.size) (o := 1) (v := .int .i64 y) (by simp) p
      have k2 := fun p : Over W => H.over (b := w.heap.size + 1) (o := 0) (v := .int .i64 x2) (by simp) p
      have k3 := fun p : Over W => H.over (b := w.heap.size + 1) (o := 1) (v := .int .i64 y2) (by simp) p
      have hg := h.below H.below
      refine wp_region_tail_over rfl rfl rfl rfl (by kernel_rfl) (by kernel_rfl) (by kernel_rfl) ?_
      simp only [List.dropLast, tv, List.cons_append, List.nil_append]
      repeat (go_big_quiet_step (first | (go_at_call 165; rename_i p; refine (fromTo_any _ _ _ (hg.over p)).mono ?_; rintro e' w' ⟨rfl, hb1⟩; exact ⟨rfl, p.next hb1⟩) | (go_at_call 120; rename_i p; refine (rangesOf_xy _ _ _ _ _).mono ?_; rintro e' w' ⟨rfl, hb1⟩; exact ⟨rfl, p.next hb1⟩)))
      refine wpQuiet_nil ?_
      rintro _ ⟨p, rfl⟩
      replace H := H.call p.below
      clear k0 k1 k2 k3 hg
      obtain ⟨W3, hW3⟩ : ∃ W3, W3 = p.w := ⟨_, rfl⟩
      rw [← hW3] at H ⊢
      clear hW3 p
      have r0 := H.get (b := w.heap.size + 2) (o := 0) (v := .int .i64 0) (by simp)
      have r1 := H.get (b := w.heap.size + 2) (o := 1) (v := .int .i64 0) (by simp)
      have r2 := H.get (b := w.heap.size + 2) (o := 2) (v := .int .i64 0) (by simp)
      have r3 := H.get (b := w.heap.size + 2) (o := 3) (v := .int .i64 0) (by simp)
      have z0 := H.fz (b := w.heap.size + 2) (o := 0) (v := .int .i64 0) (by simp)
      have z1 := H.fz (b := w.heap.size + 2) (o := 1) (v := .int .i64 0) (by simp)
      have z2 := H.fz (b := w.heap.size + 2) (o := 2) (v := .int .i64 0) (by simp)
      have z3 := H.fz (b := w.heap.size + 2) (o := 3) (v := .int .i64 0) (by simp)
      go_wp2_with fail
      refine bodyPost_ret (results_four rfl _ _ (w.heap.size + 2) (.int .i64 (cut8 x y).1) (.int .i64 (cut8 x y).2) (.int .i64 (cut8 x2 y2).1) (.int .i64 (cut8 x2 y2).2) _ rfl (by simp [go_sem, *]) (by simp [go_sem, *]) (by simp [go_sem, *]) (by simp [go_sem, *]) Tryd.underlying122 rfl (by kernel_rfl)) rfl ?_
      exact ⟨rfl, (((H.below.setCell (by show w.heap.size ≤ w.heap.size + 2; omega) _).setCell (by show w.heap.size ≤ w.heap.size + 2; omega) _).setCell (by show w.heap.size ≤ w.heap.size + 2; omega) _).setCell (by show w.heap.size ≤ w.heap.size + 2; omega) _⟩
  · by_cases p2 : x2 < x + m
    · skip
      rw [show min y (y2 - m) = (y2 - m) by omega, show max x2 (x + m) = (x + m) by omega]
      go_enter Tryd.func212, Tryd.ntmps212
      go_wp2_with fail
      rw [← hW]
      clear hW
      have k0 := fun p : Over W => H.over (b := w.heap.size) (o := 0) (v := .int .i64 x) (by simp) p
      have k1 := fun p : Over W => H.over (b := w.heap.size) (o := 1) (v := .int .i64 y) (by simp) p
      have k2 := fun p : Over W => H.over (b := w.heap.size + 1) (o := 0) (v := .int .i64 x2) (by simp) p
      have k3 := fun p : Over W => H.over (b := w.heap.size + 1) (o := 1) (v := .int .i64 y2) (by simp) p
      have hg := h.below H.below
      refine wp_region_tail_over rfl rfl rfl rfl (by kernel_rfl) (by kernel_rfl) (by kernel_rfl) ?_
      simp only [List.dropLast, tv, List.cons_append, List.nil_append]
      repeat (go_big_quiet_step (first | (go_at_call 165; rename_i p; refine (fromTo_any _ _ _ (hg.over p)).mono ?_; rintro e' w' ⟨rfl, hb1⟩; exact ⟨rfl, p.next hb1⟩) | (go_at_call 120; rename_i p; refine (rangesOf_xy _ _ _ _ _).mono ?_; rintro e' w' ⟨rfl, hb1⟩; exact ⟨rfl, p.next hb1⟩)))
      refine wpQuiet_nil ?_
      rintro _ ⟨p, rfl⟩
      replace H := H.call p.below
      clear k0 k1 k2 k3 hg
      obtain ⟨W3, hW3⟩ : ∃ W3, W3 = p.w := ⟨_, rfl⟩
      rw [← hW3] at H ⊢
      clear hW3 p
      have r0 := H.get (b := w.heap.size + 2) (o := 0) (v := .int .i64 0) (by simp)
      have r1 := H.get (b := w.heap.size + 2) (o := 1) (v := .int .i64 0) (by simp)
      have r2 := H.get (b := w.heap.size + 2) (o := 2) (v := .int .i64 0) (by simp)
      have r3 := H.get (b := w.heap.size + 2) (o := 3) (v := .int .i64 0) (by simp)
      have z0 := H.fz (b := w.heap.size + 2) (o := 0) (v := .int .i64 0) (by simp)
      have z1 := H.fz (b := w.heap.size + 2) (o := 1) (v := .int .i64 0) (by simp)
      have z2 := H.fz (b := w.heap.size + 2) (o := 2) (v := .int .i64 0) (by simp)
      have z3 := H.fz (b := w.heap.size + 2) (o := 3) (v := .int .i64 0) (by simp)
      go_wp2_with fail
      refine bodyPost_ret (results_four rfl _ _ (w.heap.size + 2) (.int .i64 (cut8 x (y2 - m)).1) (.int .i64 (cut8 x (y2 - m)).2) (.int .i64 (cut8 (x + m) y2).1) (.int .i64 (cut8 (x + m) y2).2) _ rfl (by simp [go_sem, *]) (by simp [go_sem, *]) (by simp [go_sem, *]) (by simp [go_sem, *]) Tryd.underlying122 rfl (by kernel_rfl)) rfl ?_
      exact ⟨rfl, (((H.below.setCell (by show w.heap.size ≤ w.heap.size + 2; omega) _).setCell (by show w.heap.size ≤ w.heap.size + 2; omega) _).setCell (by show w.heap.size ≤ w.heap.size + 2; omega) _).setCell (by show w.heap.size ≤ w.heap.size + 2; omega) _⟩
    · skip
      rw [show min y (y2 - m) = (y2 - m) by omega, show max x2 (x + m) = x2 by omega]
      go_enter Tryd.func212, Tryd.ntmps212
      go_wp2_with fail
      rw [← hW]
      clear hW
      have k0 := fun p : Over W => H.over (b := w.heap.size) (o := 0) (v := .int .i64 x) (by simp) p
      have k1 := fun p : Over W => H.over (b := w.heap.size) (o := 1) (v := .int .i64 y) (by simp) p
      have k2 := fun p : Over W => H.over (b := w.heap.size + 1) (o := 0) (v := .int .i64 x2) (by simp) p
      have k3 := fun p : Over W => H.over (b := w.heap.size + 1) (o := 1) (v := .int .i64 y2) (by simp) p
      have hg := h.below H.below
      refine wp_region_tail_over rfl rfl rfl rfl (by kernel_rfl) (by kernel_rfl) (by kernel_rfl) ?_
      simp only [List.dropLast, tv, List.cons_append, List.nil_append]
      repeat (go_big_quiet_step (first | (go_at_call 165; rename_i p; refine (fromTo_any _ _ _ (hg.over p)).mono ?_; rintro e' w' ⟨rfl, hb1⟩; exact ⟨rfl, p.next hb1⟩) | (go_at_call 120; rename_i p; refine (rangesOf_xy _ _ _ _ _).mono ?_; rintro e' w' ⟨rfl, hb1⟩; exact ⟨rfl, p.next hb1⟩)))
      refine wpQuiet_nil ?_
      rintro _ ⟨p, rfl⟩
      replace H := H.call p.below
      clear k0 k1 k2 k3 hg
      obtain ⟨W3, hW3⟩ : ∃ W3, W3 = p.w := ⟨_, rfl⟩
      rw [← hW3] at H ⊢
      clear hW3 p
      have r0 := H.get (b := w.heap.size + 2) (o := 0) (v := .int .i64 0) (by simp)
      have r1 := H.get (b := w.heap.size + 2) (o := 1) (v := .int .i64 0) (by simp)
      have r2 := H.get (b := w.heap.size + 2) (o := 2) (v := .int .i64 0) (by simp)
      have r3 := H.get (b := w.heap.size + 2) (o := 3) (v := .int .i64 0) (by simp)
      have z0 := H.fz (b := w.heap.size + 2) (o := 0) (v := .int .i64 0) (by simp)
      have z1 := H.fz (b := w.heap.size + 2) (o := 1) (v := .int .i64 0) (by simp)
      have z2 := H.fz (b := w.heap.size + 2) (o := 2) (v := .int .i64 0) (by simp)
      have z3 := H.fz (b := w.heap.size + 2) (o := 3) (v := .int .i64 0) (by simp)
      go_wp2_with fail
      refine bodyPost_ret (results_four rfl _ _ (w.heap.size + 2) (.int .i64 (cut8 x (y2 - m)).1) (.int .i64 (cut8 x (y2 - m)).2) (.int .i64 (cut8 x2 y2).1) (.int .i64 (cut8 x2 y2).2) _ rfl (by simp [go_sem, *]) (by simp [go_sem, *]) (by simp [go_sem, *]) (by simp [go_sem, *]) Tryd.underlying122 rfl (by kernel_rfl)) rfl ?_
      exact ⟨rfl, (((H.below.setCell (by show w.heap.size ≤ w.heap.size + 2; omega) _).setCell (by show w.heap.size ≤ w.heap.size + 2; omega) _).setCell (by show w.heap.size ≤ w.heap.size + 2; omega) _).setCell (by show w.heap.size ≤ w.heap.size + 2; omega) _⟩
theorem Hd.fourfour (w : World) (x y x2 y2 a b c d : Value) (t2 t3 : TypeId) : ∃ W, W = (w.alloc (.cells #[x, y, x2, y2] t2)).alloc (.cells #[a, b, c, d] t3) ∧
    Hd w [(w.heap.size + 1, 0, a), (w.heap.size + 1, 1, b), (w.heap.size + 1, 2, c), (w.heap.size + 1, 3, d), (w.heap.size, 0, x), (w.heap.size, 1, y), (w.heap.size, 2, x2), (w.heap.size, 3, y2)] W := by
  refine ⟨_, rfl, ?_⟩
  have h := ((Hd.start w).box4 x y x2 y2 t2).box4 a b c d t3
  rw [size_alloc1] at h
  exact h
set_option maxRecDepth 100000 in
set_option maxHeartbeats 4000000 in
theorem compareA (c x y x2 y2 : Int) (hx1 : -2147483648 ≤ x) (hx2 : y ≤ 2147483647) (hx3 : x ≤ y) (hy1 : -2147483648 ≤ x2) (hy2 : y2 ≤ 2147483647) (hy3 : x2 ≤ y2) (w : World) (h : Gv w 1 none8) (hc : ¬ c = 5 ∧ ¬ c = 6) :
    Calls Tryd.prog 170 #[.int .i64 c, .agg #[.int .i64 x, .int .i64 y, .int .i64 x2, .int .i64 y2]] w fun e w' => e = .returned (.agg #[.int .i64 (raw8 c (x, y) (x2, y2)).1.1, .int .i64 (raw8 c (x, y) (x2, y2)).1.2, .int .i64 (raw8 c (x, y) (x2, y2)).2.1, .int .i64 (raw8 c (x, y) (x2, y2)).2.2]) ∧ Below w.heap.size w w' := by
  by_cases c1 : c = 1
  · subst c1
    rw [show raw8 1 (x, y) (x2, y2) = (meet8 (x, y) (x2, y2), meet8 (x, y) (x2, y2)) from rfl]
    obtain ⟨W, hW, H⟩ := Hd.fourfour w (.int .i64 x) (.int .i64 y) (.int .i64 x2) (.int .i64 y2) (.int .i64 0) (.int .i64 0) (.int .i64 0) (.int .i64 0) 122 122
    have s0 := H.get (b := w.heap.size) (o := 0) (v := .int .i64 x) (by simp)
    have s1 := H.get (b := w.heap.size) (o := 1) (v := .int .i64 y) (by simp)
    have s2 := H.get (b := w.heap.size) (o := 2) (v := .int .i64 x2) (by simp)
    have s3 := H.get (b := w.heap.size) (o := 3) (v := .int .i64 y2) (by simp)
    have l0 := H.lt (b := w.heap.size) (o := 0) (v := .int .i64 x) (by simp)
    have l1 := H.lt (b := w.heap.size + 1) (o := 0) (v := .int .i64 0) (by simp)
    go_enter Tryd.func170, Tryd.ntmps170
    go_wp2_with fail
    rw [← hW]
    clear hW
    go_cut [5, 6] from 5 (fun t5 t6 wc => ∃ ga gb, t5 = .pointer (some ⟨ga, 0, none⟩) ∧ t6 = .pointer (some ⟨gb, 0, none⟩) ∧ w.heap.size + 1 < ga ∧ w.heap.size + 1 < gb ∧ ga ≠ gb ∧ Hd w [(ga, 0, .int .i64 x), (ga, 1, .int .i64 y), (gb, 0, .int .i64 x2), (gb, 1, .int .i64 y2), (w.heap.size + 1, 0, .int .i64 0), (w.heap.size + 1, 1, .int .i64 0), (w.heap.size + 1, 2, .int .i64 0), (w.heap.size + 1, 3, .int .i64 0), (w.heap.size, 0, .int .i64 x), (w.heap.size, 1, .int .i64 y), (w.heap.size, 2, .int .i64 x2), (w.heap.size, 3, .int .i64 y2)] wc)
    case first =>
      go_region
      all_goals
        go_wp2_with fail
        go_meet
      · exact ⟨_, _, rfl, rfl, by omega, by omega, by omega, (((H.box (.int .i64 x) (.int .i64 y) 24).box (.int .i64 x2) (.int .i64 y2) 24).weak (by simp)).call (Below.refl _ _).drew⟩
      · exact ⟨_, _, rfl, rfl, by omega, by omega, by omega, (((H.box (.int .i64 x2) (.int .i64 y2) 24).box (.int .i64 x) (.int .i64 y) 24).weak (by simp)).call (Below.refl _ _).drew⟩
    case rest =>
      obtain ⟨ga, gb, rfl, rfl, hga, hgb, hne, H'⟩ := hcut
      clear H s0 s1 s2 s3 l0 l1
      have H := H'
      clear H'
      go_wp2_with fail
      obtain ⟨W1, hW1⟩ : ∃ W1, W1 = wc := ⟨_, rfl⟩
      rw [← hW1] at H ⊢
      clear hW1
      have k0 := fun p : Over W1 => H.over (b := ga) (o := 0) (v := .int .i64 x) (by simp) p
      have k1 := fun p : Over W1 => H.over (b := ga) (o := 1) (v := .int .i64 y) (by simp) p
      have k2 := fun p : Over W1 => H.over (b := gb) (o := 0) (v := .int .i64 x2) (by simp) p
      have k3 := fun p : Over W1 => H.over (b := gb) (o := 1) (v := .int .i64 y2) (by simp) p
      have hg := h.below H.below
      refine wp_region_tail_over rfl rfl rfl rfl (by kernel_rfl) (by kernel_rfl) (by kernel_rfl) ?_
      simp only [List.dropLast, tv, List.cons_append, List.nil_append]
      repeat (go_big_quiet_step (first | (go_at_call 120; rename_i p; refine (rangesOf_xy _ _ _ _ _).mono ?_; rintro e' w' ⟨rfl, hb1⟩; exact ⟨rfl, p.next hb1⟩) | (go_at_call 102; rename_i p; refine (iMeet_xy _ _ _ _ _ (hg.over p)).mono ?_; rintro e' w' ⟨rfl, hb1⟩; exact ⟨rfl, p.next hb1⟩)))
      refine wpQuiet_nil ?_
      rintro _ ⟨p, rfl⟩
      replace H := H.call p.below
      clear k0 k1 k2 k3 hg
      obtain ⟨W3, hW3⟩ : ∃ W3, W3 = p.w := ⟨_, rfl⟩
      rw [← hW3] at H ⊢
      clear hW3 p
      have r0 := H.get (b := w.heap.size + 1) (o := 0) (v := .int .i64 0) (by simp)
      have z0 := H.fz (b := w.heap.size + 1) (o := 0) (v := .int .i64 0) (by simp)
      have r1 := H.get (b := w.heap.size + 1) (o := 1) (v := .int .i64 0) (by simp)
      have z1 := H.fz (b := w.heap.size + 1) (o := 1) (v := .int .i64 0) (by simp)
      have r2 := H.get (b := w.heap.size + 1) (o := 2) (v := .int .i64 0) (by simp)
      have z2 := H.fz (b := w.heap.size + 1) (o := 2) (v := .int .i64 0) (by simp)
      have r3 := H.get (b := w.heap.size + 1) (o := 3) (v := .int .i64 0) (by simp)
      have z3 := H.fz (b := w.heap.size + 1) (o := 3) (v := .int .i64 0) (by simp)
      go_wp2_with fail
      refine bodyPost_ret (results_four rfl _ _ (w.heap.size + 1) (.int .i64 (meet8 (x, y) (x2, y2)).1) (.int .i64 (meet8 (x, y) (x2, y2)).2) (.int .i64 (meet8 (x, y) (x2, y2)).1) (.int .i64 (meet8 (x, y) (x2, y2)).2) _ rfl (by simp [go_sem, *]) (by simp [go_sem, *]) (by simp [go_sem, *]) (by simp [go_sem, *]) Tryd.underlying122 rfl (by kernel_rfl)) rfl ?_
      exact ⟨rfl, (((H.below.setCell (by show w.heap.size ≤ w.heap.size + 1; omega) _).setCell (by show w.heap.size ≤ w.heap.size + 1; omega) _).setCell (by show w.heap.size ≤ w.heap.size + 1; omega) _).setCell (by show w.heap.size ≤ w.heap.size + 1; omega) _⟩
  · by_cases c2 : c = 2
    · subst c2
      rw [show raw8 2 (x, y) (x2, y2) = (ne8 (x, y) (x2, y2), ne8 (x2, y2) (x, y)) from rfl]
      obtain ⟨W, hW, H⟩ := Hd.fourfour w (.int .i64 x) (.int .i64 y) (.int .i64 x2) (.int .i64 y2) (.int .i64 0) (.int .i64 0) (.int .i64 0) (.int .i64 0) 122 122
      have s0 := H.get (b := w.heap.size) (o := 0) (v := .int .i64 x) (by simp)
      have s1 := H.get (b := w.heap.size) (o := 1) (v := .int .i64 y) (by simp)
      have s2 := H.get (b := w.heap.size) (o := 2) (v := .int .i64 x2) (by simp)
      have s3 := H.get (b := w.heap.size) (o := 3) (v := .int .i64 y2) (by simp)
      have l0 := H.lt (b := w.heap.size) (o := 0) (v := .int .i64 x) (by simp)
      have l1 := H.lt (b := w.heap.size + 1) (o := 0) (v := .int .i64 0) (by simp)
      go_enter Tryd.func170, Tryd.ntmps170
      go_wp2_with fail
      rw [← hW]
      clear hW
      go_cut [5, 6] from 5 (fun t5 t6 wc => ∃ ga gb, t5 = .pointer (some ⟨ga, 0, none⟩) ∧ t6 = .pointer (some ⟨gb, 0, none⟩) ∧ w.heap.size + 1 < ga ∧ w.heap.size + 1 < gb ∧ ga ≠ gb ∧ Hd w [(ga, 0, .int .i64 x), (ga, 1, .int .i64 y), (gb, 0, .int .i64 x2), (gb, 1, .int .i64 y2), (w.heap.size + 1, 0, .int .i64 0), (w.heap.size + 1, 1, .int .i64 0), (w.heap.size + 1, 2, .int .i64 0), (w.heap.size + 1, 3, .int .i64 0), (w.heap.size, 0, .int .i64 x), (w.heap.size, 1, .int .i64 y), (w.heap.size, 2, .int .i64 x2), (w.heap.size, 3, .int .i64 y2)] wc)
      case first =>
        go_region
        all_goals
          go_wp2_with fail
          go_meet
        · exact ⟨_, _, rfl, rfl, by omega, by omega, by omega, (((H.box (.int .i64 x) (.int .i64 y) 24).box (.int .i64 x2) (.int .i64 y2) 24).weak (by simp)).call (Below.refl _ _).drew⟩
        · exact ⟨_, _, rfl, rfl, by omega, by omega, by omega, (((H.box (.int .i64 x2) (.int .i64 y2) 24).box (.int .i64 x) (.int .i64 y) 24).weak (by simp)).call (Below.refl _ _).drew⟩
      case rest =>
        obtain ⟨ga, gb, rfl, rfl, hga, hgb, hne, H'⟩ := hcut
        clear H s0 s1 s2 s3 l0 l1
        have H := H'
        clear H'
        go_wp2_with fail
        obtain ⟨W1, hW1⟩ : ∃ W1, W1 = wc := ⟨_, rfl⟩
        rw [← hW1] at H ⊢
        clear hW1
        have k0 := fun p : Over W1 => H.over (b := ga) (o := 0) (v := .int .i64 x) (by simp) p
        have k1 := fun p : Over W1 => H.over (b := ga) (o := 1) (v := .int .i64 y) (by simp) p
        have k2 := fun p : Over W1 => H.over (b := gb) (o := 0) (v := .int .i64 x2) (by simp) p
        have k3 := fun p : Over W1 => H.over (b := gb) (o := 1) (v := .int .i64 y2) (by simp) p
        have hg := h.below H.below
        refine wp_region_tail_over rfl rfl rfl rfl (by kernel_rfl) (by kernel_rfl) (by kernel_rfl) ?_
        simp only [List.dropLast, tv, List.cons_append, List.nil_append]
        repeat (go_big_quiet_step (first | (go_at_call 120; rename_i p; refine (rangesOf_xy _ _ _ _ _).mono ?_; rintro e' w' ⟨rfl, hb1⟩; exact ⟨rfl, p.next hb1⟩) | (go_at_call 211; rename_i p; refine (without_xy _ _ _ _ (by assumption) (by assumption) (by assumption) (by assumption) (by assumption) (by assumption) _ (hg.over p)).mono ?_; rintro e' w' ⟨rfl, hb1⟩; exact ⟨rfl, p.next hb1⟩)))
        refine wpQuiet_nil ?_
        rintro _ ⟨p, rfl⟩
        replace H := H.call p.below
        clear k0 k1 k2 k3 hg
        obtain ⟨W3, hW3⟩ : ∃ W3, W3 = p.w := ⟨_, rfl⟩
        rw [← hW3] at H ⊢
        clear hW3 p
        have r0 := H.get (b := w.heap.size + 1) (o := 0) (v := .int .i64 0) (by simp)
        have z0 := H.fz (b := w.heap.size + 1) (o := 0) (v := .int .i64 0) (by simp)
        have r1 := H.get (b := w.heap.size + 1) (o := 1) (v := .int .i64 0) (by simp)
        have z1 := H.fz (b := w.heap.size + 1) (o := 1) (v := .int .i64 0) (by simp)
        have r2 := H.get (b := w.heap.size + 1) (o := 2) (v := .int .i64 0) (by simp)
        have z2 := H.fz (b := w.heap.size + 1) (o := 2) (v := .int .i64 0) (by simp)
        have r3 := H.get (b := w.heap.size + 1) (o := 3) (v := .int .i64 0) (by simp)
        have z3 := H.fz (b := w.heap.size + 1) (o := 3) (v := .int .i64 0) (by simp)
        go_wp2_with fail
        refine bodyPost_ret (results_four rfl _ _ (w.heap.size + 1) (.int .i64 (ne8 (x, y) (x2, y2)).1) (.int .i64 (ne8 (x, y) (x2, y2)).2) (.int .i64 (ne8 (x2, y2) (x, y)).1) (.int .i64 (ne8 (x2, y2) (x, y)).2) _ rfl (by simp [go_sem, *]) (by simp [go_sem, *]) (by simp [go_sem, *]) (by simp [go_sem, *]) Tryd.underlying122 rfl (by kernel_rfl)) rfl ?_
        exact ⟨rfl, (((H.below.setCell (by show w.heap.size ≤ w.heap.size + 1; omega) _).setCell (by show w.heap.size ≤ w.heap.size + 1; omega) _).setCell (by show w.heap.size ≤ w.heap.size + 1; omega) _).setCell (by show w.heap.size ≤ w.heap.size + 1; omega) _⟩
    · by_cases c3 : c = 3
      · subst c3
        rw [show raw8 3 (x, y) (x2, y2) = (cut8 x (min y (y2 - 1)), cut8 (max x2 (x + 1)) y2) from rfl]
        obtain ⟨W, hW, H⟩ := Hd.fourfour w (.int .i64 x) (.int .i64 y) (.int .i64 x2) (.int .i64 y2) (.int .i64 0) (.int .i64 0) (.int .i64 0) (.int .i64 0) 122 122
        have s0 := H.get (b := w.heap.size) (o := 0) (v := .int .i64 x) (by simp)
        have s1 := H.get (b := w.heap.size) (o := 1) (v := .int .i64 y) (by simp)
        have s2 := H.get (b := w.heap.size) (o := 2) (v := .int .i64 x2) (by simp)
        have s3 := H.get (b := w.heap.size) (o := 3) (v := .int .i64 y2) (by simp)
        have l0 := H.lt (b := w.heap.size) (o := 0) (v := .int .i64 x) (by simp)
        have l1 := H.lt (b := w.heap.size + 1) (o := 0) (v := .int .i64 0) (by simp)
        go_enter Tryd.func170, Tryd.ntmps170
        go_wp2_with fail
        rw [← hW]
        clear hW
        go_cut [5, 6] from 5 (fun t5 t6 wc => ∃ ga gb, t5 = .pointer (some ⟨ga, 0, none⟩) ∧ t6 = .pointer (some ⟨gb, 0, none⟩) ∧ w.heap.size + 1 < ga ∧ w.heap.size + 1 < gb ∧ ga ≠ gb ∧ Hd w [(ga, 0, .int .i64 x), (ga, 1, .int .i64 y), (gb, 0, .int .i64 x2), (gb, 1, .int .i64 y2), (w.heap.size + 1, 0, .int .i64 0), (w.heap.size + 1, 1, .int .i64 0), (w.heap.size + 1, 2, .int .i64 0), (w.heap.size + 1, 3, .int .i64 0), (w.heap.size, 0, .int .i64 x), (w.heap.size, 1, .int .i64 y), (w.heap.size, 2, .int .i64 x2), (w.heap.size, 3, .int .i64 y2)] wc)
        case first =>
          go_region
          all_goals
            go_wp2_with fail
            go_meet
          · exact ⟨_, _, rfl, rfl, by omega, by omega, by omega, (((H.box (.int .i64 x) (.int .i64 y) 24).box (.int .i64 x2) (.int .i64 y2) 24).weak (by simp)).call (Below.refl _ _).drew⟩
          · exact ⟨_, _, rfl, rfl, by omega, by omega, by omega, (((H.box (.int .i64 x2) (.int .i64 y2) 24).box (.int .i64 x) (.int .i64 y) 24).weak (by simp)).call (Below.refl _ _).drew⟩
        case rest =>
          obtain ⟨ga, gb, rfl, rfl, hga, hgb, hne, H'⟩ := hcut
          clear H s0 s1 s2 s3 l0 l1
          have H := H'
          clear H'
          have a0 := H.get (b := ga) (o := 0) (v := .int .i64 x) (by simp)
          have a1 := H.get (b := ga) (o := 1) (v := .int .i64 y) (by simp)
          have b0 := H.get (b := gb) (o := 0) (v := .int .i64 x2) (by simp)
          have b1 := H.get (b := gb) (o := 1) (v := .int .i64 y2) (by simp)
          go_wp2_with (go_at_call 212; refine (ascending_xy x y x2 y2 1 (by omega) hx1 hx2 hx3 hy1 hy2 hy3 _ (h.below H.below)).mono ?_; rintro e w3 ⟨rfl, hb⟩; replace H := H.call hb; have r0 := H.get (b := w.heap.size + 1) (o := 0) (v := .int .i64 0) (by simp); have z0 := H.fz (b := w.heap.size + 1) (o := 0) (v := .int .i64 0) (by simp); have r1 := H.get (b := w.heap.size + 1) (o := 1) (v := .int .i64 0) (by simp); have z1 := H.fz (b := w.heap.size + 1) (o := 1) (v := .int .i64 0) (by simp); have r2 := H.get (b := w.heap.size + 1) (o := 2) (v := .int .i64 0) (by simp); have z2 := H.fz (b := w.heap.size + 1) (o := 2) (v := .int .i64 0) (by simp); have r3 := H.get (b := w.heap.size + 1) (o := 3) (v := .int .i64 0) (by simp); have z3 := H.fz (b := w.heap.size + 1) (o := 3) (v := .int .i64 0) (by simp))
          refine bodyPost_ret (results_four rfl _ _ (w.heap.size + 1) (.int .i64 (cut8 x (min y (y2 - 1))).1) (.int .i64 (cut8 x (min y (y2 - 1))).2) (.int .i64 (cut8 (max x2 (x + 1)) y2).1) (.int .i64 (cut8 (max x2 (x + 1)) y2).2) _ rfl (by simp [go_sem, *]) (by simp [go_sem, *]) (by simp [go_sem, *]) (by simp [go_sem, *]) Tryd.underlying122 rfl (by kernel_rfl)) rfl ?_
          exact ⟨rfl, (((H.below.setCell (by show w.heap.size ≤ w.heap.size + 1; omega) _).setCell (by show w.heap.size ≤ w.heap.size + 1; omega) _).setCell (by show w.heap.size ≤ w.heap.size + 1; omega) _).setCell (by show w.heap.size ≤ w.heap.size + 1; omega) _⟩
      · by_cases c4 : c = 4
        · subst c4
          rw [show raw8 4 (x, y) (x2, y2) = (cut8 x (min y (y2 - 0)), cut8 (max x2 (x + 0)) y2) by rw [Int.sub_zero, Int.add_zero]; rfl]
          obtain ⟨W, hW, H⟩ := Hd.fourfour w (.int .i64 x) (.int .i64 y) (.int .i64 x2) (.int .i64 y2) (.int .i64 0) (.int .i64 0) (.int .i64 0) (.int .i64 0) 122 122
          have s0 := H.get (b := w.heap.size) (o := 0) (v := .int .i64 x) (by simp)
          have s1 := H.get (b := w.heap.size) (o := 1) (v := .int .i64 y) (by simp)
          have s2 := H.get (b := w.heap.size) (o := 2) (v := .int .i64 x2) (by simp)
          have s3 := H.get (b := w.heap.size) (o := 3) (v := .int .i64 y2) (by simp)
          have l0 := H.lt (b := w.heap.size) (o := 0) (v := .int .i64 x) (by simp)
          have l1 := H.lt (b := w.heap.size + 1) (o := 0) (v := .int .i64 0) (by simp)
          go_enter Tryd.func170, Tryd.ntmps170
          go_wp2_with fail
          rw [← hW]
          clear hW
          go_cut [5, 6] from 5 (fun t5 t6 wc => ∃ ga gb, t5 = .pointer (some ⟨ga, 0, none⟩) ∧ t6 = .pointer (some ⟨gb, 0, none⟩) ∧ w.heap.size + 1 < ga ∧ w.heap.size + 1 < gb ∧ ga ≠ gb ∧ Hd w [(ga, 0, .int .i64 x), (ga, 1, .int .i64 y), (gb, 0, .int .i64 x2), (gb, 1, .int .i64 y2), (w.heap.size + 1, 0, .int .i64 0), (w.heap.size + 1, 1, .int .i64 0), (w.heap.size + 1, 2, .int .i64 0), (w.heap.size + 1, 3, .int .i64 0), (w.heap.size, 0, .int .i64 x), (w.heap.size, 1, .int .i64 y), (w.heap.size, 2, .int .i64 x2), (w.heap.size, 3, .int .i64 y2)] wc)
          case first =>
            go_region
            all_goals
              go_wp2_with fail
              go_meet
            · exact ⟨_, _, rfl, rfl, by omega, by omega, by omega, (((H.box (.int .i64 x) (.int .i64 y) 24).box (.int .i64 x2) (.int .i64 y2) 24).weak (by simp)).call (Below.refl _ _).drew⟩
            · exact ⟨_, _, rfl, rfl, by omega, by omega, by omega, (((H.box (.int .i64 x2) (.int .i64 y2) 24).box (.int .i64 x) (.int .i64 y) 24).weak (by simp)).call (Below.refl _ _).drew⟩
          case rest =>
            obtain ⟨ga, gb, rfl, rfl, hga, hgb, hne, H'⟩ := hcut
            clear H s0 s1 s2 s3 l0 l1
            have H := H'
            clear H'
            have a0 := H.get (b := ga) (o := 0) (v := .int .i64 x) (by simp)
            have a1 := H.get (b := ga) (o := 1) (v := .int .i64 y) (by simp)
            have b0 := H.get (b := gb) (o := 0) (v := .int .i64 x2) (by simp)
            have b1 := H.get (b := gb) (o := 1) (v := .int .i64 y2) (by simp)
            go_wp2_with (go_at_call 212; refine (ascending_xy x y x2 y2 0 (by omega) hx1 hx2 hx3 hy1 hy2 hy3 _ (h.below H.below)).mono ?_; rintro e w3 ⟨rfl, hb⟩; replace H := H.call hb; have r0 := H.get (b := w.heap.size + 1) (o := 0) (v := .int .i64 0) (by simp); have z0 := H.fz (b := w.heap.size + 1) (o := 0) (v := .int .i64 0) (by simp); have r1 := H.get (b := w.heap.size + 1) (o := 1) (v := .int .i64 0) (by simp); have z1 := H.fz (b := w.heap.size + 1) (o := 1) (v := .int .i64 0) (by simp); have r2 := H.get (b := w.heap.size + 1) (o := 2) (v := .int .i64 0) (by simp); have z2 := H.fz (b := w.heap.size + 1) (o := 2) (v := .int .i64 0) (by simp); have r3 := H.get (b := w.heap.size + 1) (o := 3) (v := .int .i64 0) (by simp); have z3 := H.fz (b := w.heap.size + 1) (o := 3) (v := .int .i64 0) (by simp))
            refine bodyPost_ret (results_four rfl _ _ (w.heap.size + 1) (.int .i64 (cut8 x (min y (y2 - 0))).1) (.int .i64 (cut8 x (min y (y2 - 0))).2) (.int .i64 (cut8 (max x2 (x + 0)) y2).1) (.int .i64 (cut8 (max x2 (x + 0)) y2).2) _ rfl (by simp [go_sem, *]) (by simp [go_sem, *]) (by simp [go_sem, *]) (by simp [go_sem, *]) Tryd.underlying122 rfl (by kernel_rfl)) rfl ?_
            exact ⟨rfl, (((H.below.setCell (by show w.heap.size ≤ w.heap.size + 1; omega) _).setCell (by show w.heap.size ≤ w.heap.size + 1; omega) _).setCell (by show w.heap.size ≤ w.heap.size + 1; omega) _).setCell (by show w.heap.size ≤ w.heap.size + 1; omega) _⟩
        · skip
          rw [show raw8 c (x, y) (x2, y2) = (none8, none8) by unfold raw8; rw [if_neg c1, if_neg c2, if_neg c3, if_neg c4, if_neg hc.1, if_neg hc.2]]
          obtain ⟨W, hW, H⟩ := Hd.fourfour w (.int .i64 x) (.int .i64 y) (.int .i64 x2) (.int .i64 y2) (.int .i64 0) (.int .i64 0) (.int .i64 0) (.int .i64 0) 122 122
          have s0 := H.get (b := w.heap.size) (o := 0) (v := .int .i64 x) (by simp)
          have s1 := H.get (b := w.heap.size) (o := 1) (v := .int .i64 y) (by simp)
          have s2 := H.get (b := w.heap.size) (o := 2) (v := .int .i64 x2) (by simp)
          have s3 := H.get (b := w.heap.size) (o := 3) (v := .int .i64 y2) (by simp)
          have l0 := H.lt (b := w.heap.size) (o := 0) (v := .int .i64 x) (by simp)
          have l1 := H.lt (b := w.heap.size + 1) (o := 0) (v := .int .i64 0) (by simp)
          go_enter Tryd.func170, Tryd.ntmps170
          go_wp2_with fail
          rw [← hW]
          clear hW
          go_cut [5, 6] from 5 (fun t5 t6 wc => ∃ ga gb, t5 = .pointer (some ⟨ga, 0, none⟩) ∧ t6 = .pointer (some ⟨gb, 0, none⟩) ∧ w.heap.size + 1 < ga ∧ w.heap.size + 1 < gb ∧ ga ≠ gb ∧ Hd w [(ga, 0, .int .i64 x), (ga, 1, .int .i64 y), (gb, 0, .int .i64 x2), (gb, 1, .int .i64 y2), (w.heap.size + 1, 0, .int .i64 0), (w.heap.size + 1, 1, .int .i64 0), (w.heap.size + 1, 2, .int .i64 0), (w.heap.size + 1, 3, .int .i64 0), (w.heap.size, 0, .int .i64 x), (w.heap.size, 1, .int .i64 y), (w.heap.size, 2, .int .i64 x2), (w.heap.size, 3, .int .i64 y2)] wc)
          case first =>
            go_region
            all_goals
              go_wp2_with fail
              go_meet
            · exact ⟨_, _, rfl, rfl, by omega, by omega, by omega, (((H.box (.int .i64 x) (.int .i64 y) 24).box (.int .i64 x2) (.int .i64 y2) 24).weak (by simp)).call (Below.refl _ _).drew⟩
            · exact ⟨_, _, rfl, rfl, by omega, by omega, by omega, (((H.box (.int .i64 x2) (.int .i64 y2) 24).box (.int .i64 x) (.int .i64 y) 24).weak (by simp)).call (Below.refl _ _).drew⟩
          case rest =>
            obtain ⟨ga, gb, rfl, rfl, hga, hgb, hne, H'⟩ := hcut
            clear H s0 s1 s2 s3 l0 l1
            have H := H'
            clear H'
            obtain ⟨gs, g0, g1, gz⟩ := (h.below H.below).none
            have e1 : (c == 1) = false := by simp; omega
            have e2 : (c == 2) = false := by simp; omega
            have e3 : (c == 3) = false := by simp; omega
            have e4 : (c == 4) = false := by simp; omega
            have e5 : (c == 5) = false := by simp; omega
            have e6 : (c == 6) = false := by simp; omega
            go_wp2_with (go_at_call 120; refine (rangesOf_xy _ _ _ _ _).mono ?_; rintro e w3 ⟨rfl, hb⟩; replace H := H.call hb; have r0 := H.get (b := w.heap.size + 1) (o := 0) (v := .int .i64 0) (by simp); have z0 := H.fz (b := w.heap.size + 1) (o := 0) (v := .int .i64 0) (by simp); have r1 := H.get (b := w.heap.size + 1) (o := 1) (v := .int .i64 0) (by simp); have z1 := H.fz (b := w.heap.size + 1) (o := 1) (v := .int .i64 0) (by simp); have r2 := H.get (b := w.heap.size + 1) (o := 2) (v := .int .i64 0) (by simp); have z2 := H.fz (b := w.heap.size + 1) (o := 2) (v := .int .i64 0) (by simp); have r3 := H.get (b := w.heap.size + 1) (o := 3) (v := .int .i64 0) (by simp); have z3 := H.fz (b := w.heap.size + 1) (o := 3) (v := .int .i64 0) (by simp))
            refine bodyPost_ret (results_four rfl _ _ (w.heap.size + 1) (.int .i64 1) (.int .i64 0) (.int .i64 1) (.int .i64 0) _ rfl (by simp [go_sem, *]) (by simp [go_sem, *]) (by simp [go_sem, *]) (by simp [go_sem, *]) Tryd.underlying122 rfl (by kernel_rfl)) rfl ?_
            exact ⟨rfl, (((H.below.setCell (by show w.heap.size ≤ w.heap.size + 1; omega) _).setCell (by show w.heap.size ≤ w.heap.size + 1; omega) _).setCell (by show w.heap.size ≤ w.heap.size + 1; omega) _).setCell (by show w.heap.size ≤ w.heap.size + 1; omega) _⟩
end Go.Proofs.YthbbgkpkijlclaaDoor.num
