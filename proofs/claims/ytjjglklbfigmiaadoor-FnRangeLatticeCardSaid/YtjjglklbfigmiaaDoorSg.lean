/-
  The model's RangeWiden.
-/
import Derived.Test.YtjjglklbfigmiaaDoorSf
namespace Go.Proofs.YtjjglklbfigmiaaDoor.num
open Go.ChangeShapes Go.WideShapes Go.ChangeAt Go.RowKit
set_option linter.unusedVariables false


set_option maxRecDepth 100000 in
set_option maxHeartbeats 4000000 in
theorem RangeWiden_xy {base : Nat} {ok : Int → Prop} (x y x2 y2 : Int) (l : List Int) (sv : Value) (w : World) (hs : rws.Seq 1 rws.ci ok base w sv l) :
    Calls Tryd.prog 30 #[.agg #[.int .i64 x, .int .i64 y], .agg #[.int .i64 x2, .int .i64 y2], sv] w fun e w' => e = .returned (.agg #[.int .i64 (widen8 (x, y) (x2, y2) l).1, .int .i64 (widen8 (x, y) (x2, y2) l).2]) ∧ Below w.heap.size w w' := by
  obtain ⟨W, hW, H⟩ := Hd.three w (.int .i64 x) (.int .i64 y) (.int .i64 x2) (.int .i64 y2) (.int .i64 0) (.int .i64 0) 25 25 25
  have c0 := H.get (b := w.heap.size) (o := 0) (v := .int .i64 x) (by simp)
  have c1 := H.get (b := w.heap.size) (o := 1) (v := .int .i64 y) (by simp)
  have c2 := H.get (b := w.heap.size + 1) (o := 0) (v := .int .i64 x2) (by simp)
  have c3 := H.get (b := w.heap.size + 1) (o := 1) (v := .int .i64 y2) (by simp)
  have HJ := fun w => RangeJoin_xy x y x2 y2 w
  have hw : widen8 (x, y) (x2, y2) l = if rOk (x, y) = false ∨ rOk (x2, y2) = false ∨ isN (x, y) = true ∨ isN (x2, y2) = true then ((join8 (x, y) (x2, y2)).1, (join8 (x, y) (x2, y2)).2)
      else (if (join8 (x, y) (x2, y2)).1 < x then down8 l (join8 (x, y) (x2, y2)).1 else (join8 (x, y) (x2, y2)).1, if y < (join8 (x, y) (x2, y2)).2 then up8 l (join8 (x, y) (x2, y2)).2 else (join8 (x, y) (x2, y2)).2) := rfl
  rw [hw]
  clear hw
  generalize (join8 (x, y) (x2, y2)).1 = p0 at *
  generalize (join8 (x, y) (x2, y2)).2 = p1 at *
  cases h : rOk (x, y)
  · have h2 : True := trivial
    rw [if_pos (by simp)]
    go_enter Tryd.func30, Tryd.ntmps30
    go_wp2_with fail
    rw [← hW]
    go_wp2_with (go_at_call 25; refine (HJ _).mono ?_; rintro e w' ⟨rfl, hb⟩; replace H := H.call hb)
    have hseq := (hs.below ((H.below).mono (Nat.le_refl _))).below ((Below.refl w'.heap.size w').alloc (Nat.le_refl _) (.cells #[.int .i64 p0, .int .i64 p1] 25))
    have hlt2 : w.heap.size + 2 < w'.heap.size := (H.cells (w.heap.size + 2) 0 (.int .i64 0) (by simp)).1
    have H2 := H.box (.int .i64 p0) (.int .i64 p1) 25
    generalize w'.alloc (.cells #[.int .i64 p0, .int .i64 p1] 25) = W2 at *
    generalize w'.heap.size = g at *
    clear H
    have H := H2
    clear H2 c0 c1 c2 c3
    have k0 := fun p : Over W2 => H.over (b := w.heap.size) (o := 0) (v := .int .i64 x) (by simp) p
    have k1 := fun p : Over W2 => H.over (b := w.heap.size) (o := 1) (v := .int .i64 y) (by simp) p
    have k2 := fun p : Over W2 => H.over (b := w.heap.size + 1) (o := 0) (v := .int .i64 x2) (by simp) p
    have k3 := fun p : Over W2 => H.over (b := w.heap.size + 1) (o := 1) (v := .int .i64 y2) (by simp) p
    refine wp_region_over (by kernel_rfl) (by kernel_rfl) ?_
    repeat (go_big_quiet_step (first | (go_at_call 18; rename_i p; refine (RangeOk_xy _ _ _).mono ?_; rintro e' w' ⟨rfl, hb1⟩; exact ⟨by rw [h], p.next hb1⟩) | (go_at_call 55; rename_i p; refine (l8None_any _).mono ?_; rintro e' w' ⟨rfl, hb1⟩; exact ⟨rfl, p.next hb1⟩)))
    refine wpQuiet_nil ?_
    rintro _ ⟨p, rfl⟩
    replace H := H.call p.below
    clear k0 k1 k2 k3
    generalize p.w = w3 at *
    have c0 := H.get (b := g) (o := 0) (v := .int .i64 p0) (by simp)
    have c1 := H.get (b := g) (o := 1) (v := .int .i64 p1) (by simp)
    have c2 := H.get (b := w.heap.size + 2) (o := 0) (v := .int .i64 0) (by simp)
    have c3 := H.get (b := w.heap.size + 2) (o := 1) (v := .int .i64 0) (by simp)
    have z0 := H.fz (b := w.heap.size + 2) (o := 0) (v := .int .i64 0) (by simp)
    have z1 := H.fz (b := w.heap.size + 2) (o := 1) (v := .int .i64 0) (by simp)
    go_wp2
    obtain ⟨f0, f1, fb⟩ := H.fill (b := w.heap.size + 2) (x := .int .i64 0) (y := .int .i64 0) (by simp) (by simp) (by omega) (.int .i64 p0) (.int .i64 p1)
    refine bodyPost_ret (results_two rfl _ _ (w.heap.size + 2) (.int .i64 p0) (.int .i64 p1) _ rfl f0 f1 Tryd.underlying25 rfl (by kernel_rfl)) rfl ?_
    exact ⟨rfl, fb⟩
  · cases h2 : rOk (x2, y2)
    · skip
      rw [if_pos (by simp)]
      go_enter Tryd.func30, Tryd.ntmps30
      go_wp2_with fail
      rw [← hW]
      go_wp2_with (go_at_call 25; refine (HJ _).mono ?_; rintro e w' ⟨rfl, hb⟩; replace H := H.call hb)
      have hseq := (hs.below ((H.below).mono (Nat.le_refl _))).below ((Below.refl w'.heap.size w').alloc (Nat.le_refl _) (.cells #[.int .i64 p0, .int .i64 p1] 25))
      have hlt2 : w.heap.size + 2 < w'.heap.size := (H.cells (w.heap.size + 2) 0 (.int .i64 0) (by simp)).1
      have H2 := H.box (.int .i64 p0) (.int .i64 p1) 25
      generalize w'.alloc (.cells #[.int .i64 p0, .int .i64 p1] 25) = W2 at *
      generalize w'.heap.size = g at *
      clear H
      have H := H2
      clear H2 c0 c1 c2 c3
      have k0 := fun p : Over W2 => H.over (b := w.heap.size) (o := 0) (v := .int .i64 x) (by simp) p
      have k1 := fun p : Over W2 => H.over (b := w.heap.size) (o := 1) (v := .int .i64 y) (by simp) p
      have k2 := fun p : Over W2 => H.over (b := w.heap.size + 1) (o := 0) (v := .int .i64 x2) (by simp) p
      have k3 := fun p : Over W2 => H.over (b := w.heap.size + 1) (o := 1) (v := .int .i64 y2) (by simp) p
      refine wp_region_over (by kernel_rfl) (by kernel_rfl) ?_
      repeat (go_big_quiet_step (first | (go_at_call 18; rename_i p; refine (RangeOk_xy _ _ _).mono ?_; rintro e' w' ⟨rfl, hb1⟩; exact ⟨by first | rw [h] | rw [h2], p.next hb1⟩) | (go_at_call 55; rename_i p; refine (l8None_any _).mono ?_; rintro e' w' ⟨rfl, hb1⟩; exact ⟨rfl, p.next hb1⟩)))
      refine wpQuiet_nil ?_
      rintro _ ⟨p, rfl⟩
      replace H := H.call p.below
      clear k0 k1 k2 k3
      generalize p.w = w3 at *
      have c0 := H.get (b := g) (o := 0) (v := .int .i64 p0) (by simp)
      have c1 := H.get (b := g) (o := 1) (v := .int .i64 p1) (by simp)
      have c2 := H.get (b := w.heap.size + 2) (o := 0) (v := .int .i64 0) (by simp)
      have c3 := H.get (b := w.heap.size + 2) (o := 1) (v := .int .i64 0) (by simp)
      have z0 := H.fz (b := w.heap.size + 2) (o := 0) (v := .int .i64 0) (by simp)
      have z1 := H.fz (b := w.heap.size + 2) (o := 1) (v := .int .i64 0) (by simp)
      go_wp2
      obtain ⟨f0, f1, fb⟩ := H.fill (b := w.heap.size + 2) (x := .int .i64 0) (y := .int .i64 0) (by simp) (by simp) (by omega) (.int .i64 p0) (.int .i64 p1)
      refine bodyPost_ret (results_two rfl _ _ (w.heap.size + 2) (.int .i64 p0) (.int .i64 p1) _ rfl f0 f1 Tryd.underlying25 rfl (by kernel_rfl)) rfl ?_
      exact ⟨rfl, fb⟩
    · cases n : isN (x, y)
      · have hq := @some_if x y n
        cases n2 : isN (x2, y2)
        · have hq2 := @some_if x2 y2 n2
          rw [if_neg (by simp)]
          have hD := fun w (hs : rws.Seq 1 rws.ci ok base w sv l) => l8Down_any l p0 sv w hs
          have hU := fun w (hs : rws.Seq 1 rws.ci ok base w sv l) => l8Up_any l p1 sv w hs
          generalize down8 l p0 = dn at *
          generalize up8 l p1 = un at *
          by_cases qa : p0 < x
          · by_cases qb : y < p1
            · rw [if_pos qa, if_pos qb]
              go_enter Tryd.func30, Tryd.ntmps30
              go_wp2_with fail
              rw [← hW]
              go_wp2_with (go_at_call 25; refine (HJ _).mono ?_; rintro e w' ⟨rfl, hb⟩; replace H := H.call hb)
              have hseq := (hs.below ((H.below).mono (Nat.le_refl _))).below ((Below.refl w'.heap.size w').alloc (Nat.le_refl _) (.cells #[.int .i64 p0, .int .i64 p1] 25))
              have hlt2 : w.heap.size + 2 < w'.heap.size := (H.cells (w.heap.size + 2) 0 (.int .i64 0) (by simp)).1
              have H2 := H.box (.int .i64 p0) (.int .i64 p1) 25
              generalize w'.alloc (.cells #[.int .i64 p0, .int .i64 p1] 25) = W2 at *
              generalize w'.heap.size = g at *
              clear H
              have H := H2
              clear H2 c0 c1 c2 c3
              have k0 := fun p : Over W2 => H.over (b := w.heap.size) (o := 0) (v := .int .i64 x) (by simp) p
              have k1 := fun p : Over W2 => H.over (b := w.heap.size) (o := 1) (v := .int .i64 y) (by simp) p
              have k2 := fun p : Over W2 => H.over (b := w.heap.size + 1) (o := 0) (v := .int .i64 x2) (by simp) p
              have k3 := fun p : Over W2 => H.over (b := w.heap.size + 1) (o := 1) (v := .int .i64 y2) (by simp) p
              refine wp_region_over (by kernel_rfl) (by kernel_rfl) ?_
              repeat (go_big_quiet_step (first | (go_at_call 18; rename_i p; refine (RangeOk_xy _ _ _).mono ?_; rintro e' w' ⟨rfl, hb1⟩; exact ⟨by first | rw [h] | rw [h2], p.next hb1⟩) | (go_at_call 55; rename_i p; refine (l8None_any _).mono ?_; rintro e' w' ⟨rfl, hb1⟩; exact ⟨rfl, p.next hb1⟩)))
              refine wpQuiet_nil ?_
              rintro _ ⟨p, rfl⟩
              replace H := H.call p.below
              clear k0 k1 k2 k3
              generalize p.w = w3 at *
              have c0 := H.get (b := g) (o := 0) (v := .int .i64 p0) (by simp)
              have c1 := H.get (b := g) (o := 1) (v := .int .i64 p1) (by simp)
              have c2 := H.get (b := w.heap.size) (o := 0) (v := .int .i64 x) (by simp)
              have c3 := H.get (b := w.heap.size) (o := 1) (v := .int .i64 y) (by simp)
              have c4 := H.get (b := w.heap.size + 2) (o := 0) (v := .int .i64 0) (by simp)
              have c5 := H.get (b := w.heap.size + 2) (o := 1) (v := .int .i64 0) (by simp)
              have z0 := H.fz (b := g) (o := 0) (v := .int .i64 p0) (by simp)
              have z1 := H.fz (b := g) (o := 1) (v := .int .i64 p1) (by simp)
              have z2 := H.fz (b := w.heap.size + 2) (o := 0) (v := .int .i64 0) (by simp)
              have z3 := H.fz (b := w.heap.size + 2) (o := 1) (v := .int .i64 0) (by simp)
              have g0 : ¬ g = w.heap.size + 2 := by omega
              have g1 : ¬ w.heap.size + 2 = g := by omega
              go_wp2_with (first | (go_at_call 65; refine (hD _ (hs.below H.below)).mono ?_; rintro e w' ⟨rfl, rfl⟩) | (go_at_call 66; refine (hU _ (by first | exact hs.below H.below | exact hs.below (H.below.setCell (by show w.heap.size ≤ g; omega) _))).mono ?_; rintro e w' ⟨rfl, rfl⟩))
              refine bodyPost_ret (results_two rfl _ _ (w.heap.size + 2) (.int .i64 dn) (.int .i64 un) _ rfl (by simp [go_sem, *]) (by simp [go_sem, *]) Tryd.underlying25 rfl (by kernel_rfl)) rfl ?_
              exact ⟨rfl, ((((H.below.setCell (by show w.heap.size ≤ g; omega) _).setCell (by show w.heap.size ≤ g; omega) _).setCell (by show w.heap.size ≤ w.heap.size + 2; omega) _).setCell (by show w.heap.size ≤ w.heap.size + 2; omega) _)⟩
            · rw [if_pos qa, if_neg qb]
              go_enter Tryd.func30, Tryd.ntmps30
              go_wp2_with fail
              rw [← hW]
              go_wp2_with (go_at_call 25; refine (HJ _).mono ?_; rintro e w' ⟨rfl, hb⟩; replace H := H.call hb)
              have hseq := (hs.below ((H.below).mono (Nat.le_refl _))).below ((Below.refl w'.heap.size w').alloc (Nat.le_refl _) (.cells #[.int .i64 p0, .int .i64 p1] 25))
              have hlt2 : w.heap.size + 2 < w'.heap.size := (H.cells (w.heap.size + 2) 0 (.int .i64 0) (by simp)).1
              have H2 := H.box (.int .i64 p0) (.int .i64 p1) 25
              generalize w'.alloc (.cells #[.int .i64 p0, .int .i64 p1] 25) = W2 at *
              generalize w'.heap.size = g at *
              clear H
              have H := H2
              clear H2 c0 c1 c2 c3
              have k0 := fun p : Over W2 => H.over (b := w.heap.size) (o := 0) (v := .int .i64 x) (by simp) p
              have k1 := fun p : Over W2 => H.over (b := w.heap.size) (o := 1) (v := .int .i64 y) (by simp) p
              have k2 := fun p : Over W2 => H.over (b := w.heap.size + 1) (o := 0) (v := .int .i64 x2) (by simp) p
              have k3 := fun p : Over W2 => H.over (b := w.heap.size + 1) (o := 1) (v := .int .i64 y2) (by simp) p
              refine wp_region_over (by kernel_rfl) (by kernel_rfl) ?_
              repeat (go_big_quiet_step (first | (go_at_call 18; rename_i p; refine (RangeOk_xy _ _ _).mono ?_; rintro e' w' ⟨rfl, hb1⟩; exact ⟨by first | rw [h] | rw [h2], p.next hb1⟩) | (go_at_call 55; rename_i p; refine (l8None_any _).mono ?_; rintro e' w' ⟨rfl, hb1⟩; exact ⟨rfl, p.next hb1⟩)))
              refine wpQuiet_nil ?_
              rintro _ ⟨p, rfl⟩
              replace H := H.call p.below
              clear k0 k1 k2 k3
              generalize p.w = w3 at *
              have c0 := H.get (b := g) (o := 0) (v := .int .i64 p0) (by simp)
              have c1 := H.get (b := g) (o := 1) (v := .int .i64 p1) (by simp)
              have c2 := H.get (b := w.heap.size) (o := 0) (v := .int .i64 x) (by simp)
              have c3 := H.get (b := w.heap.size) (o := 1) (v := .int .i64 y) (by simp)
              have c4 := H.get (b := w.heap.size + 2) (o := 0) (v := .int .i64 0) (by simp)
              have c5 := H.get (b := w.heap.size + 2) (o := 1) (v := .int .i64 0) (by simp)
              have z0 := H.fz (b := g) (o := 0) (v := .int .i64 p0) (by simp)
              have z1 := H.fz (b := g) (o := 1) (v := .int .i64 p1) (by simp)
              have z2 := H.fz (b := w.heap.size + 2) (o := 0) (v := .int .i64 0) (by simp)
              have z3 := H.fz (b := w.heap.size + 2) (o := 1) (v := .int .i64 0) (by simp)
              have g0 : ¬ g = w.heap.size + 2 := by omega
              have g1 : ¬ w.heap.size + 2 = g := by omega
              go_wp2_with (first | (go_at_call 65; refine (hD _ (hs.below H.below)).mono ?_; rintro e w' ⟨rfl, rfl⟩) | (go_at_call 66; refine (hU _ (by first | exact hs.below H.below | exact hs.below (H.below.setCell (by show w.heap.size ≤ g; omega) _))).mono ?_; rintro e w' ⟨rfl, rfl⟩))
              refine bodyPost_ret (results_two rfl _ _ (w.heap.size + 2) (.int .i64 dn) (.int .i64 p1) _ rfl (by simp [go_sem, *]) (by simp [go_sem, *]) Tryd.underlying25 rfl (by kernel_rfl)) rfl ?_
              exact ⟨rfl, (((H.below.setCell (by show w.heap.size ≤ g; omega) _).setCell (by show w.heap.size ≤ w.heap.size + 2; omega) _).setCell (by show w.heap.size ≤ w.heap.size + 2; omega) _)⟩
          · by_cases qb : y < p1
            · rw [if_neg qa, if_pos qb]
              go_enter Tryd.func30, Tryd.ntmps30
              go_wp2_with fail
              rw [← hW]
              go_wp2_with (go_at_call 25; refine (HJ _).mono ?_; rintro e w' ⟨rfl, hb⟩; replace H := H.call hb)
              have hseq := (hs.below ((H.below).mono (Nat.le_refl _))).below ((Below.refl w'.heap.size w').alloc (Nat.le_refl _) (.cells #[.int .i64 p0, .int .i64 p1] 25))
              have hlt2 : w.heap.size + 2 < w'.heap.size := (H.cells (w.heap.size + 2) 0 (.int .i64 0) (by simp)).1
              have H2 := H.box (.int .i64 p0) (.int .i64 p1) 25
              generalize w'.alloc (.cells #[.int .i64 p0, .int .i64 p1] 25) = W2 at *
              generalize w'.heap.size = g at *
              clear H
              have H := H2
              clear H2 c0 c1 c2 c3
              have k0 := fun p : Over W2 => H.over (b := w.heap.size) (o := 0) (v := .int .i64 x) (by simp) p
              have k1 := fun p : Over W2 => H.over (b := w.heap.size) (o := 1) (v := .int .i64 y) (by simp) p
              have k2 := fun p : Over W2 => H.over (b := w.heap.size + 1) (o := 0) (v := .int .i64 x2) (by simp) p
              have k3 := fun p : Over W2 => H.over (b := w.heap.size + 1) (o := 1) (v := .int .i64 y2) (by simp) p
              refine wp_region_over (by kernel_rfl) (by kernel_rfl) ?_
              repeat (go_big_quiet_step (first | (go_at_call 18; rename_i p; refine (RangeOk_xy _ _ _).mono ?_; rintro e' w' ⟨rfl, hb1⟩; exact ⟨by first | rw [h] | rw [h2], p.next hb1⟩) | (go_at_call 55; rename_i p; refine (l8None_any _).mono ?_; rintro e' w' ⟨rfl, hb1⟩; exact ⟨rfl, p.next hb1⟩)))
              refine wpQuiet_nil ?_
              rintro _ ⟨p, rfl⟩
              replace H := H.call p.below
              clear k0 k1 k2 k3
              generalize p.w = w3 at *
              have c0 := H.get (b := g) (o := 0) (v := .int .i64 p0) (by simp)
              have c1 := H.get (b := g) (o := 1) (v := .int .i64 p1) (by simp)
              have c2 := H.get (b := w.heap.size) (o := 0) (v := .int .i64 x) (by simp)
              have c3 := H.get (b := w.heap.size) (o := 1) (v := .int .i64 y) (by simp)
              have c4 := H.get (b := w.heap.size + 2) (o := 0) (v := .int .i64 0) (by simp)
              have c5 := H.get (b := w.heap.size + 2) (o := 1) (v := .int .i64 0) (by simp)
              have z0 := H.fz (b := g) (o := 0) (v := .int .i64 p0) (by simp)
              have z1 := H.fz (b := g) (o := 1) (v := .int .i64 p1) (by simp)
              have z2 := H.fz (b := w.heap.size + 2) (o := 0) (v := .int .i64 0) (by simp)
              have z3 := H.fz (b := w.heap.size + 2) (o := 1) (v := .int .i64 0) (by simp)
              have g0 : ¬ g = w.heap.size + 2 := by omega
              have g1 : ¬ w.heap.size + 2 = g := by omega
              go_wp2_with (first | (go_at_call 65; refine (hD _ (hs.below H.below)).mono ?_; rintro e w' ⟨rfl, rfl⟩) | (go_at_call 66; refine (hU _ (by first | exact hs.below H.below | exact hs.below (H.below.setCell (by show w.heap.size ≤ g; omega) _))).mono ?_; rintro e w' ⟨rfl, rfl⟩))
              refine bodyPost_ret (results_two rfl _ _ (w.heap.size + 2) (.int .i64 p0) (.int .i64 un) _ rfl (by simp [go_sem, *]) (by simp [go_sem, *]) Tryd.underlying25 rfl (by kernel_rfl)) rfl ?_
              exact ⟨rfl, (((H.below.setCell (by show w.heap.size ≤ g; omega) _).setCell (by show w.heap.size ≤ w.heap.size + 2; omega) _).setCell (by show w.heap.size ≤ w.heap.size + 2; omega) _)⟩
            · rw [if_neg qa, if_neg qb]
              go_enter Tryd.func30, Tryd.ntmps30
              go_wp2_with fail
              rw [← hW]
              go_wp2_with (go_at_call 25; refine (HJ _).mono ?_; rintro e w' ⟨rfl, hb⟩; replace H := H.call hb)
              have hseq := (hs.below ((H.below).mono (Nat.le_refl _))).below ((Below.refl w'.heap.size w').alloc (Nat.le_refl _) (.cells #[.int .i64 p0, .int .i64 p1] 25))
              have hlt2 : w.heap.size + 2 < w'.heap.size := (H.cells (w.heap.size + 2) 0 (.int .i64 0) (by simp)).1
              have H2 := H.box (.int .i64 p0) (.int .i64 p1) 25
              generalize w'.alloc (.cells #[.int .i64 p0, .int .i64 p1] 25) = W2 at *
              generalize w'.heap.size = g at *
              clear H
              have H := H2
              clear H2 c0 c1 c2 c3
              have k0 := fun p : Over W2 => H.over (b := w.heap.size) (o := 0) (v := .int .i64 x) (by simp) p
              have k1 := fun p : Over W2 => H.over (b := w.heap.size) (o := 1) (v := .int .i64 y) (by simp) p
              have k2 := fun p : Over W2 => H.over (b := w.heap.size + 1) (o := 0) (v := .int .i64 x2) (by simp) p
              have k3 := fun p : Over W2 => H.over (b := w.heap.size + 1) (o := 1) (v := .int .i64 y2) (by simp) p
              refine wp_region_over (by kernel_rfl) (by kernel_rfl) ?_
              repeat (go_big_quiet_step (first | (go_at_call 18; rename_i p; refine (RangeOk_xy _ _ _).mono ?_; rintro e' w' ⟨rfl, hb1⟩; exact ⟨by first | rw [h] | rw [h2], p.next hb1⟩) | (go_at_call 55; rename_i p; refine (l8None_any _).mono ?_; rintro e' w' ⟨rfl, hb1⟩; exact ⟨rfl, p.next hb1⟩)))
              refine wpQuiet_nil ?_
              rintro _ ⟨p, rfl⟩
              replace H := H.call p.below
              clear k0 k1 k2 k3
              generalize p.w = w3 at *
              have c0 := H.get (b := g) (o := 0) (v := .int .i64 p0) (by simp)
              have c1 := H.get (b := g) (o := 1) (v := .int .i64 p1) (by simp)
              have c2 := H.get (b := w.heap.size) (o := 0) (v := .int .i64 x) (by simp)
              have c3 := H.get (b := w.heap.size) (o := 1) (v := .int .i64 y) (by simp)
              have c4 := H.get (b := w.heap.size + 2) (o := 0) (v := .int .i64 0) (by simp)
              have c5 := H.get (b := w.heap.size + 2) (o := 1) (v := .int .i64 0) (by simp)
              have z0 := H.fz (b := g) (o := 0) (v := .int .i64 p0) (by simp)
              have z1 := H.fz (b := g) (o := 1) (v := .int .i64 p1) (by simp)
              have z2 := H.fz (b := w.heap.size + 2) (o := 0) (v := .int .i64 0) (by simp)
              have z3 := H.fz (b := w.heap.size + 2) (o := 1) (v := .int .i64 0) (by simp)
              have g0 : ¬ g = w.heap.size + 2 := by omega
              have g1 : ¬ w.heap.size + 2 = g := by omega
              go_wp2_with (first | (go_at_call 65; refine (hD _ (hs.below H.below)).mono ?_; rintro e w' ⟨rfl, rfl⟩) | (go_at_call 66; refine (hU _ (by first | exact hs.below H.below | exact hs.below (H.below.setCell (by show w.heap.size ≤ g; omega) _))).mono ?_; rintro e w' ⟨rfl, rfl⟩))
              refine bodyPost_ret (results_two rfl _ _ (w.heap.size + 2) (.int .i64 p0) (.int .i64 p1) _ rfl (by simp [go_sem, *]) (by simp [go_sem, *]) Tryd.underlying25 rfl (by kernel_rfl)) rfl ?_
              exact ⟨rfl, ((H.below.setCell (by show w.heap.size ≤ w.heap.size + 2; omega) _).setCell (by show w.heap.size ≤ w.heap.size + 2; omega) _)⟩
        · obtain ⟨rfl, rfl⟩ := none_xy n2
          rw [if_pos (by simp)]
          go_enter Tryd.func30, Tryd.ntmps30
          go_wp2_with fail
          rw [← hW]
          go_wp2_with (go_at_call 25; refine (HJ _).mono ?_; rintro e w' ⟨rfl, hb⟩; replace H := H.call hb)
          have hseq := (hs.below ((H.below).mono (Nat.le_refl _))).below ((Below.refl w'.heap.size w').alloc (Nat.le_refl _) (.cells #[.int .i64 p0, .int .i64 p1] 25))
          have hlt2 : w.heap.size + 2 < w'.heap.size := (H.cells (w.heap.size + 2) 0 (.int .i64 0) (by simp)).1
          have H2 := H.box (.int .i64 p0) (.int .i64 p1) 25
          generalize w'.alloc (.cells #[.int .i64 p0, .int .i64 p1] 25) = W2 at *
          generalize w'.heap.size = g at *
          clear H
          have H := H2
          clear H2 c0 c1 c2 c3
          have k0 := fun p : Over W2 => H.over (b := w.heap.size) (o := 0) (v := .int .i64 x) (by simp) p
          have k1 := fun p : Over W2 => H.over (b := w.heap.size) (o := 1) (v := .int .i64 y) (by simp) p
          have k2 := fun p : Over W2 => H.over (b := w.heap.size + 1) (o := 0) (v := .int .i64 1) (by simp) p
          have k3 := fun p : Over W2 => H.over (b := w.heap.size + 1) (o := 1) (v := .int .i64 0) (by simp) p
          refine wp_region_over (by kernel_rfl) (by kernel_rfl) ?_
          repeat (go_big_quiet_step (first | (go_at_call 18; rename_i p; refine (RangeOk_xy _ _ _).mono ?_; rintro e' w' ⟨rfl, hb1⟩; exact ⟨by first | rw [h] | rw [h2], p.next hb1⟩) | (go_at_call 55; rename_i p; refine (l8None_any _).mono ?_; rintro e' w' ⟨rfl, hb1⟩; exact ⟨rfl, p.next hb1⟩)))
          refine wpQuiet_nil ?_
          rintro _ ⟨p, rfl⟩
          replace H := H.call p.below
          clear k0 k1 k2 k3
          generalize p.w = w3 at *
          have c0 := H.get (b := g) (o := 0) (v := .int .i64 p0) (by simp)
          have c1 := H.get (b := g) (o := 1) (v := .int .i64 p1) (by simp)
          have c2 := H.get (b := w.heap.size + 2) (o := 0) (v := .int .i64 0) (by simp)
          have c3 := H.get (b := w.heap.size + 2) (o := 1) (v := .int .i64 0) (by simp)
          have z0 := H.fz (b := w.heap.size + 2) (o := 0) (v := .int .i64 0) (by simp)
          have z1 := H.fz (b := w.heap.size + 2) (o := 1) (v := .int .i64 0) (by simp)
          go_wp2
          obtain ⟨f0, f1, fb⟩ := H.fill (b := w.heap.size + 2) (x := .int .i64 0) (y := .int .i64 0) (by simp) (by simp) (by omega) (.int .i64 p0) (.int .i64 p1)
          refine bodyPost_ret (results_two rfl _ _ (w.heap.size + 2) (.int .i64 p0) (.int .i64 p1) _ rfl f0 f1 Tryd.underlying25 rfl (by kernel_rfl)) rfl ?_
          exact ⟨rfl, fb⟩
      · obtain ⟨rfl, rfl⟩ := none_xy n
        rw [if_pos (by simp)]
        go_enter Tryd.func30, Tryd.ntmps30
        go_wp2_with fail
        rw [← hW]
        go_wp2_with (go_at_call 25; refine (HJ _).mono ?_; rintro e w' ⟨rfl, hb⟩; replace H := H.call hb)
        have hseq := (hs.below ((H.below).mono (Nat.le_refl _))).below ((Below.refl w'.heap.size w').alloc (Nat.le_refl _) (.cells #[.int .i64 p0, .int .i64 p1] 25))
        have hlt2 : w.heap.size + 2 < w'.heap.size := (H.cells (w.heap.size + 2) 0 (.int .i64 0) (by simp)).1
        have H2 := H.box (.int .i64 p0) (.int .i64 p1) 25
        generalize w'.alloc (.cells #[.int .i64 p0, .int .i64 p1] 25) = W2 at *
        generalize w'.heap.size = g at *
        clear H
        have H := H2
        clear H2 c0 c1 c2 c3
        have k0 := fun p : Over W2 => H.over (b := w.heap.size) (o := 0) (v := .int .i64 1) (by simp) p
        have k1 := fun p : Over W2 => H.over (b := w.heap.size) (o := 1) (v := .int .i64 0) (by simp) p
        have k2 := fun p : Over W2 => H.over (b := w.heap.size + 1) (o := 0) (v := .int .i64 x2) (by simp) p
        have k3 := fun p : Over W2 => H.over (b := w.heap.size + 1) (o := 1) (v := .int .i64 y2) (by simp) p
        refine wp_region_over (by kernel_rfl) (by kernel_rfl) ?_
        repeat (go_big_quiet_step (first | (go_at_call 18; rename_i p; refine (RangeOk_xy _ _ _).mono ?_; rintro e' w' ⟨rfl, hb1⟩; exact ⟨by first | rw [h] | rw [h2], p.next hb1⟩) | (go_at_call 55; rename_i p; refine (l8None_any _).mono ?_; rintro e' w' ⟨rfl, hb1⟩; exact ⟨rfl, p.next hb1⟩)))
        refine wpQuiet_nil ?_
        rintro _ ⟨p, rfl⟩
        replace H := H.call p.below
        clear k0 k1 k2 k3
        generalize p.w = w3 at *
        have c0 := H.get (b := g) (o := 0) (v := .int .i64 p0) (by simp)
        have c1 := H.get (b := g) (o := 1) (v := .int .i64 p1) (by simp)
        have c2 := H.get (b := w.heap.size + 2) (o := 0) (v := .int .i64 0) (by simp)
        have c3 := H.get (b := w.heap.size + 2) (o := 1) (v := .int .i64 0) (by simp)
        have z0 := H.fz (b := w.heap.size + 2) (o := 0) (v := .int .i64 0) (by simp)
        have z1 := H.fz (b := w.heap.size + 2) (o := 1) (v := .int .i64 0) (by simp)
        go_wp2
        obtain ⟨f0, f1, fb⟩ := H.fill (b := w.heap.size + 2) (x := .int .i64 0) (y := .int .i64 0) (by simp) (by simp) (by omega) (.int .i64 p0) (.int .i64 p1)
        refine bodyPost_ret (results_two rfl _ _ (w.heap.size + 2) (.int .i64 p0) (.int .i64 p1) _ rfl f0 f1 Tryd.underlying25 rfl (by kernel_rfl)) rfl ?_
        exact ⟨rfl, fb⟩
end Go.Proofs.YtjjglklbfigmiaaDoor.num
