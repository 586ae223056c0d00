/-
  The model's draws of rests: l9Two.
-/
import Derived.Test.YthbbgkpkijlclaaDoorYb
import Derived.Test.YthbbgkpkijlclaaDoorUa
namespace Go.Proofs.YthbbgkpkijlclaaDoor.num
open Go.ChangeShapes Go.WideShapes Go.ChangeAt Go.RowKit
set_option linter.unusedVariables false
set_option linter.unusedSimpArgs false
set_option maxRecDepth 100000 in
set_option maxHeartbeats 4000000 in
theorem l9Two_rk (w0 w : World) (r B : Nat) (h : Rk w0 r B w) (hk : B ≤ 600000000000) :
    Calls Tryd.prog 146 #[.pointer (some ⟨r, 0, none⟩)] w fun e w' => (∃ lo hi lo2 hi2 : Int, e = .returned (.tuple #[.agg #[.int .i64 lo, .int .i64 hi], .agg #[.int .i64 lo2, .int .i64 hi2]])) ∧ Rk w0 r (B + 100) w' := by
  have hr := h.lt
  obtain ⟨W, hW, H⟩ := Hd.two w (.int .i64 0) (.int .i64 0) (.int .i64 0) (.int .i64 0) 26 26
  have h0 := h
  have hcB : Below w.heap.size w W := H.below
  have h := (h.call hcB).here
  have hup : ∀ {n w'}, Rk w r n w' → Rk w0 r n w' := fun k => h0.trans k
  have hdn : ∀ {n w'}, Rk W r n w' → Rk w r n w' := fun k => (h0.here.call hcB).trans k
  have hs : W.heap.size = w.heap.size + 2 := by rw [hW]; simp
  go_enter Tryd.func146, Tryd.ntmps146
  go_wp2_with fail
  rw [← hW]
  clear hW h0
  refine (l9Wild_rk _ _ _ _ h (by omega)).mono ?_
  rintro e w1 ⟨⟨lo, hi, rfl⟩, h⟩
  obtain ⟨W1, hW1, e0, e1, hlt1, hB1, ez0, ez1, hq1⟩ := box2 w1 (.int .i64 lo) (.int .i64 hi) 26
  have hg1 := h.size
  have hr1 := h.lt
  replace h := h.call hB1
  go_wp2_with fail
  rw [← hW1]
  clear hW1
  have hW1 := h.here
  refine (l9Wild_rk _ _ _ _ hW1 (by omega)).mono ?_
  rintro e w2 ⟨⟨lo2, hi2, rfl⟩, h2⟩
  obtain ⟨W2, hW2, f0, f1, hlt2, hB2, fz0, fz1, hq2⟩ := box2 w2 (.int .i64 lo2) (.int .i64 hi2) 26
  have hg2 := h2.size
  have h3 := h2.call hB2
  have hdn2 : ∀ {n w'}, Rk W2 r n w' → Rk w r n w' := fun k => hdn (h.trans (h3.trans k))
  go_upto_region 3 with fail
  rw [← hW2]
  clear hW2
  generalize hgg1 : w1.heap.size = g1 at *
  generalize hgg2 : w2.heap.size = g2 at *
  have b0 : W2.cell? ⟨g1, 0, none⟩ = some (.int .i64 lo) := h3.cell (by omega) (by omega) e0
  have b1 : W2.cell? ⟨g1, 1, none⟩ = some (.int .i64 hi) := h3.cell (by omega) (by omega) e1
  have b2 : W2.cell? ⟨g2, 0, none⟩ = some (.int .i64 lo2) := f0
  have b3 : W2.cell? ⟨g2, 1, none⟩ = some (.int .i64 hi2) := f1
  have b4 : W2.cell? ⟨w.heap.size, 0, none⟩ = some (.int .i64 0) := h3.cell (by omega) (by omega) (h.cell (by omega) (by omega) (H.get (by simp)))
  have b5 : W2.cell? ⟨w.heap.size, 1, none⟩ = some (.int .i64 0) := h3.cell (by omega) (by omega) (h.cell (by omega) (by omega) (H.get (by simp)))
  have b6 : W2.cell? ⟨w.heap.size + 1, 0, none⟩ = some (.int .i64 0) := h3.cell (by omega) (by omega) (h.cell (by omega) (by omega) (H.get (by simp)))
  have b7 : W2.cell? ⟨w.heap.size + 1, 1, none⟩ = some (.int .i64 0) := h3.cell (by omega) (by omega) (h.cell (by omega) (by omega) (H.get (by simp)))
  have y2 : W2.frozen? ⟨g2, 0, none⟩ = false := fz0
  have y3 : W2.frozen? ⟨g2, 1, none⟩ = false := fz1
  have y4 : W2.frozen? ⟨w.heap.size, 0, none⟩ = false := h3.fz (by omega) (by omega) (h.fz (by omega) (by omega) (H.fz (v := .int .i64 0) (by simp)))
  have y5 : W2.frozen? ⟨w.heap.size, 1, none⟩ = false := h3.fz (by omega) (by omega) (h.fz (by omega) (by omega) (H.fz (v := .int .i64 0) (by simp)))
  have y6 : W2.frozen? ⟨w.heap.size + 1, 0, none⟩ = false := h3.fz (by omega) (by omega) (h.fz (by omega) (by omega) (H.fz (v := .int .i64 0) (by simp)))
  have y7 : W2.frozen? ⟨w.heap.size + 1, 1, none⟩ = false := h3.fz (by omega) (by omega) (h.fz (by omega) (by omega) (H.fz (v := .int .i64 0) (by simp)))
  have hord : w.heap.size + 2 ≤ g1 ∧ g1 < g2 ∧ g2 < W2.heap.size ∧ r < w.heap.size := ⟨by omega, by omega, by omega, hr⟩
  have hh : Rk W2 r (B + 82) W2 := (h3.here).more (by omega)
  clear e0 e1 f0 f1 fz0 fz1 ez0 ez1 hW1 h h2 h3 H hcB hdn hs hgg1 hgg2 hq1 hq2 hg1 hg2 hlt1 hlt2 hB1 hB2 hr1
  have h := hh
  clear hh
  obtain ⟨o1, o2, o3, o4⟩ := hord
  have c0 := h.cell (b := g1) (o := 0) (v := .int .i64 lo) (by omega) (by omega) b0; have c1 := h.cell (b := g1) (o := 1) (v := .int .i64 hi) (by omega) (by omega) b1; have c2 := h.cell (b := g2) (o := 0) (v := .int .i64 lo2) (by omega) (by omega) b2; have c3 := h.cell (b := g2) (o := 1) (v := .int .i64 hi2) (by omega) (by omega) b3; have c4 := h.cell (b := w.heap.size) (o := 0) (v := .int .i64 0) (by omega) (by omega) b4; have c5 := h.cell (b := w.heap.size) (o := 1) (v := .int .i64 0) (by omega) (by omega) b5; have c6 := h.cell (b := w.heap.size + 1) (o := 0) (v := .int .i64 0) (by omega) (by omega) b6; have c7 := h.cell (b := w.heap.size + 1) (o := 1) (v := .int .i64 0) (by omega) (by omega) b7; have z2 := h.fz (b := g2) (o := 0) (by omega) (by omega) y2; have z3 := h.fz (b := g2) (o := 1) (by omega) (by omega) y3; have z4 := h.fz (b := w.heap.size) (o := 0) (by omega) (by omega) y4; have z5 := h.fz (b := w.heap.size) (o := 1) (by omega) (by omega) y5; have z6 := h.fz (b := w.heap.size + 1) (o := 0) (by omega) (by omega) y6; have z7 := h.fz (b := w.heap.size + 1) (o := 1) (by omega) (by omega) y7
  go_wp2_with (first | (go_at_call 109; refine (pick_rk _ _ _ _ _ (by first | exact h | exact h.drew) (by omega) (by omega) (by omega)).mono ?_; rintro e wx ⟨v, rfl, v0, v1, h⟩; clear c0 c1 c2 c3 c4 c5 c6 c7 z2 z3 z4 z5 z6 z7; have c0 := h.cell (b := g1) (o := 0) (v := .int .i64 lo) (by omega) (by omega) b0; have c1 := h.cell (b := g1) (o := 1) (v := .int .i64 hi) (by omega) (by omega) b1; have c2 := h.cell (b := g2) (o := 0) (v := .int .i64 lo2) (by omega) (by omega) b2; have c3 := h.cell (b := g2) (o := 1) (v := .int .i64 hi2) (by omega) (by omega) b3; have c4 := h.cell (b := w.heap.size) (o := 0) (v := .int .i64 0) (by omega) (by omega) b4; have c5 := h.cell (b := w.heap.size) (o := 1) (v := .int .i64 0) (by omega) (by omega) b5; have c6 := h.cell (b := w.heap.size + 1) (o := 0) (v := .int .i64 0) (by omega) (by omega) b6; have c7 := h.cell (b := w.heap.size + 1) (o := 1) (v := .int .i64 0) (by omega) (by omega) b7; have z2 := h.fz (b := g2) (o := 0) (by omega) (by omega) y2; have z3 := h.fz (b := g2) (o := 1) (by omega) (by omega) y3; have z4 := h.fz (b := w.heap.size) (o := 0) (by omega) (by omega) y4; have z5 := h.fz (b := w.heap.size) (o := 1) (by omega) (by omega) y5; have z6 := h.fz (b := w.heap.size + 1) (o := 0) (by omega) (by omega) y6; have z7 := h.fz (b := w.heap.size + 1) (o := 1) (by omega) (by omega) y7) | (go_at_call 75; refine (sRestOk_xy _ _ _).mono ?_; rintro e wx ⟨rfl, hb⟩; replace h := h.call hb; clear hb; clear c0 c1 c2 c3 c4 c5 c6 c7 z2 z3 z4 z5 z6 z7; have c0 := h.cell (b := g1) (o := 0) (v := .int .i64 lo) (by omega) (by omega) b0; have c1 := h.cell (b := g1) (o := 1) (v := .int .i64 hi) (by omega) (by omega) b1; have c2 := h.cell (b := g2) (o := 0) (v := .int .i64 lo2) (by omega) (by omega) b2; have c3 := h.cell (b := g2) (o := 1) (v := .int .i64 hi2) (by omega) (by omega) b3; have c4 := h.cell (b := w.heap.size) (o := 0) (v := .int .i64 0) (by omega) (by omega) b4; have c5 := h.cell (b := w.heap.size) (o := 1) (v := .int .i64 0) (by omega) (by omega) b5; have c6 := h.cell (b := w.heap.size + 1) (o := 0) (v := .int .i64 0) (by omega) (by omega) b6; have c7 := h.cell (b := w.heap.size + 1) (o := 1) (v := .int .i64 0) (by omega) (by omega) b7; have z2 := h.fz (b := g2) (o := 0) (by omega) (by omega) y2; have z3 := h.fz (b := g2) (o := 1) (by omega) (by omega) y3; have z4 := h.fz (b := w.heap.size) (o := 0) (by omega) (by omega) y4; have z5 := h.fz (b := w.heap.size) (o := 1) (by omega) (by omega) y5; have z6 := h.fz (b := w.heap.size + 1) (o := 0) (by omega) (by omega) y6; have z7 := h.fz (b := w.heap.size + 1) (o := 1) (by omega) (by omega) y7))
  · have qq : qOk (lo, hi) = true := by assumption
    have n : 0 < lo := by assumption
    have hx := (qOk_iff _).1 qq
    simp only at hx
    have hx2 : 1 ≤ lo ∧ lo ≤ 65536 ∧ 0 ≤ hi ∧ hi < lo := by omega
    obtain ⟨x1, x2, x3, x4⟩ := hx2
    clear hx qq n
    go_region_held3 (fun w' => w'.cell? ⟨g1, 0, none⟩ = some (.int .i64 lo) ∧ w'.cell? ⟨g1, 1, none⟩ = some (.int .i64 hi)) (first | exact ⟨c0, c1⟩ | (simp [go_sem, c0, c1]; done) | (simp [go_sem, *]; done)) (first | (go_at_call 109; refine (pick_rk _ _ _ _ _ (by first | exact h | exact h.drew) (by omega) (by omega) (by omega)).mono ?_; rintro e wx ⟨v9, rfl, v90, v91, h⟩; have ew : IntKind.i64.wrap (1 + v9) = 1 + v9 := IntWalk.i64_in _ ⟨by omega, by omega⟩; clear c0 c1 c2 c3 c4 c5 c6 c7 z2 z3 z4 z5 z6 z7; have c0 := h.cell (b := g1) (o := 0) (v := .int .i64 lo) (by omega) (by omega) b0; have c1 := h.cell (b := g1) (o := 1) (v := .int .i64 hi) (by omega) (by omega) b1; have c2 := h.cell (b := g2) (o := 0) (v := .int .i64 lo2) (by omega) (by omega) b2; have c3 := h.cell (b := g2) (o := 1) (v := .int .i64 hi2) (by omega) (by omega) b3; have c4 := h.cell (b := w.heap.size) (o := 0) (v := .int .i64 0) (by omega) (by omega) b4; have c5 := h.cell (b := w.heap.size) (o := 1) (v := .int .i64 0) (by omega) (by omega) b5; have c6 := h.cell (b := w.heap.size + 1) (o := 0) (v := .int .i64 0) (by omega) (by omega) b6; have c7 := h.cell (b := w.heap.size + 1) (o := 1) (v := .int .i64 0) (by omega) (by omega) b7; have z2 := h.fz (b := g2) (o := 0) (by omega) (by omega) y2; have z3 := h.fz (b := g2) (o := 1) (by omega) (by omega) y3; have z4 := h.fz (b := w.heap.size) (o := 0) (by omega) (by omega) y4; have z5 := h.fz (b := w.heap.size) (o := 1) (by omega) (by omega) y5; have z6 := h.fz (b := w.heap.size + 1) (o := 0) (by omega) (by omega) y6; have z7 := h.fz (b := w.heap.size + 1) (o := 1) (by omega) (by omega) y7) | (go_at_call 152; (try rw [ew]); refine (l9Gcd_any _ _ ⟨by omega, by omega⟩ ⟨by omega, by omega⟩ _).mono ?_; rintro e w7 ⟨rfl, rfl⟩))
    all_goals
      have m1 : 0 < gcd9 lo (1 + v9) := gcd9_gt (.inl (by omega))
      have m2 : gcd9 lo (1 + v9) ≤ lo := gcd9_le_left _ (by omega)
      generalize gcd9 lo (1 + v9) = m at *
      clear ew v90 v91
      go_wp2_with fail
      go_region_held3 (fun w' => w'.cell? ⟨g1, 0, none⟩ = some (.int .i64 lo) ∧ w'.cell? ⟨g1, 1, none⟩ = some (.int .i64 hi)) (first | exact ⟨c0, c1⟩ | (simp [go_sem, c0, c1]; done) | (simp [go_sem, *]; done)) (first | (go_at_call 109; refine (pick_rk _ _ _ _ _ (by first | exact h | exact h.drew) (by omega) (by omega) (by omega)).mono ?_; rintro e wx ⟨v9, rfl, v90, v91, h⟩; have ew : IntKind.i64.wrap (hi + v9) = hi + v9 := IntWalk.i64_in _ ⟨by omega, by omega⟩; clear c0 c1 c2 c3 c4 c5 c6 c7 z2 z3 z4 z5 z6 z7; have c0 := h.cell (b := g1) (o := 0) (v := .int .i64 lo) (by omega) (by omega) b0; have c1 := h.cell (b := g1) (o := 1) (v := .int .i64 hi) (by omega) (by omega) b1; have c2 := h.cell (b := g2) (o := 0) (v := .int .i64 lo2) (by omega) (by omega) b2; have c3 := h.cell (b := g2) (o := 1) (v := .int .i64 hi2) (by omega) (by omega) b3; have c4 := h.cell (b := w.heap.size) (o := 0) (v := .int .i64 0) (by omega) (by omega) b4; have c5 := h.cell (b := w.heap.size) (o := 1) (v := .int .i64 0) (by omega) (by omega) b5; have c6 := h.cell (b := w.heap.size + 1) (o := 0) (v := .int .i64 0) (by omega) (by omega) b6; have c7 := h.cell (b := w.heap.size + 1) (o := 1) (v := .int .i64 0) (by omega) (by omega) b7; have z2 := h.fz (b := g2) (o := 0) (by omega) (by omega) y2; have z3 := h.fz (b := g2) (o := 1) (by omega) (by omega) y3; have z4 := h.fz (b := w.heap.size) (o := 0) (by omega) (by omega) y4; have z5 := h.fz (b := w.heap.size) (o := 1) (by omega) (by omega) y5; have z6 := h.fz (b := w.heap.size + 1) (o := 0) (by omega) (by omega) y6; have z7 := h.fz (b := w.heap.size + 1) (o := 1) (by omega) (by omega) y7) | (go_at_call 92; (try rw [ew]); refine (l1Mod_any _ _ (by omega) (by omega) _).mono ?_; rintro e w7 ⟨rfl, rfl⟩))
      all_goals
        generalize (hi + v9) % m = qv at *
        have h9 : Rk w r (B + 95) ((w7.setCell ⟨g2, 0, none⟩ (.int .i64 m)).setCell ⟨g2, 1, none⟩ (.int .i64 qv)) := ((hdn2 (h.more (by omega))).set (by omega) _).set (by omega) _
        have hsz7 := h.size
        obtain ⟨W9, hW9⟩ : ∃ W9, W9 = (w7.setCell ⟨g2, 0, none⟩ (.int .i64 m)).setCell ⟨g2, 1, none⟩ (.int .i64 qv) := ⟨_, rfl⟩
        have d0 : W9.cell? ⟨g1, 0, none⟩ = some (.int .i64 lo) := by rw [hW9, World.cell?_setCell_other _ _ _ _ (by simp; try omega), World.cell?_setCell_other _ _ _ _ (by simp; try omega)]; exact c0
        have d1 : W9.cell? ⟨g1, 1, none⟩ = some (.int .i64 hi) := by rw [hW9, World.cell?_setCell_other _ _ _ _ (by simp; try omega), World.cell?_setCell_other _ _ _ _ (by simp; try omega)]; exact c1
        have d2 : W9.cell? ⟨g2, 0, none⟩ = some (.int .i64 m) := by rw [hW9]; exact fill0 c2
        have d3 : W9.cell? ⟨g2, 1, none⟩ = some (.int .i64 qv) := by rw [hW9]; exact fill1 c2 c3
        have d4 : W9.cell? ⟨w.heap.size, 0, none⟩ = some (.int .i64 0) := by rw [hW9, World.cell?_setCell_other _ _ _ _ (by simp; try omega), World.cell?_setCell_other _ _ _ _ (by simp; try omega)]; exact c4
        have d5 : W9.cell? ⟨w.heap.size, 1, none⟩ = some (.int .i64 0) := by rw [hW9, World.cell?_setCell_other _ _ _ _ (by simp; try omega), World.cell?_setCell_other _ _ _ _ (by simp; try omega)]; exact c5
        have d6 : W9.cell? ⟨w.heap.size + 1, 0, none⟩ = some (.int .i64 0) := by rw [hW9, World.cell?_setCell_other _ _ _ _ (by simp; try omega), World.cell?_setCell_other _ _ _ _ (by simp; try omega)]; exact c6
        have d7 : W9.cell? ⟨w.heap.size + 1, 1, none⟩ = some (.int .i64 0) := by rw [hW9, World.cell?_setCell_other _ _ _ _ (by simp; try omega), World.cell?_setCell_other _ _ _ _ (by simp; try omega)]; exact c7
        have x4 : W9.frozen? ⟨w.heap.size, 0, none⟩ = false := by rw [hW9]; simpa using z4
        have x5 : W9.frozen? ⟨w.heap.size, 1, none⟩ = false := by rw [hW9]; simpa using z5
        have x6 : W9.frozen? ⟨w.heap.size + 1, 0, none⟩ = false := by rw [hW9]; simpa using z6
        have x7 : W9.frozen? ⟨w.heap.size + 1, 1, none⟩ = false := by rw [hW9]; simpa using z7
        have o5 : g2 < W9.heap.size := by rw [hW9]; simp; omega
        rw [← hW9]
        rw [← hW9] at h9
        have hdn9 : ∀ {n w'}, Rk W9 r n w' → Rk w r n w' := fun k => h9.trans k
        clear hW9 h hdn2 hsz7 c0 c1 c2 c3 c4 c5 c6 c7 z2 z3 z4 z5 z6 z7 b0 b1 b2 b3 b4 b5 b6 b7 y2 y3 y4 y5 y6 y7
        have h := h9.here
        have c0 := h.cell (b := g1) (o := 0) (v := .int .i64 lo) (by omega) (by omega) d0; have c1 := h.cell (b := g1) (o := 1) (v := .int .i64 hi) (by omega) (by omega) d1; have c2 := h.cell (b := g2) (o := 0) (v := .int .i64 m) (by omega) (by omega) d2; have c3 := h.cell (b := g2) (o := 1) (v := .int .i64 qv) (by omega) (by omega) d3; have c4 := h.cell (b := w.heap.size) (o := 0) (v := .int .i64 0) (by omega) (by omega) d4; have c5 := h.cell (b := w.heap.size) (o := 1) (v := .int .i64 0) (by omega) (by omega) d5; have c6 := h.cell (b := w.heap.size + 1) (o := 0) (v := .int .i64 0) (by omega) (by omega) d6; have c7 := h.cell (b := w.heap.size + 1) (o := 1) (v := .int .i64 0) (by omega) (by omega) d7; have z4 := h.fz (b := w.heap.size) (o := 0) (by omega) (by omega) x4; have z5 := h.fz (b := w.heap.size) (o := 1) (by omega) (by omega) x5; have z6 := h.fz (b := w.heap.size + 1) (o := 0) (by omega) (by omega) x6; have z7 := h.fz (b := w.heap.size + 1) (o := 1) (by omega) (by omega) x7
        go_wp2_with (go_at_call 109; refine (pick_rk _ _ _ _ _ (by first | exact h | exact h.drew) (by omega) (by omega) (by omega)).mono ?_; rintro e wx ⟨v, rfl, v0, v1, h⟩; clear c0 c1 c2 c3 c4 c5 c6 c7 z4 z5 z6 z7; have c0 := h.cell (b := g1) (o := 0) (v := .int .i64 lo) (by omega) (by omega) d0; have c1 := h.cell (b := g1) (o := 1) (v := .int .i64 hi) (by omega) (by omega) d1; have c2 := h.cell (b := g2) (o := 0) (v := .int .i64 m) (by omega) (by omega) d2; have c3 := h.cell (b := g2) (o := 1) (v := .int .i64 qv) (by omega) (by omega) d3; have c4 := h.cell (b := w.heap.size) (o := 0) (v := .int .i64 0) (by omega) (by omega) d4; have c5 := h.cell (b := w.heap.size) (o := 1) (v := .int .i64 0) (by omega) (by omega) d5; have c6 := h.cell (b := w.heap.size + 1) (o := 0) (v := .int .i64 0) (by omega) (by omega) d6; have c7 := h.cell (b := w.heap.size + 1) (o := 1) (v := .int .i64 0) (by omega) (by omega) d7; have z4 := h.fz (b := w.heap.size) (o := 0) (by omega) (by omega) x4; have z5 := h.fz (b := w.heap.size) (o := 1) (by omega) (by omega) x5; have z6 := h.fz (b := w.heap.size + 1) (o := 0) (by omega) (by omega) x6; have z7 := h.fz (b := w.heap.size + 1) (o := 1) (by omega) (by omega) x7)
        · clear d0 d1 d2 d3 d4 d5 d6 d7 x4 x5 x6 x7
          go_region
          all_goals go_wp2_with fail
          all_goals refine bodyPost_ret (results_two_two rfl _ _ w.heap.size (w.heap.size + 1) (.int .i64 m) (.int .i64 qv) (.int .i64 lo) (.int .i64 hi) _ rfl rfl (by simp [go_sem, c4]) (by simp [go_sem, c5]) (by simp [go_sem, c6]) (by simp [go_sem, c7]) Tryd.underlying26 rfl (by kernel_rfl)) rfl ?_
          all_goals exact ⟨⟨_, _, _, _, rfl⟩, hup (by first | exact (((((hdn9 (h.more (by omega))).set (Nat.le_refl _) _).set (Nat.le_refl _) _).set (Nat.le_add_right _ _) _).set (Nat.le_add_right _ _) _) | exact (((((hdn9 (h.more (by omega))).set (Nat.le_refl _) _).set (Nat.le_refl _) _).set (Nat.le_add_right _ _) _).set (Nat.le_add_right _ _) _).drew)⟩
        · clear d0 d1 d2 d3 d4 d5 d6 d7 x4 x5 x6 x7
          go_region
          all_goals go_wp2_with fail
          all_goals refine bodyPost_ret (results_two_two rfl _ _ w.heap.size (w.heap.size + 1) (.int .i64 lo) (.int .i64 hi) (.int .i64 m) (.int .i64 qv) _ rfl rfl (by simp [go_sem, c4]) (by simp [go_sem, c5]) (by simp [go_sem, c6]) (by simp [go_sem, c7]) Tryd.underlying26 rfl (by kernel_rfl)) rfl ?_
          all_goals exact ⟨⟨_, _, _, _, rfl⟩, hup (by first | exact (((((hdn9 (h.more (by omega))).set (Nat.le_refl _) _).set (Nat.le_refl _) _).set (Nat.le_add_right _ _) _).set (Nat.le_add_right _ _) _) | exact (((((hdn9 (h.more (by omega))).set (Nat.le_refl _) _).set (Nat.le_refl _) _).set (Nat.le_add_right _ _) _).set (Nat.le_add_right _ _) _).drew)⟩

  · clear b0 b1 b2 b3 b4 b5 b6 b7 y2 y3 y4 y5 y6 y7
    go_region
    all_goals go_wp2_with fail
    all_goals refine bodyPost_ret (results_two_two rfl _ _ w.heap.size (w.heap.size + 1) (.int .i64 lo2) (.int .i64 hi2) (.int .i64 lo) (.int .i64 hi) _ rfl rfl (by simp [go_sem, c4]) (by simp [go_sem, c5]) (by simp [go_sem, c6]) (by simp [go_sem, c7]) Tryd.underlying26 rfl (by kernel_rfl)) rfl ?_
    all_goals exact ⟨⟨_, _, _, _, rfl⟩, hup (by first | exact (((((hdn2 (h.more (by omega))).set (Nat.le_refl _) _).set (Nat.le_refl _) _).set (Nat.le_add_right _ _) _).set (Nat.le_add_right _ _) _) | exact (((((hdn2 (h.more (by omega))).set (Nat.le_refl _) _).set (Nat.le_refl _) _).set (Nat.le_add_right _ _) _).set (Nat.le_add_right _ _) _).drew)⟩
  · clear b0 b1 b2 b3 b4 b5 b6 b7 y2 y3 y4 y5 y6 y7
    go_region
    all_goals go_wp2_with fail
    all_goals refine bodyPost_ret (results_two_two rfl _ _ w.heap.size (w.heap.size + 1) (.int .i64 lo) (.int .i64 hi) (.int .i64 lo2) (.int .i64 hi2) _ rfl rfl (by simp [go_sem, c4]) (by simp [go_sem, c5]) (by simp [go_sem, c6]) (by simp [go_sem, c7]) Tryd.underlying26 rfl (by kernel_rfl)) rfl ?_
    all_goals exact ⟨⟨_, _, _, _, rfl⟩, hup (by first | exact (((((hdn2 (h.more (by omega))).set (Nat.le_refl _) _).set (Nat.le_refl _) _).set (Nat.le_add_right _ _) _).set (Nat.le_add_right _ _) _) | exact (((((hdn2 (h.more (by omega))).set (Nat.le_refl _) _).set (Nat.le_refl _) _).set (Nat.le_add_right _ _) _).set (Nat.le_add_right _ _) _).drew)⟩
  · clear b0 b1 b2 b3 b4 b5 b6 b7 y2 y3 y4 y5 y6 y7
    go_region
    all_goals go_wp2_with fail
    all_goals refine bodyPost_ret (results_two_two rfl _ _ w.heap.size (w.heap.size + 1) (.int .i64 lo2) (.int .i64 hi2) (.int .i64 lo) (.int .i64 hi) _ rfl rfl (by simp [go_sem, c4]) (by simp [go_sem, c5]) (by simp [go_sem, c6]) (by simp [go_sem, c7]) Tryd.underlying26 rfl (by kernel_rfl)) rfl ?_
    all_goals exact ⟨⟨_, _, _, _, rfl⟩, hup (by first | exact (((((hdn2 (h.more (by omega))).set (Nat.le_refl _) _).set (Nat.le_refl _) _).set (Nat.le_add_right _ _) _).set (Nat.le_add_right _ _) _) | exact (((((hdn2 (h.more (by omega))).set (Nat.le_refl _) _).set (Nat.le_refl _) _).set (Nat.le_add_right _ _) _).set (Nat.le_add_right _ _) _).drew)⟩
  · clear b0 b1 b2 b3 b4 b5 b6 b7 y2 y3 y4 y5 y6 y7
    go_region
    all_goals go_wp2_with fail
    all_goals refine bodyPost_ret (results_two_two rfl _ _ w.heap.size (w.heap.size + 1) (.int .i64 lo) (.int .i64 hi) (.int .i64 lo2) (.int .i64 hi2) _ rfl rfl (by simp [go_sem, c4]) (by simp [go_sem, c5]) (by simp [go_sem, c6]) (by simp [go_sem, c7]) Tryd.underlying26 rfl (by kernel_rfl)) rfl ?_
    all_goals exact ⟨⟨_, _, _, _, rfl⟩, hup (by first | exact (((((hdn2 (h.more (by omega))).set (Nat.le_refl _) _).set (Nat.le_refl _) _).set (Nat.le_add_right _ _) _).set (Nat.le_add_right _ _) _) | exact (((((hdn2 (h.more (by omega))).set (Nat.le_refl _) _).set (Nat.le_refl _) _).set (Nat.le_add_right _ _) _).set (Nat.le_add_right _ _) _).drew)⟩
  · clear b0 b1 b2 b3 b4 b5 b6 b7 y2 y3 y4 y5 y6 y7
    go_region
    all_goals go_wp2_with fail
    all_goals refine bodyPost_ret (results_two_two rfl _ _ w.heap.size (w.heap.size + 1) (.int .i64 lo2) (.int .i64 hi2) (.int .i64 lo) (.int .i64 hi) _ rfl rfl (by simp [go_sem, c4]) (by simp [go_sem, c5]) (by simp [go_sem, c6]) (by simp [go_sem, c7]) Tryd.underlying26 rfl (by kernel_rfl)) rfl ?_
    all_goals exact ⟨⟨_, _, _, _, rfl⟩, hup (by first | exact (((((hdn2 (h.more (by omega))).set (Nat.le_refl _) _).set (Nat.le_refl _) _).set (Nat.le_add_right _ _) _).set (Nat.le_add_right _ _) _) | exact (((((hdn2 (h.more (by omega))).set (Nat.le_refl _) _).set (Nat.le_refl _) _).set (Nat.le_add_right _ _) _).set (Nat.le_add_right _ _) _).drew)⟩
  · clear b0 b1 b2 b3 b4 b5 b6 b7 y2 y3 y4 y5 y6 y7
    go_region
    all_goals go_wp2_with fail
    all_goals refine bodyPost_ret (results_two_two rfl _ _ w.heap.size (w.heap.size + 1) (.int .i64 lo) (.int .i64 hi) (.int .i64 lo2) (.int .i64 hi2) _ rfl rfl (by simp [go_sem, c4]) (by simp [go_sem, c5]) (by simp [go_sem, c6]) (by simp [go_sem, c7]) Tryd.underlying26 rfl (by kernel_rfl)) rfl ?_
    all_goals exact ⟨⟨_, _, _, _, rfl⟩, hup (by first | exact (((((hdn2 (h.more (by omega))).set (Nat.le_refl _) _).set (Nat.le_refl _) _).set (Nat.le_add_right _ _) _).set (Nat.le_add_right _ _) _) | exact (((((hdn2 (h.more (by omega))).set (Nat.le_refl _) _).set (Nat.le_refl _) _).set (Nat.le_add_right _ _) _).set (Nat.le_add_right _ _) _).drew)⟩
end Go.Proofs.YthbbgkpkijlclaaDoor.num
