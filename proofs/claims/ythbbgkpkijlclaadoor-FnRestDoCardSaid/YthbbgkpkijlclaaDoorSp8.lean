/-
  Two ranges that are drawn.
-/
import Derived.Test.YthbbgkpkijlclaaDoorSo
import Derived.Test.YthbbgkpkijlclaaDoorRh
import Derived.Deep.Cut
import Derived.Deep.CutRange
import Derived.Deep.RegionHeld3
namespace Go.Proofs.YthbbgkpkijlclaaDoor.num
open Go.ChangeShapes Go.WideShapes Go.ChangeAt Go.RowKit
set_option linter.unusedVariables false


theorem results_two_two {P : Program} {fn : Func} {p q : Tmp} {ty : TypeId} (h : fn.results = #[.cell p ty, .cell q ty]) (tmps : Array Value) (w : World) (g g2 : Nat) (x y x2 y2 : Value) (d : TypeDesc)
    (hp : tmps.getD p undef = .pointer (some ⟨g, 0, none⟩)) (hq : tmps.getD q undef = .pointer (some ⟨g2, 0, none⟩)) (c0 : w.cell? ⟨g, 0, none⟩ = some x) (c1 : w.cell? ⟨g, 1, none⟩ = some y)
    (c2 : w.cell? ⟨g2, 0, none⟩ = some x2) (c3 : w.cell? ⟨g2, 1, none⟩ = some y2)
    (hu : P.underlying ty = some d) (hd : d.isRow = true) (hi : (P.info? ty).map (·.size) = some 2) :
    (results fn tmps).run P w = .ok (.tuple #[.agg #[x, y], .agg #[x2, y2]]) w := by
  have hp' : tmps[p]?.getD undef = .pointer (some ⟨g, 0, none⟩) := by simpa using hp
  have hq' : tmps[q]?.getD undef = .pointer (some ⟨g2, 0, none⟩) := by simpa using hq
  have row : ∀ (b : Nat) (u v : Value), w.cell? ⟨b, 0, none⟩ = some u → w.cell? ⟨b, 1, none⟩ = some v → (loadVar ty ⟨b, 0, none⟩).run P w = .ok (.agg #[u, v]) w := fun b u v k0 k1 =>
    run_loadVar_mid (P := P) w b 0 ty [u, v] d (fun j z hj => by
      match j, hj with
      | 0, hj => simp at hj; subst hj; exact k0
      | 1, hj => simp at hj; subst hj; exact k1
      | n + 2, hj => simp at hj) hu hd hi
  simp [results, h, hp', hq', asAddr, row g x y c0 c1, row g2 x2 y2 c2 c3]
theorem l8Cut_ex (a b : Int) (w : World) :
    Calls Tryd.prog 118 #[.int .i64 a, .int .i64 b] w fun e w' => (∃ n1 n2 : Int, e = .returned (.agg #[.int .i64 n1, .int .i64 n2]) ∧ rOk (n1, n2) = true) ∧ Below w.heap.size w w' :=
  (l8Cut_any a b w).mono (fun e w' ⟨h1, h2⟩ => ⟨⟨_, _, h1, cut8_ok a b⟩, h2⟩)
abbrev I64 (v : Int) : Prop := -9223372036854775808 ≤ v ∧ v ≤ 9223372036854775807
set_option maxRecDepth 100000 in
set_option maxHeartbeats 4000000 in
theorem l8Two_rk (w0 w : World) (r B : Nat) (h : Rk w0 r B w) (hk : B ≤ 600000000000) :
    Calls Tryd.prog 143 #[.pointer (some ⟨r, 0, none⟩)] w fun e w' => (∃ lo hi lo2 hi2 : Int, e = .returned (.tuple #[.agg #[.int .i64 lo, .int .i64 hi], .agg #[.int .i64 lo2, .int .i64 hi2]]) ∧ (I64 lo ∧ I64 hi) ∧ (I64 lo2 ∧ I64 hi2)) ∧ Rk w0 r (B + 40) w' := by
  have hr := h.lt
  obtain ⟨W, hW, H⟩ := Hd.two w (.int .i64 0) (.int .i64 0) (.int .i64 0) (.int .i64 0) 24 24
  have h0 := h
  have hcB : Below w.heap.size w W := H.below
  have h := (h.call hcB).here
  have hup : ∀ {n w'}, Rk w r n w' → Rk w0 r n w' := fun k => h0.trans k
  have hdn : ∀ {n w'}, Rk W r n w' → Rk w r n w' := fun k => (h0.here.call hcB).trans k
  have hs : W.heap.size = w.heap.size + 2 := by rw [hW]; simp
  go_enter Tryd.func143, Tryd.ntmps143
  go_wp2_with fail
  rw [← hW]
  clear hW h0
  refine (l8Wild_rk _ _ _ _ h (by omega)).mono ?_
  rintro e w1 ⟨⟨lo, hi, rfl, hb1⟩, h⟩
  obtain ⟨W1, hW1, e0, e1, hlt1, hB1, ez0, ez1, hq1⟩ := box2 w1 (.int .i64 lo) (.int .i64 hi) 24
  have hg1 := h.size
  have hr1 := h.lt
  replace h := h.call hB1
  go_wp2_with fail
  rw [← hW1]
  clear hW1
  have hW1 := h.here
  refine (l8Wild_rk _ _ _ _ hW1 (by omega)).mono ?_
  rintro e w2 ⟨⟨lo2, hi2, rfl, hb2⟩, h2⟩
  obtain ⟨W2, hW2, f0, f1, hlt2, hB2, fz0, fz1, hq2⟩ := box2 w2 (.int .i64 lo2) (.int .i64 hi2) 24
  have hg2 := h2.size
  have h3 := h2.call hB2
  have hdn2 : ∀ {n w'}, Rk W2 r n w' → Rk w r n w' := fun k => hdn (h.trans (h3.trans k))
  go_upto_region 3 with fail
  rw [← hW2]
  clear hW2
  generalize hgg1 : w1.heap.size = g1 at *
  generalize hgg2 : w2.heap.size = g2 at *
  have b0 : W2.cell? ⟨g1, 0, none⟩ = some (.int .i64 lo) := h3.cell (by omega) (by omega) e0
  have b1 : W2.cell? ⟨g1, 1, none⟩ = some (.int .i64 hi) := h3.cell (by omega) (by omega) e1
  have b2 : W2.cell? ⟨g2, 0, none⟩ = some (.int .i64 lo2) := f0
  have b3 : W2.cell? ⟨g2, 1, none⟩ = some (.int .i64 hi2) := f1
  have b4 : W2.cell? ⟨w.heap.size, 0, none⟩ = some (.int .i64 0) := h3.cell (by omega) (by omega) (h.cell (by omega) (by omega) (H.get (by simp)))
  have b5 : W2.cell? ⟨w.heap.size, 1, none⟩ = some (.int .i64 0) := h3.cell (by omega) (by omega) (h.cell (by omega) (by omega) (H.get (by simp)))
  have b6 : W2.cell? ⟨w.heap.size + 1, 0, none⟩ = some (.int .i64 0) := h3.cell (by omega) (by omega) (h.cell (by omega) (by omega) (H.get (by simp)))
  have b7 : W2.cell? ⟨w.heap.size + 1, 1, none⟩ = some (.int .i64 0) := h3.cell (by omega) (by omega) (h.cell (by omega) (by omega) (H.get (by simp)))
  have y2 : W2.frozen? ⟨g2, 0, none⟩ = false := fz0
  have y3 : W2.frozen? ⟨g2, 1, none⟩ = false := fz1
  have y4 : W2.frozen? ⟨w.heap.size, 0, none⟩ = false := h3.fz (by omega) (by omega) (h.fz (by omega) (by omega) (H.fz (v := .int .i64 0) (by simp)))
  have y5 : W2.frozen? ⟨w.heap.size, 1, none⟩ = false := h3.fz (by omega) (by omega) (h.fz (by omega) (by omega) (H.fz (v := .int .i64 0) (by simp)))
  have y6 : W2.frozen? ⟨w.heap.size + 1, 0, none⟩ = false := h3.fz (by omega) (by omega) (h.fz (by omega) (by omega) (H.fz (v := .int .i64 0) (by simp)))
  have y7 : W2.frozen? ⟨w.heap.size + 1, 1, none⟩ = false := h3.fz (by omega) (by omega) (h.fz (by omega) (by omega) (H.fz (v := .int .i64 0) (by simp)))
  have hord : w.heap.size + 2 ≤ g1 ∧ g1 < g2 ∧ g2 < W2.heap.size ∧ r < w.heap.size := ⟨by omega, by omega, by omega, hr⟩
  have hbd : (I64 lo ∧ I64 hi) ∧ (I64 lo2 ∧ I64 hi2) := ⟨⟨⟨by omega, by omega⟩, by omega, by omega⟩, ⟨by omega, by omega⟩, by omega, by omega⟩
  have hh : Rk W2 r (B + 32) W2 := (h3.here).more (by omega)
  clear e0 e1 f0 f1 fz0 fz1 ez0 ez1 hW1 h h2 h3 H hcB hdn hs hgg1 hgg2 hq1 hq2 hg1 hg2 hlt1 hlt2 hB1 hB2 hb1 hb2 hr1
  have h := hh
  clear hh
  obtain ⟨o1, o2, o3, o4⟩ := hord
  go_cut [21] from 10 (fun t21 wc => ∃ b, t21 = .bool b ∧ Rk W2 r (B + 33) wc)
  case first =>
    refine wp_region_head 4 (C := fun w w' => ∃ p : Over w, w' = p.w) (by decide) (by kernel_rfl) (by kernel_rfl) (by kernel_rfl) (by kernel_rfl) (fun w => ⟨⟨w, Below.refl _ _⟩, rfl⟩) ?_
    simp only [List.take, List.drop]
    go_wp2_with (go_at_call 109; refine (pick_rk _ _ _ _ _ (by first | exact h | exact h.drew) (by omega) (by omega) (by omega)).mono ?_; rintro e wx ⟨v, rfl, v0, v1, h⟩)
    have hl1 : g1 < wx.heap.size := Nat.lt_of_lt_of_le (by omega) h.size
    have m0 : wx.cell? ⟨g1, 0, none⟩ = some (.int .i64 lo) := h.cell (by omega) (by omega) b0
    have m1 : wx.cell? ⟨g1, 1, none⟩ = some (.int .i64 hi) := h.cell (by omega) (by omega) b1
    have k0 := fun p : Over wx => p.cell hl1 m0
    have k1 := fun p : Over wx => p.cell hl1 m1
    cases hv : (v == 0)
    · repeat (go_big_quiet_step (first | (go_at_call 89; rename_i p; refine (l8None_any _).mono ?_; rintro e' w' ⟨rfl, hb1⟩; exact ⟨rfl, p.next hb1⟩) | (go_at_call 59; rename_i p; refine (RangeOk_xy _ _ _).mono ?_; rintro e' w' ⟨rfl, hb1⟩; exact ⟨by rw [q], p.next hb1⟩)))
      refine wpQuiet_nil ?_
      rintro _ ⟨p, rfl⟩
      go_wp2_with fail
      go_meet
      exact ⟨_, rfl, h.call p.below⟩
    · cases q : rOk (lo, hi)
      · repeat (go_big_quiet_step (first | (go_at_call 89; rename_i p; refine (l8None_any _).mono ?_; rintro e' w' ⟨rfl, hb1⟩; exact ⟨rfl, p.next hb1⟩) | (go_at_call 59; rename_i p; refine (RangeOk_xy _ _ _).mono ?_; rintro e' w' ⟨rfl, hb1⟩; exact ⟨by rw [q], p.next hb1⟩)))
        refine wpQuiet_nil ?_
        rintro _ ⟨p, rfl⟩
        go_wp2_with fail
        go_meet
        exact ⟨_, rfl, h.call p.below⟩
      · cases n : isN (lo, hi)
        · have hq := @some_if lo hi n
          repeat (go_big_quiet_step (first | (go_at_call 89; rename_i p; refine (l8None_any _).mono ?_; rintro e' w' ⟨rfl, hb1⟩; exact ⟨rfl, p.next hb1⟩) | (go_at_call 59; rename_i p; refine (RangeOk_xy _ _ _).mono ?_; rintro e' w' ⟨rfl, hb1⟩; exact ⟨by rw [q], p.next hb1⟩)))
          refine wpQuiet_nil ?_
          rintro _ ⟨p, rfl⟩
          go_wp2_with fail
          go_meet
          exact ⟨_, rfl, h.call p.below⟩
        · obtain ⟨rfl, rfl⟩ := none_xy n
          repeat (go_big_quiet_step (first | (go_at_call 89; rename_i p; refine (l8None_any _).mono ?_; rintro e' w' ⟨rfl, hb1⟩; exact ⟨rfl, p.next hb1⟩) | (go_at_call 59; rename_i p; refine (RangeOk_xy _ _ _).mono ?_; rintro e' w' ⟨rfl, hb1⟩; exact ⟨by rw [q], p.next hb1⟩)))
          refine wpQuiet_nil ?_
          rintro _ ⟨p, rfl⟩
          go_wp2_with fail
          go_meet
          exact ⟨_, rfl, h.call p.below⟩
  case rest =>
    clear h
    obtain ⟨b, rfl, h⟩ := hcut
    have c0 := h.cell (b := g1) (o := 0) (v := .int .i64 lo) (by omega) (by omega) b0
    have c1 := h.cell (b := g1) (o := 1) (v := .int .i64 hi) (by omega) (by omega) b1
    have c2 := h.cell (b := g2) (o := 0) (v := .int .i64 lo2) (by omega) (by omega) b2
    have c3 := h.cell (b := g2) (o := 1) (v := .int .i64 hi2) (by omega) (by omega) b3
    have c4 := h.cell (b := w.heap.size) (o := 0) (v := .int .i64 0) (by omega) (by omega) b4
    have c5 := h.cell (b := w.heap.size) (o := 1) (v := .int .i64 0) (by omega) (by omega) b5
    have c6 := h.cell (b := w.heap.size + 1) (o := 0) (v := .int .i64 0) (by omega) (by omega) b6
    have c7 := h.cell (b := w.heap.size + 1) (o := 1) (v := .int .i64 0) (by omega) (by omega) b7
    have z2 := h.fz (b := g2) (o := 0) (by omega) (by omega) y2
    have z3 := h.fz (b := g2) (o := 1) (by omega) (by omega) y3
    have z4 := h.fz (b := w.heap.size) (o := 0) (by omega) (by omega) y4
    have z5 := h.fz (b := w.heap.size) (o := 1) (by omega) (by omega) y5
    have z6 := h.fz (b := w.heap.size + 1) (o := 0) (by omega) (by omega) y6
    have z7 := h.fz (b := w.heap.size + 1) (o := 1) (by omega) (by omega) y7
    cases b
    · go_wp2_with fail
      go_region
      all_goals go_wp2_with fail
      all_goals refine bodyPost_ret (results_two_two rfl _ _ w.heap.size (w.heap.size + 1) (.int .i64 lo) (.int .i64 hi) (.int .i64 lo2) (.int .i64 hi2) _ rfl rfl (by simp [go_sem, *]) (by simp [go_sem, *]) (by simp [go_sem, *]) (by simp [go_sem, *]) Tryd.underlying24 rfl (by kernel_rfl)) rfl ?_
      all_goals exact ⟨⟨_, _, _, _, rfl, hbd⟩, hup (by first | exact (((((hdn2 (h.more (by omega))).set (Nat.le_refl _) _).set (Nat.le_refl _) _).set (Nat.le_add_right _ _) _).set (Nat.le_add_right _ _) _) | exact (((((hdn2 (h.more (by omega))).set (Nat.le_refl _) _).set (Nat.le_refl _) _).set (Nat.le_add_right _ _) _).set (Nat.le_add_right _ _) _).drew)⟩
    · have hn12 : ¬ g2 = w.heap.size ∧ ¬ g2 = w.heap.size + 1 ∧ ¬ w.heap.size = g2 ∧ ¬ w.heap.size + 1 = g2 ∧ ¬ g1 = g2 ∧ ¬ g2 = g1 := ⟨by omega, by omega, by omega, by omega, by omega, by omega⟩
      go_wp2_with fail
      go_region_held3 (fun w' => w'.cell? ⟨g1, 0, none⟩ = some (.int .i64 lo) ∧ w'.cell? ⟨g1, 1, none⟩ = some (.int .i64 hi)) (first | exact ⟨c0, c1⟩ | (simp [go_sem, c0, c1]; done) | (simp [go_sem, *]; done)) (first
        | (go_at_call 109; refine (pick_rk _ _ _ _ _ (by first | exact h | exact h.drew) (by omega) (by omega) (by omega)).mono ?_; rintro e wx ⟨v, rfl, v0, v1, h⟩; have c0 := h.cell (b := g1) (o := 0) (v := .int .i64 lo) (by omega) (by omega) b0; have c1 := h.cell (b := g1) (o := 1) (v := .int .i64 hi) (by omega) (by omega) b1; have c2 := h.cell (b := g2) (o := 0) (v := .int .i64 lo2) (by omega) (by omega) b2; have c3 := h.cell (b := g2) (o := 1) (v := .int .i64 hi2) (by omega) (by omega) b3; have c4 := h.cell (b := w.heap.size) (o := 0) (v := .int .i64 0) (by omega) (by omega) b4; have c5 := h.cell (b := w.heap.size) (o := 1) (v := .int .i64 0) (by omega) (by omega) b5; have c6 := h.cell (b := w.heap.size + 1) (o := 0) (v := .int .i64 0) (by omega) (by omega) b6; have c7 := h.cell (b := w.heap.size + 1) (o := 1) (v := .int .i64 0) (by omega) (by omega) b7; have z2 := h.fz (b := g2) (o := 0) (by omega) (by omega) y2; have z3 := h.fz (b := g2) (o := 1) (by omega) (by omega) y3; have z4 := h.fz (b := w.heap.size) (o := 0) (by omega) (by omega) y4; have z5 := h.fz (b := w.heap.size) (o := 1) (by omega) (by omega) y5; have z6 := h.fz (b := w.heap.size + 1) (o := 0) (by omega) (by omega) y6; have z7 := h.fz (b := w.heap.size + 1) (o := 1) (by omega) (by omega) y7)
        | (go_at_call 118; refine (l8Cut_ex _ _ _).mono ?_; rintro e wx ⟨⟨n1, n2, rfl, hok⟩, hb⟩; replace h := h.call hb; have c0 := h.cell (b := g1) (o := 0) (v := .int .i64 lo) (by omega) (by omega) b0; have c1 := h.cell (b := g1) (o := 1) (v := .int .i64 hi) (by omega) (by omega) b1; have c2 := h.cell (b := g2) (o := 0) (v := .int .i64 lo2) (by omega) (by omega) b2; have c3 := h.cell (b := g2) (o := 1) (v := .int .i64 hi2) (by omega) (by omega) b3; have c4 := h.cell (b := w.heap.size) (o := 0) (v := .int .i64 0) (by omega) (by omega) b4; have c5 := h.cell (b := w.heap.size) (o := 1) (v := .int .i64 0) (by omega) (by omega) b5; have c6 := h.cell (b := w.heap.size + 1) (o := 0) (v := .int .i64 0) (by omega) (by omega) b6; have c7 := h.cell (b := w.heap.size + 1) (o := 1) (v := .int .i64 0) (by omega) (by omega) b7; have z2 := h.fz (b := g2) (o := 0) (by omega) (by omega) y2; have z3 := h.fz (b := g2) (o := 1) (by omega) (by omega) y3; have z4 := h.fz (b := w.heap.size) (o := 0) (by omega) (by omega) y4; have z5 := h.fz (b := w.heap.size) (o := 1) (by omega) (by omega) y5; have z6 := h.fz (b := w.heap.size + 1) (o := 0) (by omega) (by omega) y6; have z7 := h.fz (b := w.heap.size + 1) (o := 1) (by omega) (by omega) y7))
      all_goals have hbn : I64 n1 ∧ I64 n2 := (by have hq := (rOk_iff _).1 hok; simp only at hq; exact ⟨⟨by omega, by omega⟩, by omega, by omega⟩)
      all_goals clear hok
      all_goals
        go_wp2_with fail
        have h9 : Rk w r (B + 40) ((wx.setCell ⟨g2, 0, none⟩ (.int .i64 n1)).setCell ⟨g2, 1, none⟩ (.int .i64 n2)) := ((hdn2 (h.more (by omega))).set (by omega) _).set (by omega) _
        obtain ⟨W9, hW9⟩ : ∃ W9, W9 = (wx.setCell ⟨g2, 0, none⟩ (.int .i64 n1)).setCell ⟨g2, 1, none⟩ (.int .i64 n2) := ⟨_, rfl⟩
        have d0 : W9.cell? ⟨g1, 0, none⟩ = some (.int .i64 lo) := by rw [hW9, World.cell?_setCell_other _ _ _ _ (by simp; try omega), World.cell?_setCell_other _ _ _ _ (by simp; try omega)]; exact c0
        have d1 : W9.cell? ⟨g1, 1, none⟩ = some (.int .i64 hi) := by rw [hW9, World.cell?_setCell_other _ _ _ _ (by simp; try omega), World.cell?_setCell_other _ _ _ _ (by simp; try omega)]; exact c1
        have d4 : W9.cell? ⟨w.heap.size, 0, none⟩ = some (.int .i64 0) := by rw [hW9, World.cell?_setCell_other _ _ _ _ (by simp; try omega), World.cell?_setCell_other _ _ _ _ (by simp; try omega)]; exact c4
        have d5 : W9.cell? ⟨w.heap.size, 1, none⟩ = some (.int .i64 0) := by rw [hW9, World.cell?_setCell_other _ _ _ _ (by simp; try omega), World.cell?_setCell_other _ _ _ _ (by simp; try omega)]; exact c5
        have d6 : W9.cell? ⟨w.heap.size + 1, 0, none⟩ = some (.int .i64 0) := by rw [hW9, World.cell?_setCell_other _ _ _ _ (by simp; try omega), World.cell?_setCell_other _ _ _ _ (by simp; try omega)]; exact c6
        have d7 : W9.cell? ⟨w.heap.size + 1, 1, none⟩ = some (.int .i64 0) := by rw [hW9, World.cell?_setCell_other _ _ _ _ (by simp; try omega), World.cell?_setCell_other _ _ _ _ (by simp; try omega)]; exact c7
        have d2 : W9.cell? ⟨g2, 0, none⟩ = some (.int .i64 n1) := by rw [hW9]; exact fill0 c2
        have d3 : W9.cell? ⟨g2, 1, none⟩ = some (.int .i64 n2) := by rw [hW9]; exact fill1 c2 c3
        have x4 : W9.frozen? ⟨w.heap.size, 0, none⟩ = false := by rw [hW9]; simpa using z4
        have x5 : W9.frozen? ⟨w.heap.size, 1, none⟩ = false := by rw [hW9]; simpa using z5
        have x6 : W9.frozen? ⟨w.heap.size + 1, 0, none⟩ = false := by rw [hW9]; simpa using z6
        have x7 : W9.frozen? ⟨w.heap.size + 1, 1, none⟩ = false := by rw [hW9]; simpa using z7
        rw [← hW9]
        rw [← hW9] at h9
        clear hW9 h hdn2 hn12 c0 c1 c2 c3 c4 c5 c6 c7 z2 z3 z4 z5 z6 z7 b0 b1 b2 b3 b4 b5 b6 b7 y2 y3 y4 y5 y6 y7
        go_region
        go_wp2_with fail
        refine bodyPost_ret (results_two_two rfl _ _ w.heap.size (w.heap.size + 1) (.int .i64 lo) (.int .i64 hi) (.int .i64 n1) (.int .i64 n2) _ rfl rfl (by simp [go_sem, d4]) (by simp [go_sem, d5]) (by simp [go_sem, d6]) (by simp [go_sem, d7]) Tryd.underlying24 rfl (by kernel_rfl)) rfl ?_
        exact ⟨⟨_, _, _, _, rfl, hbd.1, hbn⟩, hup (by first | exact ((((h9.set (Nat.le_refl _) _).set (Nat.le_refl _) _).set (Nat.le_add_right _ _) _).set (Nat.le_add_right _ _) _) | exact ((((h9.set (Nat.le_refl _) _).set (Nat.le_refl _) _).set (Nat.le_add_right _ _) _).set (Nat.le_add_right _ _) _).drew)⟩
end Go.Proofs.YthbbgkpkijlclaaDoor.num
