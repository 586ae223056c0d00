/-
  DrawRangeWiden.
-/
import Derived.Test.YtjjglklbfigmiaaDoorSr8
namespace Go.Proofs.YtjjglklbfigmiaaDoor.num
open Go.ChangeShapes Go.WideShapes Go.ChangeAt Go.RowKit
set_option linter.unusedVariables false


theorem results_two_two_tmp {P : Program} {fn : Func} {p q s : Tmp} {ty : TypeId} (h : fn.results = #[.cell p ty, .cell q ty, .tmp s]) (tmps : Array Value) (w : World) (g g2 : Nat) (x y x2 y2 : Value) (d : TypeDesc)
    (hp : tmps.getD p undef = .pointer (some ⟨g, 0, none⟩)) (hq : tmps.getD q undef = .pointer (some ⟨g2, 0, none⟩)) (c0 : w.cell? ⟨g, 0, none⟩ = some x) (c1 : w.cell? ⟨g, 1, none⟩ = some y)
    (c2 : w.cell? ⟨g2, 0, none⟩ = some x2) (c3 : w.cell? ⟨g2, 1, none⟩ = some y2)
    (hu : P.underlying ty = some d) (hd : d.isRow = true) (hi : (P.info? ty).map (·.size) = some 2) :
    (results fn tmps).run P w = .ok (.tuple #[.agg #[x, y], .agg #[x2, y2], tmps.getD s undef]) w := by
  have hp' : tmps[p]?.getD undef = .pointer (some ⟨g, 0, none⟩) := by simpa using hp
  have hq' : tmps[q]?.getD undef = .pointer (some ⟨g2, 0, none⟩) := by simpa using hq
  have row : ∀ (b : Nat) (u v : Value), w.cell? ⟨b, 0, none⟩ = some u → w.cell? ⟨b, 1, none⟩ = some v → (loadVar ty ⟨b, 0, none⟩).run P w = .ok (.agg #[u, v]) w := fun b u v k0 k1 =>
    run_loadVar_mid (P := P) w b 0 ty [u, v] d (fun j z hj => by
      match j, hj with
      | 0, hj => simp at hj; subst hj; exact k0
      | 1, hj => simp at hj; subst hj; exact k1
      | n + 2, hj => simp at hj) hu hd hi
  simp [results, h, hp', hq', asAddr, row g x y c0 c1, row g2 x2 y2 c2 c3]
theorem row_lower {w : World} {base base' n size : Nat} {e : TypeId} {v : Value} {xs : List Value} (h : w.ownsRow base' e size v n xs) (hb : base ≤ base') : w.ownsRow base e size v n xs := by
  obtain ⟨h1, h2⟩ := h
  refine ⟨h1, ?_⟩
  rcases h2 with h2 | ⟨g, cap, cur, rfl, hg, r⟩
  · exact .inl h2
  · exact .inr ⟨g, cap, cur, rfl, Nat.le_trans hb hg, r⟩
/-- A row in blocks from 'hi' on stays under stores into blocks below 'hi'. -/
theorem row_four {w : World} {hi n size : Nat} {e : TypeId} {v : Value} {xs : List Value} {b1 b2 : Nat} (h : w.ownsRow hi e size v n xs) (h1 : b1 < hi) (h2 : b2 < hi) (u1 u2 u3 u4 : Value) :
    ((((w.setCell ⟨b1, 0, none⟩ u1).setCell ⟨b1, 1, none⟩ u2).setCell ⟨b2, 0, none⟩ u3).setCell ⟨b2, 1, none⟩ u4).ownsRow hi e size v n xs :=
  rws.row_below h (fun g hg => by
    have := (rws.row_lt h g hg).1
    rw [Below.heap_setCell _ ⟨b2, 1, none⟩ _ g (by show g ≠ b2; omega), Below.heap_setCell _ ⟨b2, 0, none⟩ _ g (by show g ≠ b2; omega), Below.heap_setCell _ ⟨b1, 1, none⟩ _ g (by show g ≠ b1; omega), Below.heap_setCell _ ⟨b1, 0, none⟩ _ g (by show g ≠ b1; omega)])
set_option maxRecDepth 100000 in
set_option maxHeartbeats 4000000 in
theorem drawWiden8_any (w : World) (a : Option Addr) (len cap : Nat) (h : Code8 w a len) (hl : len ≤ cap) (hm : cap ≤ 9223372036854775807) :
    Calls Tryd.prog 48 #[.slice a len cap] w fun e w' => (∃ (lo hi lo2 hi2 : Int) (v : Value) (l : List Int), e = .returned (.tuple #[.agg #[.int .i64 lo, .int .i64 hi], .agg #[.int .i64 lo2, .int .i64 hi2], v]) ∧ ((I64 lo ∧ I64 hi) ∧ (I64 lo2 ∧ I64 hi2)) ∧ l.length ≤ 5 ∧ (∀ x ∈ l, I64 x) ∧ w'.ownsRow w.heap.size 3 1 v l.length (l.map (Value.int .i64))) ∧ Below w.heap.size w w' := by
  obtain ⟨W, hW, H⟩ := Hd.two w (.int .i64 0) (.int .i64 0) (.int .i64 0) (.int .i64 0) 25 25
  have hc := h.below H.below
  have hsz : W.heap.size = w.heap.size + 2 := by rw [hW]; simp
  go_enter Tryd.func48, Tryd.ntmps48
  go_wp2_with fail
  rw [← hW]
  clear hW h
  refine (open_any W a len cap hc hl hm).mono ?_
  rintro e w1 ⟨rfl, hst⟩
  have H1 := H.call (hst.below)
  have h := Rk.of_st hst
  have hr : W.heap.size < w1.heap.size := h.lt
  clear hst hc H
  generalize hrr : W.heap.size = r at *
  have hge : w.heap.size + 2 ≤ r := by omega
  clear hsz hrr
  have HH := hide H1
  clear H1
  go_wp2_with fail
  refine (l8Two_rk _ _ _ _ h (by omega)).mono ?_
  rintro e w2 ⟨⟨lo, hi, lo2, hi2, rfl, hbd⟩, h⟩
  have hs2 := h.size
  have b4 : w2.cell? ⟨w.heap.size, 0, none⟩ = some (.int .i64 0) := h.cell (by omega) (by omega) ((unhide HH).get (by simp))
  have b5 : w2.cell? ⟨w.heap.size, 1, none⟩ = some (.int .i64 0) := h.cell (by omega) (by omega) ((unhide HH).get (by simp))
  have b6 : w2.cell? ⟨w.heap.size + 1, 0, none⟩ = some (.int .i64 0) := h.cell (by omega) (by omega) ((unhide HH).get (by simp))
  have b7 : w2.cell? ⟨w.heap.size + 1, 1, none⟩ = some (.int .i64 0) := h.cell (by omega) (by omega) ((unhide HH).get (by simp))
  have y4 : w2.frozen? ⟨w.heap.size, 0, none⟩ = false := h.fz (by omega) (by omega) ((unhide HH).fz (v := .int .i64 0) (by simp))
  have y5 : w2.frozen? ⟨w.heap.size, 1, none⟩ = false := h.fz (by omega) (by omega) ((unhide HH).fz (v := .int .i64 0) (by simp))
  have y6 : w2.frozen? ⟨w.heap.size + 1, 0, none⟩ = false := h.fz (by omega) (by omega) ((unhide HH).fz (v := .int .i64 0) (by simp))
  have y7 : w2.frozen? ⟨w.heap.size + 1, 1, none⟩ = false := h.fz (by omega) (by omega) ((unhide HH).fz (v := .int .i64 0) (by simp))
  have L2 : Hd w2 [] w2 := Hd.start w2
  have L4 := (L2.box (.int .i64 lo) (.int .i64 hi) 25).box (.int .i64 lo2) (.int .i64 hi2) 25
  rw [size_alloc1] at L4
  have hbw : Below w.heap.size w w2 := (unhide HH).below.trans (h.below (by omega) (by omega))
  have hlt : w.heap.size + 2 ≤ w2.heap.size := by omega
  have hr2 : r < w2.heap.size := h.lt
  clear hs2 HH
  go_upto_region 3 with fail
  have hB4 : Below w2.heap.size w2 ((w2.alloc (.cells #[.int .i64 lo, .int .i64 hi] 25)).alloc (.cells #[.int .i64 lo2, .int .i64 hi2] 25)) := L4.below
  have hsz4' : ((w2.alloc (.cells #[.int .i64 lo, .int .i64 hi] 25)).alloc (.cells #[.int .i64 lo2, .int .i64 hi2] 25)).heap.size = w2.heap.size + 2 := by rw [size_alloc1, size_alloc1]
  generalize (w2.alloc (.cells #[.int .i64 lo, .int .i64 hi] 25)).alloc (.cells #[.int .i64 lo2, .int .i64 hi2] 25) = W4 at *
  have c0 := L4.get (b := w2.heap.size) (o := 0) (v := .int .i64 lo) (by simp)
  have c1 := L4.get (b := w2.heap.size) (o := 1) (v := .int .i64 hi) (by simp)
  have c2 := L4.get (b := w2.heap.size + 1) (o := 0) (v := .int .i64 lo2) (by simp)
  have c3 := L4.get (b := w2.heap.size + 1) (o := 1) (v := .int .i64 hi2) (by simp)
  have d4 : W4.cell? ⟨w.heap.size, 0, none⟩ = some (.int .i64 0) := by rw [hB4.cell (p := ⟨w.heap.size, 0, none⟩) (by show w.heap.size < _; omega)]; exact b4
  have d5 : W4.cell? ⟨w.heap.size, 1, none⟩ = some (.int .i64 0) := by rw [hB4.cell (p := ⟨w.heap.size, 1, none⟩) (by show w.heap.size < _; omega)]; exact b5
  have d6 : W4.cell? ⟨w.heap.size + 1, 0, none⟩ = some (.int .i64 0) := by rw [hB4.cell (p := ⟨w.heap.size + 1, 0, none⟩) (by show w.heap.size + 1 < _; omega)]; exact b6
  have d7 : W4.cell? ⟨w.heap.size + 1, 1, none⟩ = some (.int .i64 0) := by rw [hB4.cell (p := ⟨w.heap.size + 1, 1, none⟩) (by show w.heap.size + 1 < _; omega)]; exact b7
  have x4 : W4.frozen? ⟨w.heap.size, 0, none⟩ = false := by rw [hB4.frozen (p := ⟨w.heap.size, 0, none⟩) (by show w.heap.size < _; omega)]; exact y4
  have x5 : W4.frozen? ⟨w.heap.size, 1, none⟩ = false := by rw [hB4.frozen (p := ⟨w.heap.size, 1, none⟩) (by show w.heap.size < _; omega)]; exact y5
  have x6 : W4.frozen? ⟨w.heap.size + 1, 0, none⟩ = false := by rw [hB4.frozen (p := ⟨w.heap.size + 1, 0, none⟩) (by show w.heap.size + 1 < _; omega)]; exact y6
  have x7 : W4.frozen? ⟨w.heap.size + 1, 1, none⟩ = false := by rw [hB4.frozen (p := ⟨w.heap.size + 1, 1, none⟩) (by show w.heap.size + 1 < _; omega)]; exact y7
  have h := (h.call hB4).here
  have hsz4 : W4.heap.size = w2.heap.size + 2 := hsz4'
  have hb4 : Below w.heap.size w W4 := below_up hbw (by omega) hB4
  clear b4 b5 b6 b7 y4 y5 y6 y7 L2 L4 hB4 hbw
  clear hsz4'
  generalize hg : w2.heap.size = g at *
  clear hg
  have hw4 : w.heap.size ≤ W4.heap.size := by omega
  go_region_with (go_at_call 101; refine (l8Steps_rk _ _ _ _ (by first | exact h | exact h.drew) (by omega)).mono ?_; rintro e w6 ⟨⟨v, l, rfl, hl5, hx, hrow⟩, h⟩; have e0 := h.cell (b := g) (o := 0) (v := .int .i64 lo) (by omega) (by omega) c0; have e1 := h.cell (b := g) (o := 1) (v := .int .i64 hi) (by omega) (by omega) c1; have e2 := h.cell (b := g + 1) (o := 0) (v := .int .i64 lo2) (by omega) (by omega) c2; have e3 := h.cell (b := g + 1) (o := 1) (v := .int .i64 hi2) (by omega) (by omega) c3; have e4 := h.cell (b := w.heap.size) (o := 0) (v := .int .i64 0) (by omega) (by omega) d4; have e5 := h.cell (b := w.heap.size) (o := 1) (v := .int .i64 0) (by omega) (by omega) d5; have e6 := h.cell (b := w.heap.size + 1) (o := 0) (v := .int .i64 0) (by omega) (by omega) d6; have e7 := h.cell (b := w.heap.size + 1) (o := 1) (v := .int .i64 0) (by omega) (by omega) d7; have z4 := h.fz (b := w.heap.size) (o := 0) (by omega) (by omega) x4; have z5 := h.fz (b := w.heap.size) (o := 1) (by omega) (by omega) x5; have z6 := h.fz (b := w.heap.size + 1) (o := 0) (by omega) (by omega) x6; have z7 := h.fz (b := w.heap.size + 1) (o := 1) (by omega) (by omega) x7)
  all_goals go_wp2_with fail
  all_goals refine bodyPost_ret (results_two_two_tmp rfl _ _ w.heap.size (w.heap.size + 1) (.int .i64 lo) (.int .i64 hi) (.int .i64 lo2) (.int .i64 hi2) _ rfl rfl (by simp [go_sem, e4]) (by simp [go_sem, e5]) (by simp [go_sem, e6]) (by simp [go_sem, e7]) Tryd.underlying25 rfl (by kernel_rfl)) rfl ?_
  all_goals refine ⟨⟨_, _, _, _, _, l, rfl, hbd, hl5, hx, ?_⟩, (((((hb4.trans (h.below (by omega) hw4)).setCell (by exact Nat.le_refl _) _).setCell (by exact Nat.le_refl _) _).setCell (by exact Nat.le_add_right _ _) _).setCell (by exact Nat.le_add_right _ _) _)⟩
  all_goals exact row_lower (row_four hrow (by show w.heap.size < W4.heap.size; omega) (by show w.heap.size + 1 < W4.heap.size; omega) _ _ _ _) (by show w.heap.size ≤ W4.heap.size; omega)
end Go.Proofs.YtjjglklbfigmiaaDoor.num
