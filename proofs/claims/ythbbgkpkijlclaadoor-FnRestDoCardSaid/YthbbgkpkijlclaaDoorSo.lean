/-
  Draws of ranges.
-/
import Derived.Test.YthbbgkpkijlclaaDoorSn
namespace Go.Proofs.YthbbgkpkijlclaaDoor.num
open Go.ChangeShapes Go.WideShapes Go.ChangeAt Go.RowKit
set_option linter.unusedVariables false


theorem Rk.of_st {w0 w : World} {r B : Nat} (h : St w0 r B w) : Rk w r B w := by
  obtain ⟨k, hk, hr, hkp, hs⟩ := h
  exact ⟨⟨k, hr⟩, k, hk, hr, Kept.refl _ _⟩
theorem Rk.below {w0 w : World} {r B n : Nat} (h : Rk w0 r B w) (h1 : n ≤ r) (h2 : n ≤ w0.heap.size) : Below n w0 w := by
  obtain ⟨-, k, hk, hd, hkp⟩ := h
  exact hkp.below h1 h2
theorem Rk.drew {w0 w : World} {r B : Nat} (h : Rk w0 r B w) : Rk w0 r B w.drew := h.call (Below.refl _ _).drew
/-- Four cells of two results are told by a tuple. -/
theorem results_tmp_two_two {P : Program} {fn : Func} {p q s : Tmp} {ty : TypeId} (h : fn.results = #[.tmp s, .cell p ty, .cell q ty]) (tmps : Array Value) (w : World) (g g2 : Nat) (x y x2 y2 : Value) (d : TypeDesc)
    (hp : tmps.getD p undef = .pointer (some ⟨g, 0, none⟩)) (hq : tmps.getD q undef = .pointer (some ⟨g2, 0, none⟩)) (c0 : w.cell? ⟨g, 0, none⟩ = some x) (c1 : w.cell? ⟨g, 1, none⟩ = some y)
    (c2 : w.cell? ⟨g2, 0, none⟩ = some x2) (c3 : w.cell? ⟨g2, 1, none⟩ = some y2)
    (hu : P.underlying ty = some d) (hd : d.isRow = true) (hi : (P.info? ty).map (·.size) = some 2) :
    (results fn tmps).run P w = .ok (.tuple #[tmps.getD s undef, .agg #[x, y], .agg #[x2, y2]]) w := by
  have hp' : tmps[p]?.getD undef = .pointer (some ⟨g, 0, none⟩) := by simpa using hp
  have hq' : tmps[q]?.getD undef = .pointer (some ⟨g2, 0, none⟩) := by simpa using hq
  have row : ∀ (b : Nat) (u v : Value), w.cell? ⟨b, 0, none⟩ = some u → w.cell? ⟨b, 1, none⟩ = some v → (loadVar ty ⟨b, 0, none⟩).run P w = .ok (.agg #[u, v]) w := fun b u v k0 k1 =>
    run_loadVar_mid (P := P) w b 0 ty [u, v] d (fun j z hj => by
      match j, hj with
      | 0, hj => simp at hj; subst hj; exact k0
      | 1, hj => simp at hj; subst hj; exact k1
      | n + 2, hj => simp at hj) hu hd hi
  simp [results, h, hp', hq', asAddr, row g x y c0 c1, row g2 x2 y2 c2 c3]
set_option maxRecDepth 100000 in
set_option maxHeartbeats 4000000 in
theorem drawDo8_any (w : World) (a : Option Addr) (len cap : Nat) (h : Code8 w a len) (hl : len ≤ cap) (hm : cap ≤ 9223372036854775807) :
    Calls Tryd.prog 57 #[.slice a len cap] w fun e w' => (∃ op lo hi lo2 hi2 : Int, e = .returned (.tuple #[.int .i64 op, .agg #[.int .i64 lo, .int .i64 hi], .agg #[.int .i64 lo2, .int .i64 hi2]]) ∧ (-1 ≤ op ∧ op ≤ 14) ∧
      (-9223372036854775808 ≤ lo ∧ lo ≤ 9223372036854775807 ∧ -9223372036854775808 ≤ hi ∧ hi ≤ 9223372036854775807) ∧ (-9223372036854775808 ≤ lo2 ∧ lo2 ≤ 9223372036854775807 ∧ -9223372036854775808 ≤ hi2 ∧ hi2 ≤ 9223372036854775807)) ∧ Below w.heap.size w w' := by
  obtain ⟨W, hW, H⟩ := Hd.two w (.int .i64 0) (.int .i64 0) (.int .i64 0) (.int .i64 0) 24 24
  have hc := h.below H.below
  have hsz : W.heap.size = w.heap.size + 2 := by rw [hW]; simp
  go_enter Tryd.func57, Tryd.ntmps57
  go_wp2_with fail
  rw [← hW]
  clear hW h
  refine (open_any W a len cap hc hl hm).mono ?_
  rintro e w1 ⟨rfl, hst⟩
  have H1 := H.call (hst.below)
  have h := Rk.of_st hst
  have hr : W.heap.size < w1.heap.size := h.lt
  clear hst hc H
  generalize hrr : W.heap.size = r at *
  have hge : w.heap.size + 2 ≤ r := by omega
  clear hsz hrr
  have HH := hide H1
  clear H1
  go_wp2_with (first
    | (go_at_call 109; refine (pick_rk _ _ _ _ _ h (by omega) (by omega) (by omega)).mono ?_; rintro e wx ⟨v, rfl, v0, v1, h⟩)
    | (go_at_call 83; refine (l8Wild_rk _ _ _ _ h (by omega)).mono ?_; rintro e w5 ⟨⟨lo, hi, rfl, hb1⟩, h⟩))
  all_goals
    have h5 := h
    obtain ⟨W5, hW5, e0, e1, hlt5, hB5, -, -, -⟩ := box2 w5 (.int .i64 lo) (.int .i64 hi) 24
    rw [← hW5]
    clear hW5
    replace h := h.call hB5
    have hs5 := h5.size
    have hg5 : r < w5.heap.size := h5.lt
    generalize w5.heap.size = g at *
    have b0 : W5.cell? ⟨g, 0, none⟩ = some (.int .i64 lo) := e0
    have b1 : W5.cell? ⟨g, 1, none⟩ = some (.int .i64 hi) := e1
    have b2 : W5.cell? ⟨w.heap.size, 0, none⟩ = some (.int .i64 0) := h.cell (by omega) (by omega) ((unhide HH).get (by simp))
    have b3 : W5.cell? ⟨w.heap.size, 1, none⟩ = some (.int .i64 0) := h.cell (by omega) (by omega) ((unhide HH).get (by simp))
    have b4 : W5.cell? ⟨w.heap.size + 1, 0, none⟩ = some (.int .i64 0) := h.cell (by omega) (by omega) ((unhide HH).get (by simp))
    have b5 : W5.cell? ⟨w.heap.size + 1, 1, none⟩ = some (.int .i64 0) := h.cell (by omega) (by omega) ((unhide HH).get (by simp))
    have y2 : W5.frozen? ⟨w.heap.size, 0, none⟩ = false := h.fz (by omega) (by omega) ((unhide HH).fz (v := .int .i64 0) (by simp))
    have y3 : W5.frozen? ⟨w.heap.size, 1, none⟩ = false := h.fz (by omega) (by omega) ((unhide HH).fz (v := .int .i64 0) (by simp))
    have y4 : W5.frozen? ⟨w.heap.size + 1, 0, none⟩ = false := h.fz (by omega) (by omega) ((unhide HH).fz (v := .int .i64 0) (by simp))
    have y5 : W5.frozen? ⟨w.heap.size + 1, 1, none⟩ = false := h.fz (by omega) (by omega) ((unhide HH).fz (v := .int .i64 0) (by simp))
    have hbw : Below w.heap.size w W5 := (unhide HH).below.trans (h.below (by omega) (by omega))
    have hw5 : w.heap.size ≤ W5.heap.size := by omega
    clear e0 e1 h5 hs5
    replace h := h.here
    go_region_with (go_at_call 131; refine (l8Shift_rk _ _ _ _ _ (by first | exact h | exact h.drew) (by omega)).mono ?_; rintro e w6 ⟨⟨lo2, hi2, rfl, hok⟩, h⟩; have c0 := h.cell (b := g) (o := 0) (v := .int .i64 lo) (by omega) (by omega) b0; have c1 := h.cell (b := g) (o := 1) (v := .int .i64 hi) (by omega) (by omega) b1; have c2 := h.cell (b := w.heap.size) (o := 0) (v := .int .i64 0) (by omega) (by omega) b2; have c3 := h.cell (b := w.heap.size) (o := 1) (v := .int .i64 0) (by omega) (by omega) b3; have c4 := h.cell (b := w.heap.size + 1) (o := 0) (v := .int .i64 0) (by omega) (by omega) b4; have c5 := h.cell (b := w.heap.size + 1) (o := 1) (v := .int .i64 0) (by omega) (by omega) b5; have z2 := h.fz (b := w.heap.size) (o := 0) (by omega) (by omega) y2; have z3 := h.fz (b := w.heap.size) (o := 1) (by omega) (by omega) y3; have z4 := h.fz (b := w.heap.size + 1) (o := 0) (by omega) (by omega) y4; have z5 := h.fz (b := w.heap.size + 1) (o := 1) (by omega) (by omega) y5)
    all_goals go_wp2_with fail
    all_goals refine bodyPost_ret (results_tmp_two_two rfl _ _ w.heap.size (w.heap.size + 1) (.int .i64 lo) (.int .i64 hi) (.int .i64 lo2) (.int .i64 hi2) _ rfl rfl (by simp [go_sem, *]) (by simp [go_sem, *]) (by simp [go_sem, *]) (by simp [go_sem, *]) Tryd.underlying24 rfl (by kernel_rfl)) rfl ?_
    all_goals have hq := (rOk_iff _).1 hok
    all_goals simp only at hq
    all_goals exact ⟨⟨_, _, _, _, _, rfl, by omega, hb1, by omega, by omega, by omega, by omega⟩, (((((hbw.trans (h.below (by omega) hw5)).setCell (by exact Nat.le_refl _) _).setCell (by exact Nat.le_refl _) _).setCell (by exact Nat.le_add_right _ _) _).setCell (by exact Nat.le_add_right _ _) _)⟩
end Go.Proofs.YthbbgkpkijlclaaDoor.num
