/-
  For every arguments the law FnExactValJoin returns true and writes nothing that was there; its package variables as the program's text lays them.
-/
import Derived.Test.YthbbgkpkijlclaaDoorLB
import Derived.Test.YthbbgkpkijlclaaDoorMA
import Derived.SevenTiedAt
import Derived.Stop.LaidErr
import Derived.ShutString
import Derived.ChangeOld
import Derived.Below
namespace Go.Proofs.YthbbgkpkijlclaaDoor.fnExactValJoin
open Go.ChangeShapes Go.WideShapes Go.ChangeAt Go.RowKit Go.Proofs.YthbbgkpkijlclaaDoor.num
set_option linter.unusedVariables false

/-- The variables that the row lists. -/
abbrev laid : List (String × DataW Unit) := Rows.fnExactValJoinRow.laid
/-- The door's own heap meets the condition. -/
theorem door_met (os : Os) (args : Array Value) : laidMetH Tryd.prog laid ((World.doorLaid Tryd.prog 400 os).forCall (fun _ _ => 0) ⟨#[], args, []⟩).memory :=
  laidMetH_of_parts3 (fuel := 8) (laidMet_of_run' 8 (by kernel_rfl) (by kernel_rfl)) (by kernel_rfl) (by kernel_rfl)
theorem laid_of {W : World} (h : laidMetH Tryd.prog laid W) : Gn W ∧ Gv W 1 (1, 0) ∧ Gv W 2 (1, 0) := by
  rw [MakeChecks.laidMetH_plain _ _ _ (by kernel_rfl)] at h
  exact ⟨gn_of_head (by kernel_rfl) (by kernel_rfl) h, gv_of_head (by kernel_rfl) (by kernel_rfl) (laidMet.tail h), gv_of_headQ (by kernel_rfl) (by kernel_rfl) (laidMet.tail (laidMet.tail h))⟩
set_option maxRecDepth 100000 in
set_option maxHeartbeats 4000000 in
theorem walk (x y m t x2 y2 m2 t2 : Int) (w : World) (hN : Gn w) (hR : Gv w 1 (1, 0)) (hQ : Gv w 2 (1, 0)) :
    Calls Tryd.prog 10 #[.agg #[.int .i64 x, .int .i64 y, .int .i64 m, .int .i64 t], .agg #[.int .i64 x2, .int .i64 y2, .int .i64 m2, .int .i64 t2]] w fun e w' => e = .returned (.bool true) ∧ Below w.heap.size w w' := by
  have hS := fun w => sVJoin_xy x y m t x2 y2 m2 t2 w
  have hI := fun w (hN : Gn w) (hR : Gv w 1 none8) (hQ : Gq w) => iVJoin_xy x y m t x2 y2 m2 t2 w hN hR hQ
  generalize join10 (x, y, m, t) (x2, y2, m2, t2) = q at *
  obtain ⟨W, hW, H⟩ : ∃ W, W = (w.alloc (.cells #[.int .i64 x, .int .i64 y, .int .i64 m, .int .i64 t] 56)).alloc (.cells #[.int .i64 x2, .int .i64 y2, .int .i64 m2, .int .i64 t2] 56) ∧ Hd w [(w.heap.size + 1, 0, .int .i64 x2), (w.heap.size + 1, 1, .int .i64 y2), (w.heap.size + 1, 2, .int .i64 m2), (w.heap.size + 1, 3, .int .i64 t2), (w.heap.size, 0, .int .i64 x), (w.heap.size, 1, .int .i64 y), (w.heap.size, 2, .int .i64 m), (w.heap.size, 3, .int .i64 t)] W := ⟨_, rfl, by
    have h := (((Hd.start w).box4 (.int .i64 x) (.int .i64 y) (.int .i64 m) (.int .i64 t) 56).box4 (.int .i64 x2) (.int .i64 y2) (.int .i64 m2) (.int .i64 t2) 56)
    simp only [size_alloc1] at h
    exact h⟩
  go_enter Tryd.func10, Tryd.ntmps10
  go_wp2_with fail
  rw [← hW]
  clear hW
  apply wp_region_free1 6 5 5 (.cells #[.int .i64 0, .int .i64 0, .int .i64 0, .int .i64 0] 30) (Nat.le_of_ble_eq_true rfl) (by kernel_rfl) (by kernel_rfl) (by kernel_rfl) (by kernel_rfl) (by intro o ho; have ho' := Option.some.inj ho; subst ho'; intro a w; kernel_rfl)
  case hq =>
    intro W hWB
    replace H := H.call hWB
    have hN1 := hN.below H.below
    have hR1 := hR.below H.below
    have hQ1 := Gv.below hQ H.below
    have k0 := fun p : Over _ => H.over (b := w.heap.size + 1) (o := 0) (v := .int .i64 x2) (by simp) p
    have k1 := fun p : Over _ => H.over (b := w.heap.size + 1) (o := 1) (v := .int .i64 y2) (by simp) p
    have k2 := fun p : Over _ => H.over (b := w.heap.size + 1) (o := 2) (v := .int .i64 m2) (by simp) p
    have k3 := fun p : Over _ => H.over (b := w.heap.size + 1) (o := 3) (v := .int .i64 t2) (by simp) p
    have k4 := fun p : Over _ => H.over (b := w.heap.size) (o := 0) (v := .int .i64 x) (by simp) p
    have k5 := fun p : Over _ => H.over (b := w.heap.size) (o := 1) (v := .int .i64 y) (by simp) p
    have k6 := fun p : Over _ => H.over (b := w.heap.size) (o := 2) (v := .int .i64 m) (by simp) p
    have k7 := fun p : Over _ => H.over (b := w.heap.size) (o := 3) (v := .int .i64 t) (by simp) p
    simp only [rep, List.take_succ_cons, List.take_zero, List.contains_cons, List.contains_nil, Nat.reduceBEq, Bool.or_false, Bool.false_eq_true, ↓reduceIte, Nat.reduceAdd, Nat.zero_add, tv, tw, Bool.or_self, beq_self_eq_true]
    repeat (go_big_quiet_step (first | (go_at_call 48; rename_i p; refine (toVal_xy _ _ _ _ _).mono ?_; rintro e' w' ⟨rfl, hb1⟩; exact ⟨rfl, p.next hb1⟩) | (go_at_call 34; rename_i p; refine (hS _).mono ?_; rintro e' w' ⟨rfl, hb1⟩; exact ⟨rfl, p.next hb1⟩)))
    exact wpQuiet_nil rfl
  case hk =>
    intro w4 g hb hg0 hg1 hg
    simp only [List.drop_succ_cons, List.drop_zero, Act.put, ptr0, List.setIfInBounds_toArray, List.set_cons_succ, List.set_cons_zero]
    have hl0 := H.lt (b := w.heap.size + 1) (o := 0) (v := .int .i64 x2) (by simp)
    have hl1 := H.lt (b := w.heap.size) (o := 0) (v := .int .i64 x) (by simp)
    have H1 := (H.call hb).new4 hg1 hg
    have dc0 := H1.get (b := g) (o := 0) (v := .int .i64 0) (by simp)
    have dc1 := H1.get (b := g) (o := 1) (v := .int .i64 0) (by simp)
    have dc2 := H1.get (b := g) (o := 2) (v := .int .i64 0) (by simp)
    have dc3 := H1.get (b := g) (o := 3) (v := .int .i64 0) (by simp)
    have dz0 := H1.fz (b := g) (o := 0) (v := .int .i64 0) (by simp)
    have dz1 := H1.fz (b := g) (o := 1) (v := .int .i64 0) (by simp)
    have dz2 := H1.fz (b := g) (o := 2) (v := .int .i64 0) (by simp)
    have dz3 := H1.fz (b := g) (o := 3) (v := .int .i64 0) (by simp)
    obtain ⟨w5, hw5, H5⟩ : ∃ W5, W5 = ((((w4.setCell ⟨g, 0, none⟩ (.int .i64 q.1)).setCell ⟨g, 1, none⟩ (.int .i64 q.2.1)).setCell ⟨g, 2, none⟩ (.int .i64 q.2.2.1)).setCell ⟨g, 3, none⟩ (.int .i64 q.2.2.2)) ∧ Hd w [(g, 0, .int .i64 q.1), (g, 1, .int .i64 q.2.1), (g, 2, .int .i64 q.2.2.1), (g, 3, .int .i64 q.2.2.2), (w.heap.size + 1, 0, .int .i64 x2), (w.heap.size + 1, 1, .int .i64 y2), (w.heap.size + 1, 2, .int .i64 m2), (w.heap.size + 1, 3, .int .i64 t2), (w.heap.size, 0, .int .i64 x), (w.heap.size, 1, .int .i64 y), (w.heap.size, 2, .int .i64 m), (w.heap.size, 3, .int .i64 t)] W5 := ⟨_, rfl, by
      exact Hd.setF H1 (by omega) (by simp; omega) (.int .i64 q.1) (.int .i64 q.2.1) (.int .i64 q.2.2.1) (.int .i64 q.2.2.2)⟩
    clear hb hl0 hl1
    go_simp
    go_wp2
    rw [← hw5]
    clear hw5 H H1
    have H := H5
    clear H5
    clear dc0 dc1 dc2 dc3 dz0 dz1 dz2 dz3
    apply wp_region_free1 6 5 6 (.cells #[.int .i64 0, .int .i64 0, .int .i64 0, .int .i64 0] 30) (Nat.le_of_ble_eq_true rfl) (by kernel_rfl) (by kernel_rfl) (by kernel_rfl) (by kernel_rfl) (by intro o ho; have ho' := Option.some.inj ho; subst ho'; intro a w; kernel_rfl)
    case hq =>
      intro W hWB
      replace H := H.call hWB
      have hN1 := hN.below H.below
      have hR1 := hR.below H.below
      have hQ1 := Gv.below hQ H.below
      have k0 := fun p : Over _ => H.over (b := g) (o := 0) (v := .int .i64 q.1) (by simp) p
      have k1 := fun p : Over _ => H.over (b := g) (o := 1) (v := .int .i64 q.2.1) (by simp) p
      have k2 := fun p : Over _ => H.over (b := g) (o := 2) (v := .int .i64 q.2.2.1) (by simp) p
      have k3 := fun p : Over _ => H.over (b := g) (o := 3) (v := .int .i64 q.2.2.2) (by simp) p
      have k4 := fun p : Over _ => H.over (b := w.heap.size + 1) (o := 0) (v := .int .i64 x2) (by simp) p
      have k5 := fun p : Over _ => H.over (b := w.heap.size + 1) (o := 1) (v := .int .i64 y2) (by simp) p
      have k6 := fun p : Over _ => H.over (b := w.heap.size + 1) (o := 2) (v := .int .i64 m2) (by simp) p
      have k7 := fun p : Over _ => H.over (b := w.heap.size + 1) (o := 3) (v := .int .i64 t2) (by simp) p
      have k8 := fun p : Over _ => H.over (b := w.heap.size) (o := 0) (v := .int .i64 x) (by simp) p
      have k9 := fun p : Over _ => H.over (b := w.heap.size) (o := 1) (v := .int .i64 y) (by simp) p
      have k10 := fun p : Over _ => H.over (b := w.heap.size) (o := 2) (v := .int .i64 m) (by simp) p
      have k11 := fun p : Over _ => H.over (b := w.heap.size) (o := 3) (v := .int .i64 t) (by simp) p
      simp only [rep, List.take_succ_cons, List.take_zero, List.contains_cons, List.contains_nil, Nat.reduceBEq, Bool.or_false, Bool.false_eq_true, ↓reduceIte, Nat.reduceAdd, Nat.zero_add, tv, tw, Bool.or_self, beq_self_eq_true]
      repeat (go_big_quiet_step (first | (go_at_call 48; rename_i p; refine (toVal_xy _ _ _ _ _).mono ?_; rintro e' w' ⟨rfl, hb1⟩; exact ⟨rfl, p.next hb1⟩) | (go_at_call 31; rename_i p; refine (hI _ (hN1.over p) (hR1.over p) (Gv.over hQ1 p)).mono ?_; rintro e' w' ⟨rfl, hb1⟩; exact ⟨rfl, p.next hb1⟩)))
      exact wpQuiet_nil rfl
    case hk =>
      intro w4 g1 hb hg0 hg1 hg
      simp only [List.drop_succ_cons, List.drop_zero, Act.put, ptr0, List.setIfInBounds_toArray, List.set_cons_succ, List.set_cons_zero]
      have hl0 := H.lt (b := g) (o := 0) (v := .int .i64 q.1) (by simp)
      have hl1 := H.lt (b := w.heap.size + 1) (o := 0) (v := .int .i64 x2) (by simp)
      have hl2 := H.lt (b := w.heap.size) (o := 0) (v := .int .i64 x) (by simp)
      have H1 := (H.call hb).new4 hg1 hg
      have dc0 := H1.get (b := g1) (o := 0) (v := .int .i64 0) (by simp)
      have dc1 := H1.get (b := g1) (o := 1) (v := .int .i64 0) (by simp)
      have dc2 := H1.get (b := g1) (o := 2) (v := .int .i64 0) (by simp)
      have dc3 := H1.get (b := g1) (o := 3) (v := .int .i64 0) (by simp)
      have dz0 := H1.fz (b := g1) (o := 0) (v := .int .i64 0) (by simp)
      have dz1 := H1.fz (b := g1) (o := 1) (v := .int .i64 0) (by simp)
      have dz2 := H1.fz (b := g1) (o := 2) (v := .int .i64 0) (by simp)
      have dz3 := H1.fz (b := g1) (o := 3) (v := .int .i64 0) (by simp)
      obtain ⟨w5, hw5, H5⟩ : ∃ W5, W5 = ((((w4.setCell ⟨g1, 0, none⟩ (.int .i64 q.1)).setCell ⟨g1, 1, none⟩ (.int .i64 q.2.1)).setCell ⟨g1, 2, none⟩ (.int .i64 q.2.2.1)).setCell ⟨g1, 3, none⟩ (.int .i64 q.2.2.2)) ∧ Hd w [(g1, 0, .int .i64 q.1), (g1, 1, .int .i64 q.2.1), (g1, 2, .int .i64 q.2.2.1), (g1, 3, .int .i64 q.2.2.2), (g, 0, .int .i64 q.1), (g, 1, .int .i64 q.2.1), (g, 2, .int .i64 q.2.2.1), (g, 3, .int .i64 q.2.2.2), (w.heap.size + 1, 0, .int .i64 x2), (w.heap.size + 1, 1, .int .i64 y2), (w.heap.size + 1, 2, .int .i64 m2), (w.heap.size + 1, 3, .int .i64 t2), (w.heap.size, 0, .int .i64 x), (w.heap.size, 1, .int .i64 y), (w.heap.size, 2, .int .i64 m), (w.heap.size, 3, .int .i64 t)] W5 := ⟨_, rfl, by
        exact Hd.setF H1 (by omega) (by simp; omega) (.int .i64 q.1) (.int .i64 q.2.1) (.int .i64 q.2.2.1) (.int .i64 q.2.2.2)⟩
      have hx0_0 : g ≠ g1 := by omega
      have hy0_0 := H1.get (b := g) (o := 0) (v := .int .i64 q.1) (by simp)
      have hy0_1 := H1.get (b := g) (o := 1) (v := .int .i64 q.2.1) (by simp)
      have hy0_2 := H1.get (b := g) (o := 2) (v := .int .i64 q.2.2.1) (by simp)
      have hy0_3 := H1.get (b := g) (o := 3) (v := .int .i64 q.2.2.2) (by simp)
      clear hb hl0 hl1 hl2
      go_simp
      go_wp2_with (go_at_call 47; rw [← hw5]; clear hw5 H H1; have H := H5; clear H5; refine (eqVal_xy _ _ _ _ _ _ _ _ _).mono ?_; rintro e w' ⟨rfl, hb⟩; rw [show (decide (q.1 = q.1) && (decide (q.2.1 = q.2.1) && (decide (q.2.2.1 = q.2.2.1) && decide (q.2.2.2 = q.2.2.2)))) = true by simp]; replace H := H.call hb; clear hb)
      go_ret
      exact ⟨rfl, H.below⟩
end Go.Proofs.YthbbgkpkijlclaaDoor.fnExactValJoin
