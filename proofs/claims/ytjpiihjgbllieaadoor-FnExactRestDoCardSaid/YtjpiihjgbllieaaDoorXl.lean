/-
  The program's RestDo: shifts.
-/
import Derived.Test.YtjpiihjgbllieaaDoorXk
namespace Go.Proofs.YtjpiihjgbllieaaDoor.num
open Go.ChangeShapes Go.WideShapes Go.ChangeAt Go.RowKit
set_option linter.unusedVariables false

set_option maxRecDepth 100000 in
set_option maxHeartbeats 4000000 in
theorem iDo_9rest (x y x2 y2 : Int) (h : qOk (x, y) = true) (h2 : qOk (x2, y2) = true) (hab : ¬ (x = 0 ∧ x2 = 0)) (w : World) (hG : Gq w) (hS : Gv w 3 (0, 31)) (hx2 : x2 ≠ 0) :
    Calls Tryd.prog 15 #[.int .i64 9, .agg #[.int .i64 x, .int .i64 y], .agg #[.int .i64 x2, .int .i64 y2]] w fun e w' => e = .returned (.agg #[.int .i64 (do9 9 (x, y) (x2, y2)).1, .int .i64 (do9 9 (x, y) (x2, y2)).2]) ∧ Below w.heap.size w w' := by
  have hef := eql_func
  have hen := eql_nil
  have hrf := eqlR_func
  have hrn := eqlR_nil
  have e : do9 9 (x, y) (x2, y2) = (1, 0) := by
    unfold do9
    rw [if_neg (by simp [h, h2]; decide), if_neg (by simp [hx2])]
    simp [hx2, all9]
  rw [e]
  have hcall : ∀ w1 : World, Gq w1 → Gv w1 3 (0, 31) → Calls Tryd.prog 136 #[.agg #[.int .i64 x, .int .i64 y], .agg #[.int .i64 x2, .int .i64 y2]] w1 fun e w' => e = .returned (.agg #[.int .i64 ((1, 0) : T9).1, .int .i64 ((1, 0) : T9).2]) ∧ Below w1.heap.size w1 w' := fun w1 hg hs2 => shiftR_rest x y x2 y2 w1 hg hs2 hx2
  generalize ((1, 0) : T9) = q at *
  have ho : inB 9 1 13 = true := by decide
  have hop : ∀ w1 : World, Calls Tryd.prog 58 #[.int .i64 9] w1 fun e w' => e = .returned (.func (Fn.func (kOf 9)) #[] #[]) ∧ Below w1.heap.size w1 w' := fun w1 => oper_any 9 ho w1
  have hro : ∀ w1 : World, Calls Tryd.prog 61 #[.int .i64 9] w1 fun e w' => e = .returned (.func (Fn.func 136) #[] #[]) ∧ w'.cell? ⟨w1.heap.size, 0, none⟩ = some (.int .i64 0) ∧ w1.heap.size < w'.heap.size ∧ Below w1.heap.size w1 w' := fun w1 => restOper_9 w1
  generalize kOf 9 = K at *
  obtain ⟨W, hW, H⟩ := Hd.three w (.int .i64 x) (.int .i64 y) (.int .i64 x2) (.int .i64 y2) (.int .i64 0) (.int .i64 0) 24 24 24
  have hdy : decide (x2 = 0) = decide (x2 = 0) := rfl
  by_cases hx0 : x = 0
  · subst hx0
    have hdx : decide ((0 : Int) = 0) = true := by simp
    have hdy : decide (x2 = 0) = false := by simp; omega
    go_enter Tryd.func15, Tryd.ntmps15
    go_wp2_with fail
    rw [← hW]
    clear hW
    have c0 := H.get (b := w.heap.size) (o := 0) (v := .int .i64 0) (by simp)
    have c1 := H.get (b := w.heap.size) (o := 1) (v := .int .i64 y) (by simp)
    have c2 := H.get (b := w.heap.size + 1) (o := 0) (v := .int .i64 x2) (by simp)
    have c3 := H.get (b := w.heap.size + 1) (o := 1) (v := .int .i64 y2) (by simp)
    have c4 := H.get (b := w.heap.size + 2) (o := 0) (v := .int .i64 0) (by simp)
    have c5 := H.get (b := w.heap.size + 2) (o := 1) (v := .int .i64 0) (by simp)
    have z0 := H.fz (b := w.heap.size + 2) (o := 0) (v := .int .i64 0) (by simp)
    have z1 := H.fz (b := w.heap.size + 2) (o := 1) (v := .int .i64 0) (by simp)
    obtain ⟨gs, g0, g1, gz⟩ := Gq.all (Gv.below hG H.below)
    go_wp2_with (first | (go_at_call 58; refine (hop _).mono ?_; rintro e w' ⟨rfl, hb⟩; replace H := H.call hb; have c0 := H.get (b := w.heap.size) (o := 0) (v := .int .i64 0) (by simp); have c1 := H.get (b := w.heap.size) (o := 1) (v := .int .i64 y) (by simp); have c2 := H.get (b := w.heap.size + 1) (o := 0) (v := .int .i64 x2) (by simp); have c3 := H.get (b := w.heap.size + 1) (o := 1) (v := .int .i64 y2) (by simp); have c4 := H.get (b := w.heap.size + 2) (o := 0) (v := .int .i64 0) (by simp); have c5 := H.get (b := w.heap.size + 2) (o := 1) (v := .int .i64 0) (by simp); have z0 := H.fz (b := w.heap.size + 2) (o := 0) (v := .int .i64 0) (by simp); have z1 := H.fz (b := w.heap.size + 2) (o := 1) (v := .int .i64 0) (by simp); obtain ⟨gs, g0, g1, gz⟩ := Gq.all (Gv.below hG H.below)) | (go_at_call 17; refine (iRestOk_xy _ _ _).mono ?_; rintro e w' ⟨rfl, hb⟩; (first | rw [h] | rw [h2]); replace H := H.call hb; have c0 := H.get (b := w.heap.size) (o := 0) (v := .int .i64 0) (by simp); have c1 := H.get (b := w.heap.size) (o := 1) (v := .int .i64 y) (by simp); have c2 := H.get (b := w.heap.size + 1) (o := 0) (v := .int .i64 x2) (by simp); have c3 := H.get (b := w.heap.size + 1) (o := 1) (v := .int .i64 y2) (by simp); have c4 := H.get (b := w.heap.size + 2) (o := 0) (v := .int .i64 0) (by simp); have c5 := H.get (b := w.heap.size + 2) (o := 1) (v := .int .i64 0) (by simp); have z0 := H.fz (b := w.heap.size + 2) (o := 0) (v := .int .i64 0) (by simp); have z1 := H.fz (b := w.heap.size + 2) (o := 1) (v := .int .i64 0) (by simp); obtain ⟨gs, g0, g1, gz⟩ := Gq.all (Gv.below hG H.below)) | (go_at_call 59; refine (single_xy _ _ _).mono ?_; rintro e w' ⟨rfl, hb⟩; (first | rw [hdx] | rw [hdy] | simp only [decide_true]); replace H := H.call hb; have c0 := H.get (b := w.heap.size) (o := 0) (v := .int .i64 0) (by simp); have c1 := H.get (b := w.heap.size) (o := 1) (v := .int .i64 y) (by simp); have c2 := H.get (b := w.heap.size + 1) (o := 0) (v := .int .i64 x2) (by simp); have c3 := H.get (b := w.heap.size + 1) (o := 1) (v := .int .i64 y2) (by simp); have c4 := H.get (b := w.heap.size + 2) (o := 0) (v := .int .i64 0) (by simp); have c5 := H.get (b := w.heap.size + 2) (o := 1) (v := .int .i64 0) (by simp); have z0 := H.fz (b := w.heap.size + 2) (o := 0) (v := .int .i64 0) (by simp); have z1 := H.fz (b := w.heap.size + 2) (o := 1) (v := .int .i64 0) (by simp); obtain ⟨gs, g0, g1, gz⟩ := Gq.all (Gv.below hG H.below)) | (go_at_call 61; refine (hro _).mono ?_; rintro e w' ⟨rfl, hcc, hcl, hb⟩; replace H := H.call hb; have c0 := H.get (b := w.heap.size) (o := 0) (v := .int .i64 0) (by simp); have c1 := H.get (b := w.heap.size) (o := 1) (v := .int .i64 y) (by simp); have c2 := H.get (b := w.heap.size + 1) (o := 0) (v := .int .i64 x2) (by simp); have c3 := H.get (b := w.heap.size + 1) (o := 1) (v := .int .i64 y2) (by simp); have c4 := H.get (b := w.heap.size + 2) (o := 0) (v := .int .i64 0) (by simp); have c5 := H.get (b := w.heap.size + 2) (o := 1) (v := .int .i64 0) (by simp); have z0 := H.fz (b := w.heap.size + 2) (o := 0) (v := .int .i64 0) (by simp); have z1 := H.fz (b := w.heap.size + 2) (o := 1) (v := .int .i64 0) (by simp); obtain ⟨gs, g0, g1, gz⟩ := Gq.all (Gv.below hG H.below)) | (go_at_call 136; refine (hcall _ (Gv.below hG H.below) (Gv.below hS H.below)).mono ?_; rintro e w' ⟨rfl, hb⟩; replace H := H.call hb; have c0 := H.get (b := w.heap.size) (o := 0) (v := .int .i64 0) (by simp); have c1 := H.get (b := w.heap.size) (o := 1) (v := .int .i64 y) (by simp); have c2 := H.get (b := w.heap.size + 1) (o := 0) (v := .int .i64 x2) (by simp); have c3 := H.get (b := w.heap.size + 1) (o := 1) (v := .int .i64 y2) (by simp); have c4 := H.get (b := w.heap.size + 2) (o := 0) (v := .int .i64 0) (by simp); have c5 := H.get (b := w.heap.size + 2) (o := 1) (v := .int .i64 0) (by simp); have z0 := H.fz (b := w.heap.size + 2) (o := 0) (v := .int .i64 0) (by simp); have z1 := H.fz (b := w.heap.size + 2) (o := 1) (v := .int .i64 0) (by simp)))
    obtain ⟨f0, f1, fb⟩ := H.fill (b := w.heap.size + 2) (x := .int .i64 0) (y := .int .i64 0) (by simp) (by simp) (by omega) (.int .i64 q.1) (.int .i64 q.2)
    refine bodyPost_ret (results_two rfl _ _ (w.heap.size + 2) (.int .i64 q.1) (.int .i64 q.2) _ rfl f0 f1 Tryd.underlying24 rfl (by kernel_rfl)) rfl ?_
    exact ⟨rfl, fb⟩
  · have hdx : decide (x = 0) = false := by simp [hx0]
    go_enter Tryd.func15, Tryd.ntmps15
    go_wp2_with fail
    rw [← hW]
    clear hW
    have c0 := H.get (b := w.heap.size) (o := 0) (v := .int .i64 x) (by simp)
    have c1 := H.get (b := w.heap.size) (o := 1) (v := .int .i64 y) (by simp)
    have c2 := H.get (b := w.heap.size + 1) (o := 0) (v := .int .i64 x2) (by simp)
    have c3 := H.get (b := w.heap.size + 1) (o := 1) (v := .int .i64 y2) (by simp)
    have c4 := H.get (b := w.heap.size + 2) (o := 0) (v := .int .i64 0) (by simp)
    have c5 := H.get (b := w.heap.size + 2) (o := 1) (v := .int .i64 0) (by simp)
    have z0 := H.fz (b := w.heap.size + 2) (o := 0) (v := .int .i64 0) (by simp)
    have z1 := H.fz (b := w.heap.size + 2) (o := 1) (v := .int .i64 0) (by simp)
    obtain ⟨gs, g0, g1, gz⟩ := Gq.all (Gv.below hG H.below)
    go_wp2_with (first | (go_at_call 58; refine (hop _).mono ?_; rintro e w' ⟨rfl, hb⟩; replace H := H.call hb; have c0 := H.get (b := w.heap.size) (o := 0) (v := .int .i64 x) (by simp); have c1 := H.get (b := w.heap.size) (o := 1) (v := .int .i64 y) (by simp); have c2 := H.get (b := w.heap.size + 1) (o := 0) (v := .int .i64 x2) (by simp); have c3 := H.get (b := w.heap.size + 1) (o := 1) (v := .int .i64 y2) (by simp); have c4 := H.get (b := w.heap.size + 2) (o := 0) (v := .int .i64 0) (by simp); have c5 := H.get (b := w.heap.size + 2) (o := 1) (v := .int .i64 0) (by simp); have z0 := H.fz (b := w.heap.size + 2) (o := 0) (v := .int .i64 0) (by simp); have z1 := H.fz (b := w.heap.size + 2) (o := 1) (v := .int .i64 0) (by simp); obtain ⟨gs, g0, g1, gz⟩ := Gq.all (Gv.below hG H.below)) | (go_at_call 17; refine (iRestOk_xy _ _ _).mono ?_; rintro e w' ⟨rfl, hb⟩; (first | rw [h] | rw [h2]); replace H := H.call hb; have c0 := H.get (b := w.heap.size) (o := 0) (v := .int .i64 x) (by simp); have c1 := H.get (b := w.heap.size) (o := 1) (v := .int .i64 y) (by simp); have c2 := H.get (b := w.heap.size + 1) (o := 0) (v := .int .i64 x2) (by simp); have c3 := H.get (b := w.heap.size + 1) (o := 1) (v := .int .i64 y2) (by simp); have c4 := H.get (b := w.heap.size + 2) (o := 0) (v := .int .i64 0) (by simp); have c5 := H.get (b := w.heap.size + 2) (o := 1) (v := .int .i64 0) (by simp); have z0 := H.fz (b := w.heap.size + 2) (o := 0) (v := .int .i64 0) (by simp); have z1 := H.fz (b := w.heap.size + 2) (o := 1) (v := .int .i64 0) (by simp); obtain ⟨gs, g0, g1, gz⟩ := Gq.all (Gv.below hG H.below)) | (go_at_call 59; refine (single_xy _ _ _).mono ?_; rintro e w' ⟨rfl, hb⟩; (first | rw [hdx] | rw [hdy] | simp only [decide_true]); replace H := H.call hb; have c0 := H.get (b := w.heap.size) (o := 0) (v := .int .i64 x) (by simp); have c1 := H.get (b := w.heap.size) (o := 1) (v := .int .i64 y) (by simp); have c2 := H.get (b := w.heap.size + 1) (o := 0) (v := .int .i64 x2) (by simp); have c3 := H.get (b := w.heap.size + 1) (o := 1) (v := .int .i64 y2) (by simp); have c4 := H.get (b := w.heap.size + 2) (o := 0) (v := .int .i64 0) (by simp); have c5 := H.get (b := w.heap.size + 2) (o := 1) (v := .int .i64 0) (by simp); have z0 := H.fz (b := w.heap.size + 2) (o := 0) (v := .int .i64 0) (by simp); have z1 := H.fz (b := w.heap.size + 2) (o := 1) (v := .int .i64 0) (by simp); obtain ⟨gs, g0, g1, gz⟩ := Gq.all (Gv.below hG H.below)) | (go_at_call 61; refine (hro _).mono ?_; rintro e w' ⟨rfl, hcc, hcl, hb⟩; replace H := H.call hb; have c0 := H.get (b := w.heap.size) (o := 0) (v := .int .i64 x) (by simp); have c1 := H.get (b := w.heap.size) (o := 1) (v := .int .i64 y) (by simp); have c2 := H.get (b := w.heap.size + 1) (o := 0) (v := .int .i64 x2) (by simp); have c3 := H.get (b := w.heap.size + 1) (o := 1) (v := .int .i64 y2) (by simp); have c4 := H.get (b := w.heap.size + 2) (o := 0) (v := .int .i64 0) (by simp); have c5 := H.get (b := w.heap.size + 2) (o := 1) (v := .int .i64 0) (by simp); have z0 := H.fz (b := w.heap.size + 2) (o := 0) (v := .int .i64 0) (by simp); have z1 := H.fz (b := w.heap.size + 2) (o := 1) (v := .int .i64 0) (by simp); obtain ⟨gs, g0, g1, gz⟩ := Gq.all (Gv.below hG H.below)) | (go_at_call 136; refine (hcall _ (Gv.below hG H.below) (Gv.below hS H.below)).mono ?_; rintro e w' ⟨rfl, hb⟩; replace H := H.call hb; have c0 := H.get (b := w.heap.size) (o := 0) (v := .int .i64 x) (by simp); have c1 := H.get (b := w.heap.size) (o := 1) (v := .int .i64 y) (by simp); have c2 := H.get (b := w.heap.size + 1) (o := 0) (v := .int .i64 x2) (by simp); have c3 := H.get (b := w.heap.size + 1) (o := 1) (v := .int .i64 y2) (by simp); have c4 := H.get (b := w.heap.size + 2) (o := 0) (v := .int .i64 0) (by simp); have c5 := H.get (b := w.heap.size + 2) (o := 1) (v := .int .i64 0) (by simp); have z0 := H.fz (b := w.heap.size + 2) (o := 0) (v := .int .i64 0) (by simp); have z1 := H.fz (b := w.heap.size + 2) (o := 1) (v := .int .i64 0) (by simp)))
    obtain ⟨f0, f1, fb⟩ := H.fill (b := w.heap.size + 2) (x := .int .i64 0) (y := .int .i64 0) (by simp) (by simp) (by omega) (.int .i64 q.1) (.int .i64 q.2)
    refine bodyPost_ret (results_two rfl _ _ (w.heap.size + 2) (.int .i64 q.1) (.int .i64 q.2) _ rfl f0 f1 Tryd.underlying24 rfl (by kernel_rfl)) rfl ?_
    exact ⟨rfl, fb⟩
set_option maxRecDepth 100000 in
set_option maxHeartbeats 4000000 in
theorem iDo_9out (x y y2 : Int) (h : qOk (x, y) = true) (h2 : qOk (0, y2) = true) (hx1 : x ≠ 0) (hs0 : inB y2 0 31 = false) (w : World) (hG : Gq w) (hS : Gv w 3 (0, 31)) :
    Calls Tryd.prog 15 #[.int .i64 9, .agg #[.int .i64 x, .int .i64 y], .agg #[.int .i64 0, .int .i64 y2]] w fun e w' => e = .returned (.agg #[.int .i64 (do9 9 (x, y) (0, y2)).1, .int .i64 (do9 9 (x, y) (0, y2)).2]) ∧ Below w.heap.size w w' := by
  have hs : ¬ (0 ≤ y2 ∧ y2 ≤ 31) := (inB_not _ _ _).1 hs0
  have hef := eql_func
  have hen := eql_nil
  have hrf := eqlR_func
  have hrn := eqlR_nil
  have e : do9 9 (x, y) (0, y2) = (1, 0) := by
    unfold do9
    rw [if_neg (by simp [h, h2]; decide), if_neg (by simp [hx1])]
    simp [hs0, all9]
  rw [e]
  have hcall : ∀ w1 : World, Gq w1 → Gv w1 3 (0, 31) → Calls Tryd.prog 136 #[.agg #[.int .i64 x, .int .i64 y], .agg #[.int .i64 0, .int .i64 y2]] w1 fun e w' => e = .returned (.agg #[.int .i64 ((1, 0) : T9).1, .int .i64 ((1, 0) : T9).2]) ∧ Below w1.heap.size w1 w' := fun w1 hg hs2 => shiftR_out x y y2 w1 hg hs2 hs
  generalize ((1, 0) : T9) = q at *
  have ho : inB 9 1 13 = true := by decide
  have hop : ∀ w1 : World, Calls Tryd.prog 58 #[.int .i64 9] w1 fun e w' => e = .returned (.func (Fn.func (kOf 9)) #[] #[]) ∧ Below w1.heap.size w1 w' := fun w1 => oper_any 9 ho w1
  have hro : ∀ w1 : World, Calls Tryd.prog 61 #[.int .i64 9] w1 fun e w' => e = .returned (.func (Fn.func 136) #[] #[]) ∧ w'.cell? ⟨w1.heap.size, 0, none⟩ = some (.int .i64 0) ∧ w1.heap.size < w'.heap.size ∧ Below w1.heap.size w1 w' := fun w1 => restOper_9 w1
  generalize kOf 9 = K at *
  obtain ⟨W, hW, H⟩ := Hd.three w (.int .i64 x) (.int .i64 y) (.int .i64 0) (.int .i64 y2) (.int .i64 0) (.int .i64 0) 24 24 24
  have hdx : decide (x = 0) = false := by simp [hx1]
  have hdy : decide (x = 0) = false := hdx
  go_enter Tryd.func15, Tryd.ntmps15
  go_wp2_with fail
  rw [← hW]
  clear hW
  have c0 := H.get (b := w.heap.size) (o := 0) (v := .int .i64 x) (by simp)
  have c1 := H.get (b := w.heap.size) (o := 1) (v := .int .i64 y) (by simp)
  have c2 := H.get (b := w.heap.size + 1) (o := 0) (v := .int .i64 0) (by simp)
  have c3 := H.get (b := w.heap.size + 1) (o := 1) (v := .int .i64 y2) (by simp)
  have c4 := H.get (b := w.heap.size + 2) (o := 0) (v := .int .i64 0) (by simp)
  have c5 := H.get (b := w.heap.size + 2) (o := 1) (v := .int .i64 0) (by simp)
  have z0 := H.fz (b := w.heap.size + 2) (o := 0) (v := .int .i64 0) (by simp)
  have z1 := H.fz (b := w.heap.size + 2) (o := 1) (v := .int .i64 0) (by simp)
  obtain ⟨gs, g0, g1, gz⟩ := Gq.all (Gv.below hG H.below)
  go_wp2_with (first | (go_at_call 58; refine (hop _).mono ?_; rintro e w' ⟨rfl, hb⟩; replace H := H.call hb; have c0 := H.get (b := w.heap.size) (o := 0) (v := .int .i64 x) (by simp); have c1 := H.get (b := w.heap.size) (o := 1) (v := .int .i64 y) (by simp); have c2 := H.get (b := w.heap.size + 1) (o := 0) (v := .int .i64 0) (by simp); have c3 := H.get (b := w.heap.size + 1) (o := 1) (v := .int .i64 y2) (by simp); have c4 := H.get (b := w.heap.size + 2) (o := 0) (v := .int .i64 0) (by simp); have c5 := H.get (b := w.heap.size + 2) (o := 1) (v := .int .i64 0) (by simp); have z0 := H.fz (b := w.heap.size + 2) (o := 0) (v := .int .i64 0) (by simp); have z1 := H.fz (b := w.heap.size + 2) (o := 1) (v := .int .i64 0) (by simp); obtain ⟨gs, g0, g1, gz⟩ := Gq.all (Gv.below hG H.below)) | (go_at_call 17; refine (iRestOk_xy _ _ _).mono ?_; rintro e w' ⟨rfl, hb⟩; (first | rw [h] | rw [h2]); replace H := H.call hb; have c0 := H.get (b := w.heap.size) (o := 0) (v := .int .i64 x) (by simp); have c1 := H.get (b := w.heap.size) (o := 1) (v := .int .i64 y) (by simp); have c2 := H.get (b := w.heap.size + 1) (o := 0) (v := .int .i64 0) (by simp); have c3 := H.get (b := w.heap.size + 1) (o := 1) (v := .int .i64 y2) (by simp); have c4 := H.get (b := w.heap.size + 2) (o := 0) (v := .int .i64 0) (by simp); have c5 := H.get (b := w.heap.size + 2) (o := 1) (v := .int .i64 0) (by simp); have z0 := H.fz (b := w.heap.size + 2) (o := 0) (v := .int .i64 0) (by simp); have z1 := H.fz (b := w.heap.size + 2) (o := 1) (v := .int .i64 0) (by simp); obtain ⟨gs, g0, g1, gz⟩ := Gq.all (Gv.below hG H.below)) | (go_at_call 59; refine (single_xy _ _ _).mono ?_; rintro e w' ⟨rfl, hb⟩; (first | rw [hdx] | rw [hdy] | simp only [decide_true]); replace H := H.call hb; have c0 := H.get (b := w.heap.size) (o := 0) (v := .int .i64 x) (by simp); have c1 := H.get (b := w.heap.size) (o := 1) (v := .int .i64 y) (by simp); have c2 := H.get (b := w.heap.size + 1) (o := 0) (v := .int .i64 0) (by simp); have c3 := H.get (b := w.heap.size + 1) (o := 1) (v := .int .i64 y2) (by simp); have c4 := H.get (b := w.heap.size + 2) (o := 0) (v := .int .i64 0) (by simp); have c5 := H.get (b := w.heap.size + 2) (o := 1) (v := .int .i64 0) (by simp); have z0 := H.fz (b := w.heap.size + 2) (o := 0) (v := .int .i64 0) (by simp); have z1 := H.fz (b := w.heap.size + 2) (o := 1) (v := .int .i64 0) (by simp); obtain ⟨gs, g0, g1, gz⟩ := Gq.all (Gv.below hG H.below)) | (go_at_call 61; refine (hro _).mono ?_; rintro e w' ⟨rfl, hcc, hcl, hb⟩; replace H := H.call hb; have c0 := H.get (b := w.heap.size) (o := 0) (v := .int .i64 x) (by simp); have c1 := H.get (b := w.heap.size) (o := 1) (v := .int .i64 y) (by simp); have c2 := H.get (b := w.heap.size + 1) (o := 0) (v := .int .i64 0) (by simp); have c3 := H.get (b := w.heap.size + 1) (o := 1) (v := .int .i64 y2) (by simp); have c4 := H.get (b := w.heap.size + 2) (o := 0) (v := .int .i64 0) (by simp); have c5 := H.get (b := w.heap.size + 2) (o := 1) (v := .int .i64 0) (by simp); have z0 := H.fz (b := w.heap.size + 2) (o := 0) (v := .int .i64 0) (by simp); have z1 := H.fz (b := w.heap.size + 2) (o := 1) (v := .int .i64 0) (by simp); obtain ⟨gs, g0, g1, gz⟩ := Gq.all (Gv.below hG H.below)) | (go_at_call 136; refine (hcall _ (Gv.below hG H.below) (Gv.below hS H.below)).mono ?_; rintro e w' ⟨rfl, hb⟩; replace H := H.call hb; have c0 := H.get (b := w.heap.size) (o := 0) (v := .int .i64 x) (by simp); have c1 := H.get (b := w.heap.size) (o := 1) (v := .int .i64 y) (by simp); have c2 := H.get (b := w.heap.size + 1) (o := 0) (v := .int .i64 0) (by simp); have c3 := H.get (b := w.heap.size + 1) (o := 1) (v := .int .i64 y2) (by simp); have c4 := H.get (b := w.heap.size + 2) (o := 0) (v := .int .i64 0) (by simp); have c5 := H.get (b := w.heap.size + 2) (o := 1) (v := .int .i64 0) (by simp); have z0 := H.fz (b := w.heap.size + 2) (o := 0) (v := .int .i64 0) (by simp); have z1 := H.fz (b := w.heap.size + 2) (o := 1) (v := .int .i64 0) (by simp)))
  obtain ⟨f0, f1, fb⟩ := H.fill (b := w.heap.size + 2) (x := .int .i64 0) (y := .int .i64 0) (by simp) (by simp) (by omega) (.int .i64 q.1) (.int .i64 q.2)
  refine bodyPost_ret (results_two rfl _ _ (w.heap.size + 2) (.int .i64 q.1) (.int .i64 q.2) _ rfl f0 f1 Tryd.underlying24 rfl (by kernel_rfl)) rfl ?_
  exact ⟨rfl, fb⟩
set_option maxRecDepth 100000 in
set_option maxHeartbeats 4000000 in
theorem iDo_9in (x y y2 : Int) (h : qOk (x, y) = true) (h2 : qOk (0, y2) = true) (hx1 : x ≠ 0) (hs0 : inB y2 0 31 = true) (w : World) (hG : Gq w) (hS : Gv w 3 (0, 31)) :
    Calls Tryd.prog 15 #[.int .i64 9, .agg #[.int .i64 x, .int .i64 y], .agg #[.int .i64 0, .int .i64 y2]] w fun e w' => e = .returned (.agg #[.int .i64 (do9 9 (x, y) (0, y2)).1, .int .i64 (do9 9 (x, y) (0, y2)).2]) ∧ Below w.heap.size w w' := by
  have hs : (0 ≤ y2 ∧ y2 ≤ 31) := (inB_iff _ _ _).1 hs0
  have hef := eql_func
  have hen := eql_nil
  have hrf := eqlR_func
  have hrn := eqlR_nil
  have e : do9 9 (x, y) (0, y2) = make9 (x * 2 ^ y2.toNat) (y * 2 ^ y2.toNat) := by
    unfold do9
    rw [if_neg (by simp [h, h2]; decide), if_neg (by simp [hx1])]
    simp [hs0]
  rw [e]
  have hcall : ∀ w1 : World, Gq w1 → Gv w1 3 (0, 31) → Calls Tryd.prog 136 #[.agg #[.int .i64 x, .int .i64 y], .agg #[.int .i64 0, .int .i64 y2]] w1 fun e w' => e = .returned (.agg #[.int .i64 (make9 (x * 2 ^ y2.toNat) (y * 2 ^ y2.toNat)).1, .int .i64 (make9 (x * 2 ^ y2.toNat) (y * 2 ^ y2.toNat)).2]) ∧ Below w1.heap.size w1 w' := fun w1 hg hs2 => shiftR_in x y y2 w1 hg hs2 hs h
  generalize (make9 (x * 2 ^ y2.toNat) (y * 2 ^ y2.toNat)) = q at *
  have ho : inB 9 1 13 = true := by decide
  have hop : ∀ w1 : World, Calls Tryd.prog 58 #[.int .i64 9] w1 fun e w' => e = .returned (.func (Fn.func (kOf 9)) #[] #[]) ∧ Below w1.heap.size w1 w' := fun w1 => oper_any 9 ho w1
  have hro : ∀ w1 : World, Calls Tryd.prog 61 #[.int .i64 9] w1 fun e w' => e = .returned (.func (Fn.func 136) #[] #[]) ∧ w'.cell? ⟨w1.heap.size, 0, none⟩ = some (.int .i64 0) ∧ w1.heap.size < w'.heap.size ∧ Below w1.heap.size w1 w' := fun w1 => restOper_9 w1
  generalize kOf 9 = K at *
  obtain ⟨W, hW, H⟩ := Hd.three w (.int .i64 x) (.int .i64 y) (.int .i64 0) (.int .i64 y2) (.int .i64 0) (.int .i64 0) 24 24 24
  have hdx : decide (x = 0) = false := by simp [hx1]
  have hdy : decide (x = 0) = false := hdx
  go_enter Tryd.func15, Tryd.ntmps15
  go_wp2_with fail
  rw [← hW]
  clear hW
  have c0 := H.get (b := w.heap.size) (o := 0) (v := .int .i64 x) (by simp)
  have c1 := H.get (b := w.heap.size) (o := 1) (v := .int .i64 y) (by simp)
  have c2 := H.get (b := w.heap.size + 1) (o := 0) (v := .int .i64 0) (by simp)
  have c3 := H.get (b := w.heap.size + 1) (o := 1) (v := .int .i64 y2) (by simp)
  have c4 := H.get (b := w.heap.size + 2) (o := 0) (v := .int .i64 0) (by simp)
  have c5 := H.get (b := w.heap.size + 2) (o := 1) (v := .int .i64 0) (by simp)
  have z0 := H.fz (b := w.heap.size + 2) (o := 0) (v := .int .i64 0) (by simp)
  have z1 := H.fz (b := w.heap.size + 2) (o := 1) (v := .int .i64 0) (by simp)
  obtain ⟨gs, g0, g1, gz⟩ := Gq.all (Gv.below hG H.below)
  go_wp2_with (first | (go_at_call 58; refine (hop _).mono ?_; rintro e w' ⟨rfl, hb⟩; replace H := H.call hb; have c0 := H.get (b := w.heap.size) (o := 0) (v := .int .i64 x) (by simp); have c1 := H.get (b := w.heap.size) (o := 1) (v := .int .i64 y) (by simp); have c2 := H.get (b := w.heap.size + 1) (o := 0) (v := .int .i64 0) (by simp); have c3 := H.get (b := w.heap.size + 1) (o := 1) (v := .int .i64 y2) (by simp); have c4 := H.get (b := w.heap.size + 2) (o := 0) (v := .int .i64 0) (by simp); have c5 := H.get (b := w.heap.size + 2) (o := 1) (v := .int .i64 0) (by simp); have z0 := H.fz (b := w.heap.size + 2) (o := 0) (v := .int .i64 0) (by simp); have z1 := H.fz (b := w.heap.size + 2) (o := 1) (v := .int .i64 0) (by simp); obtain ⟨gs, g0, g1, gz⟩ := Gq.all (Gv.below hG H.below)) | (go_at_call 17; refine (iRestOk_xy _ _ _).mono ?_; rintro e w' ⟨rfl, hb⟩; (first | rw [h] | rw [h2]); replace H := H.call hb; have c0 := H.get (b := w.heap.size) (o := 0) (v := .int .i64 x) (by simp); have c1 := H.get (b := w.heap.size) (o := 1) (v := .int .i64 y) (by simp); have c2 := H.get (b := w.heap.size + 1) (o := 0) (v := .int .i64 0) (by simp); have c3 := H.get (b := w.heap.size + 1) (o := 1) (v := .int .i64 y2) (by simp); have c4 := H.get (b := w.heap.size + 2) (o := 0) (v := .int .i64 0) (by simp); have c5 := H.get (b := w.heap.size + 2) (o := 1) (v := .int .i64 0) (by simp); have z0 := H.fz (b := w.heap.size + 2) (o := 0) (v := .int .i64 0) (by simp); have z1 := H.fz (b := w.heap.size + 2) (o := 1) (v := .int .i64 0) (by simp); obtain ⟨gs, g0, g1, gz⟩ := Gq.all (Gv.below hG H.below)) | (go_at_call 59; refine (single_xy _ _ _).mono ?_; rintro e w' ⟨rfl, hb⟩; (first | rw [hdx] | rw [hdy] | simp only [decide_true]); replace H := H.call hb; have c0 := H.get (b := w.heap.size) (o := 0) (v := .int .i64 x) (by simp); have c1 := H.get (b := w.heap.size) (o := 1) (v := .int .i64 y) (by simp); have c2 := H.get (b := w.heap.size + 1) (o := 0) (v := .int .i64 0) (by simp); have c3 := H.get (b := w.heap.size + 1) (o := 1) (v := .int .i64 y2) (by simp); have c4 := H.get (b := w.heap.size + 2) (o := 0) (v := .int .i64 0) (by simp); have c5 := H.get (b := w.heap.size + 2) (o := 1) (v := .int .i64 0) (by simp); have z0 := H.fz (b := w.heap.size + 2) (o := 0) (v := .int .i64 0) (by simp); have z1 := H.fz (b := w.heap.size + 2) (o := 1) (v := .int .i64 0) (by simp); obtain ⟨gs, g0, g1, gz⟩ := Gq.all (Gv.below hG H.below)) | (go_at_call 61; refine (hro _).mono ?_; rintro e w' ⟨rfl, hcc, hcl, hb⟩; replace H := H.call hb; have c0 := H.get (b := w.heap.size) (o := 0) (v := .int .i64 x) (by simp); have c1 := H.get (b := w.heap.size) (o := 1) (v := .int .i64 y) (by simp); have c2 := H.get (b := w.heap.size + 1) (o := 0) (v := .int .i64 0) (by simp); have c3 := H.get (b := w.heap.size + 1) (o := 1) (v := .int .i64 y2) (by simp); have c4 := H.get (b := w.heap.size + 2) (o := 0) (v := .int .i64 0) (by simp); have c5 := H.get (b := w.heap.size + 2) (o := 1) (v := .int .i64 0) (by simp); have z0 := H.fz (b := w.heap.size + 2) (o := 0) (v := .int .i64 0) (by simp); have z1 := H.fz (b := w.heap.size + 2) (o := 1) (v := .int .i64 0) (by simp); obtain ⟨gs, g0, g1, gz⟩ := Gq.all (Gv.below hG H.below)) | (go_at_call 136; refine (hcall _ (Gv.below hG H.below) (Gv.below hS H.below)).mono ?_; rintro e w' ⟨rfl, hb⟩; replace H := H.call hb; have c0 := H.get (b := w.heap.size) (o := 0) (v := .int .i64 x) (by simp); have c1 := H.get (b := w.heap.size) (o := 1) (v := .int .i64 y) (by simp); have c2 := H.get (b := w.heap.size + 1) (o := 0) (v := .int .i64 0) (by simp); have c3 := H.get (b := w.heap.size + 1) (o := 1) (v := .int .i64 y2) (by simp); have c4 := H.get (b := w.heap.size + 2) (o := 0) (v := .int .i64 0) (by simp); have c5 := H.get (b := w.heap.size + 2) (o := 1) (v := .int .i64 0) (by simp); have z0 := H.fz (b := w.heap.size + 2) (o := 0) (v := .int .i64 0) (by simp); have z1 := H.fz (b := w.heap.size + 2) (o := 1) (v := .int .i64 0) (by simp)))
  obtain ⟨f0, f1, fb⟩ := H.fill (b := w.heap.size + 2) (x := .int .i64 0) (y := .int .i64 0) (by simp) (by simp) (by omega) (.int .i64 q.1) (.int .i64 q.2)
  refine bodyPost_ret (results_two rfl _ _ (w.heap.size + 2) (.int .i64 q.1) (.int .i64 q.2) _ rfl f0 f1 Tryd.underlying24 rfl (by kernel_rfl)) rfl ?_
  exact ⟨rfl, fb⟩
theorem iDo_xy (op x y x2 y2 : Int) (w : World) (hG : Gq w) (hS : Gv w 3 (0, 31)) :
    Calls Tryd.prog 15 #[.int .i64 op, .agg #[.int .i64 x, .int .i64 y], .agg #[.int .i64 x2, .int .i64 y2]] w fun e w' => e = .returned (.agg #[.int .i64 (do9 op (x, y) (x2, y2)).1, .int .i64 (do9 op (x, y) (x2, y2)).2]) ∧ Below w.heap.size w w' := by
  by_cases hbad : inB op 1 13 = false ∨ qOk (x, y) = false ∨ qOk (x2, y2) = false
  · exact iDo_bad op x y x2 y2 hbad w hG
  · have ho : inB op 1 13 = true := by cases hh : inB op 1 13; (exact absurd (.inl hh) hbad); rfl
    have h : qOk (x, y) = true := by cases hh : qOk (x, y); (exact absurd (.inr (.inl hh)) hbad); rfl
    have h2 : qOk (x2, y2) = true := by cases hh : qOk (x2, y2); (exact absurd (.inr (.inr hh)) hbad); rfl
    by_cases hab : x = 0 ∧ x2 = 0
    · obtain ⟨rfl, rfl⟩ := hab
      exact iDo_single op y y2 ho h h2 w hG
    · rcases op_cases op ho with rfl | rfl | rfl | rfl | rfl | rfl | rfl | rfl | rfl | rfl | rfl | rfl | rfl
      · exact iDo_1 x y x2 y2 h h2 hab w hG
      · exact iDo_2 x y x2 y2 h h2 hab w hG
      · by_cases hz : apart9 (x, y) (x2, y2) = 0
        · exact iDo_3z x y x2 y2 h h2 hab w hG hz
        · exact iDo_3n x y x2 y2 h h2 hab w hG hz
      · exact iDo_4 x y x2 y2 h h2 hab w hG
      · exact iDo_5 x y x2 y2 h h2 hab w hG
      · exact iDo_6 x y x2 y2 h h2 hab w hG
      · exact iDo_7 x y x2 y2 h h2 hab w hG
      · exact iDo_8 x y x2 y2 h h2 hab w hG
      · by_cases hx2 : x2 = 0
        · subst hx2
          have hx0 : x ≠ 0 := fun e => hab ⟨e, rfl⟩
          cases hs0 : inB y2 0 31
          · exact iDo_9out x y y2 h h2 hx0 hs0 w hG hS
          · exact iDo_9in x y y2 h h2 hx0 hs0 w hG hS
        · exact iDo_9rest x y x2 y2 h h2 hab w hG hS hx2
      · exact iDo_10 x y x2 y2 h h2 hab w hG
      · exact iDo_11 x y x2 y2 h h2 hab w hG
      · exact iDo_12 x y x2 y2 h h2 hab w hG
      · by_cases hz : apart9 (x, y) (x2, y2) = 0
        · exact iDo_13z x y x2 y2 h h2 hab w hG hz
        · exact iDo_13n x y x2 y2 h h2 hab w hG hz
end Go.Proofs.YtjpiihjgbllieaaDoor.num
