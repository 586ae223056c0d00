/-
  The program's RestDo: operators that leave all, remainders.
-/
import Derived.Test.YtjpiihjgbllieaaDoorXi
namespace Go.Proofs.YtjpiihjgbllieaaDoor.num
open Go.ChangeShapes Go.WideShapes Go.ChangeAt Go.RowKit
set_option linter.unusedVariables false

set_option maxRecDepth 100000 in
set_option maxHeartbeats 4000000 in
theorem iDo_4 (x y x2 y2 : Int) (h : qOk (x, y) = true) (h2 : qOk (x2, y2) = true) (hab : ¬ (x = 0 ∧ x2 = 0)) (w : World) (hG : Gq w) :
    Calls Tryd.prog 15 #[.int .i64 4, .agg #[.int .i64 x, .int .i64 y], .agg #[.int .i64 x2, .int .i64 y2]] w fun e w' => e = .returned (.agg #[.int .i64 (do9 4 (x, y) (x2, y2)).1, .int .i64 (do9 4 (x, y) (x2, y2)).2]) ∧ Below w.heap.size w w' := by
  have hef := eql_func
  have hen := eql_nil
  have hrf := eqlR_func
  have hrn := eqlR_nil
  have e : do9 4 (x, y) (x2, y2) = (1, 0) := by
    unfold do9
    rw [if_neg (by simp [h, h2]; decide), if_neg hab]
    simp [all9]
  rw [e]
  have ho : inB 4 1 13 = true := by decide
  have hop : ∀ w1 : World, Calls Tryd.prog 58 #[.int .i64 4] w1 fun e w' => e = .returned (.func (Fn.func (kOf 4)) #[] #[]) ∧ Below w1.heap.size w1 w' := fun w1 => oper_any 4 ho w1
  have hro : ∀ w1 : World, Calls Tryd.prog 61 #[.int .i64 4] w1 fun e w' => e = .returned .nilFunc ∧ w'.cell? ⟨w1.heap.size, 0, none⟩ = some (.int .i64 0) ∧ w1.heap.size < w'.heap.size ∧ Below w1.heap.size w1 w' := fun w1 => restOper_4 w1
  generalize kOf 4 = K at *
  obtain ⟨W, hW, H⟩ := Hd.three w (.int .i64 x) (.int .i64 y) (.int .i64 x2) (.int .i64 y2) (.int .i64 0) (.int .i64 0) 24 24 24
  have hdy : decide (x2 = 0) = decide (x2 = 0) := rfl
  by_cases hx0 : x = 0
  · subst hx0
    have hdx : decide ((0 : Int) = 0) = true := by simp
    have hdy : decide (x2 = 0) = false := by simp; omega
    go_enter Tryd.func15, Tryd.ntmps15
    go_wp2_with fail
    rw [← hW]
    clear hW
    have c0 := H.get (b := w.heap.size) (o := 0) (v := .int .i64 0) (by simp)
    have c1 := H.get (b := w.heap.size) (o := 1) (v := .int .i64 y) (by simp)
    have c2 := H.get (b := w.heap.size + 1) (o := 0) (v := .int .i64 x2) (by simp)
    have c3 := H.get (b := w.heap.size + 1) (o := 1) (v := .int .i64 y2) (by simp)
    have c4 := H.get (b := w.heap.size + 2) (o := 0) (v := .int .i64 0) (by simp)
    have c5 := H.get (b := w.heap.size + 2) (o := 1) (v := .int .i64 0) (by simp)
    have z0 := H.fz (b := w.heap.size + 2) (o := 0) (v := .int .i64 0) (by simp)
    have z1 := H.fz (b := w.heap.size + 2) (o := 1) (v := .int .i64 0) (by simp)
    obtain ⟨gs, g0, g1, gz⟩ := Gq.all (Gv.below hG H.below)
    go_wp2_with (first | (go_at_call 58; refine (hop _).mono ?_; rintro e w' ⟨rfl, hb⟩; replace H := H.call hb; have c0 := H.get (b := w.heap.size) (o := 0) (v := .int .i64 0) (by simp); have c1 := H.get (b := w.heap.size) (o := 1) (v := .int .i64 y) (by simp); have c2 := H.get (b := w.heap.size + 1) (o := 0) (v := .int .i64 x2) (by simp); have c3 := H.get (b := w.heap.size + 1) (o := 1) (v := .int .i64 y2) (by simp); have c4 := H.get (b := w.heap.size + 2) (o := 0) (v := .int .i64 0) (by simp); have c5 := H.get (b := w.heap.size + 2) (o := 1) (v := .int .i64 0) (by simp); have z0 := H.fz (b := w.heap.size + 2) (o := 0) (v := .int .i64 0) (by simp); have z1 := H.fz (b := w.heap.size + 2) (o := 1) (v := .int .i64 0) (by simp); obtain ⟨gs, g0, g1, gz⟩ := Gq.all (Gv.below hG H.below)) | (go_at_call 17; refine (iRestOk_xy _ _ _).mono ?_; rintro e w' ⟨rfl, hb⟩; (first | rw [h] | rw [h2]); replace H := H.call hb; have c0 := H.get (b := w.heap.size) (o := 0) (v := .int .i64 0) (by simp); have c1 := H.get (b := w.heap.size) (o := 1) (v := .int .i64 y) (by simp); have c2 := H.get (b := w.heap.size + 1) (o := 0) (v := .int .i64 x2) (by simp); have c3 := H.get (b := w.heap.size + 1) (o := 1) (v := .int .i64 y2) (by simp); have c4 := H.get (b := w.heap.size + 2) (o := 0) (v := .int .i64 0) (by simp); have c5 := H.get (b := w.heap.size + 2) (o := 1) (v := .int .i64 0) (by simp); have z0 := H.fz (b := w.heap.size + 2) (o := 0) (v := .int .i64 0) (by simp); have z1 := H.fz (b := w.heap.size + 2) (o := 1) (v := .int .i64 0) (by simp); obtain ⟨gs, g0, g1, gz⟩ := Gq.all (Gv.below hG H.below)) | (go_at_call 59; refine (single_xy _ _ _).mono ?_; rintro e w' ⟨rfl, hb⟩; (first | rw [hdx] | rw [hdy] | simp only [decide_true]); replace H := H.call hb; have c0 := H.get (b := w.heap.size) (o := 0) (v := .int .i64 0) (by simp); have c1 := H.get (b := w.heap.size) (o := 1) (v := .int .i64 y) (by simp); have c2 := H.get (b := w.heap.size + 1) (o := 0) (v := .int .i64 x2) (by simp); have c3 := H.get (b := w.heap.size + 1) (o := 1) (v := .int .i64 y2) (by simp); have c4 := H.get (b := w.heap.size + 2) (o := 0) (v := .int .i64 0) (by simp); have c5 := H.get (b := w.heap.size + 2) (o := 1) (v := .int .i64 0) (by simp); have z0 := H.fz (b := w.heap.size + 2) (o := 0) (v := .int .i64 0) (by simp); have z1 := H.fz (b := w.heap.size + 2) (o := 1) (v := .int .i64 0) (by simp); obtain ⟨gs, g0, g1, gz⟩ := Gq.all (Gv.below hG H.below)) | (go_at_call 61; refine (hro _).mono ?_; rintro e w' ⟨rfl, hcc, hcl, hb⟩; replace H := H.call hb; have c0 := H.get (b := w.heap.size) (o := 0) (v := .int .i64 0) (by simp); have c1 := H.get (b := w.heap.size) (o := 1) (v := .int .i64 y) (by simp); have c2 := H.get (b := w.heap.size + 1) (o := 0) (v := .int .i64 x2) (by simp); have c3 := H.get (b := w.heap.size + 1) (o := 1) (v := .int .i64 y2) (by simp); have c4 := H.get (b := w.heap.size + 2) (o := 0) (v := .int .i64 0) (by simp); have c5 := H.get (b := w.heap.size + 2) (o := 1) (v := .int .i64 0) (by simp); have z0 := H.fz (b := w.heap.size + 2) (o := 0) (v := .int .i64 0) (by simp); have z1 := H.fz (b := w.heap.size + 2) (o := 1) (v := .int .i64 0) (by simp); obtain ⟨gs, g0, g1, gz⟩ := Gq.all (Gv.below hG H.below)))
    obtain ⟨f0, f1, fb⟩ := H.fill (b := w.heap.size + 2) (x := .int .i64 0) (y := .int .i64 0) (by simp) (by simp) (by omega) (.int .i64 1) (.int .i64 0)
    refine bodyPost_ret (results_two rfl _ _ (w.heap.size + 2) (.int .i64 1) (.int .i64 0) _ rfl f0 f1 Tryd.underlying24 rfl (by kernel_rfl)) rfl ?_
    exact ⟨rfl, fb⟩
  · have hdx : decide (x = 0) = false := by simp [hx0]
    go_enter Tryd.func15, Tryd.ntmps15
    go_wp2_with fail
    rw [← hW]
    clear hW
    have c0 := H.get (b := w.heap.size) (o := 0) (v := .int .i64 x) (by simp)
    have c1 := H.get (b := w.heap.size) (o := 1) (v := .int .i64 y) (by simp)
    have c2 := H.get (b := w.heap.size + 1) (o := 0) (v := .int .i64 x2) (by simp)
    have c3 := H.get (b := w.heap.size + 1) (o := 1) (v := .int .i64 y2) (by simp)
    have c4 := H.get (b := w.heap.size + 2) (o := 0) (v := .int .i64 0) (by simp)
    have c5 := H.get (b := w.heap.size + 2) (o := 1) (v := .int .i64 0) (by simp)
    have z0 := H.fz (b := w.heap.size + 2) (o := 0) (v := .int .i64 0) (by simp)
    have z1 := H.fz (b := w.heap.size + 2) (o := 1) (v := .int .i64 0) (by simp)
    obtain ⟨gs, g0, g1, gz⟩ := Gq.all (Gv.below hG H.below)
    go_wp2_with (first | (go_at_call 58; refine (hop _).mono ?_; rintro e w' ⟨rfl, hb⟩; replace H := H.call hb; have c0 := H.get (b := w.heap.size) (o := 0) (v := .int .i64 x) (by simp); have c1 := H.get (b := w.heap.size) (o := 1) (v := .int .i64 y) (by simp); have c2 := H.get (b := w.heap.size + 1) (o := 0) (v := .int .i64 x2) (by simp); have c3 := H.get (b := w.heap.size + 1) (o := 1) (v := .int .i64 y2) (by simp); have c4 := H.get (b := w.heap.size + 2) (o := 0) (v := .int .i64 0) (by simp); have c5 := H.get (b := w.heap.size + 2) (o := 1) (v := .int .i64 0) (by simp); have z0 := H.fz (b := w.heap.size + 2) (o := 0) (v := .int .i64 0) (by simp); have z1 := H.fz (b := w.heap.size + 2) (o := 1) (v := .int .i64 0) (by simp); obtain ⟨gs, g0, g1, gz⟩ := Gq.all (Gv.below hG H.below)) | (go_at_call 17; refine (iRestOk_xy _ _ _).mono ?_; rintro e w' ⟨rfl, hb⟩; (first | rw [h] | rw [h2]); replace H := H.call hb; have c0 := H.get (b := w.heap.size) (o := 0) (v := .int .i64 x) (by simp); have c1 := H.get (b := w.heap.size) (o := 1) (v := .int .i64 y) (by simp); have c2 := H.get (b := w.heap.size + 1) (o := 0) (v := .int .i64 x2) (by simp); have c3 := H.get (b := w.heap.size + 1) (o := 1) (v := .int .i64 y2) (by simp); have c4 := H.get (b := w.heap.size + 2) (o := 0) (v := .int .i64 0) (by simp); have c5 := H.get (b := w.heap.size + 2) (o := 1) (v := .int .i64 0) (by simp); have z0 := H.fz (b := w.heap.size + 2) (o := 0) (v := .int .i64 0) (by simp); have z1 := H.fz (b := w.heap.size + 2) (o := 1) (v := .int .i64 0) (by simp); obtain ⟨gs, g0, g1, gz⟩ := Gq.all (Gv.below hG H.below)) | (go_at_call 59; refine (single_xy _ _ _).mono ?_; rintro e w' ⟨rfl, hb⟩; (first | rw [hdx] | rw [hdy] | simp only [decide_true]); replace H := H.call hb; have c0 := H.get (b := w.heap.size) (o := 0) (v := .int .i64 x) (by simp); have c1 := H.get (b := w.heap.size) (o := 1) (v := .int .i64 y) (by simp); have c2 := H.get (b := w.heap.size + 1) (o := 0) (v := .int .i64 x2) (by simp); have c3 := H.get (b := w.heap.size + 1) (o := 1) (v := .int .i64 y2) (by simp); have c4 := H.get (b := w.heap.size + 2) (o := 0) (v := .int .i64 0) (by simp); have c5 := H.get (b := w.heap.size + 2) (o := 1) (v := .int .i64 0) (by simp); have z0 := H.fz (b := w.heap.size + 2) (o := 0) (v := .int .i64 0) (by simp); have z1 := H.fz (b := w.heap.size + 2) (o := 1) (v := .int .i64 0) (by simp); obtain ⟨gs, g0, g1, gz⟩ := Gq.all (Gv.below hG H.below)) | (go_at_call 61; refine (hro _).mono ?_; rintro e w' ⟨rfl, hcc, hcl, hb⟩; replace H := H.call hb; have c0 := H.get (b := w.heap.size) (o := 0) (v := .int .i64 x) (by simp); have c1 := H.get (b := w.heap.size) (o := 1) (v := .int .i64 y) (by simp); have c2 := H.get (b := w.heap.size + 1) (o := 0) (v := .int .i64 x2) (by simp); have c3 := H.get (b := w.heap.size + 1) (o := 1) (v := .int .i64 y2) (by simp); have c4 := H.get (b := w.heap.size + 2) (o := 0) (v := .int .i64 0) (by simp); have c5 := H.get (b := w.heap.size + 2) (o := 1) (v := .int .i64 0) (by simp); have z0 := H.fz (b := w.heap.size + 2) (o := 0) (v := .int .i64 0) (by simp); have z1 := H.fz (b := w.heap.size + 2) (o := 1) (v := .int .i64 0) (by simp); obtain ⟨gs, g0, g1, gz⟩ := Gq.all (Gv.below hG H.below)))
    obtain ⟨f0, f1, fb⟩ := H.fill (b := w.heap.size + 2) (x := .int .i64 0) (y := .int .i64 0) (by simp) (by simp) (by omega) (.int .i64 1) (.int .i64 0)
    refine bodyPost_ret (results_two rfl _ _ (w.heap.size + 2) (.int .i64 1) (.int .i64 0) _ rfl f0 f1 Tryd.underlying24 rfl (by kernel_rfl)) rfl ?_
    exact ⟨rfl, fb⟩
set_option maxRecDepth 100000 in
set_option maxHeartbeats 4000000 in
theorem iDo_6 (x y x2 y2 : Int) (h : qOk (x, y) = true) (h2 : qOk (x2, y2) = true) (hab : ¬ (x = 0 ∧ x2 = 0)) (w : World) (hG : Gq w) :
    Calls Tryd.prog 15 #[.int .i64 6, .agg #[.int .i64 x, .int .i64 y], .agg #[.int .i64 x2, .int .i64 y2]] w fun e w' => e = .returned (.agg #[.int .i64 (do9 6 (x, y) (x2, y2)).1, .int .i64 (do9 6 (x, y) (x2, y2)).2]) ∧ Below w.heap.size w w' := by
  have hef := eql_func
  have hen := eql_nil
  have hrf := eqlR_func
  have hrn := eqlR_nil
  have e : do9 6 (x, y) (x2, y2) = (1, 0) := by
    unfold do9
    rw [if_neg (by simp [h, h2]; decide), if_neg hab]
    simp [all9]
  rw [e]
  have ho : inB 6 1 13 = true := by decide
  have hop : ∀ w1 : World, Calls Tryd.prog 58 #[.int .i64 6] w1 fun e w' => e = .returned (.func (Fn.func (kOf 6)) #[] #[]) ∧ Below w1.heap.size w1 w' := fun w1 => oper_any 6 ho w1
  have hro : ∀ w1 : World, Calls Tryd.prog 61 #[.int .i64 6] w1 fun e w' => e = .returned .nilFunc ∧ w'.cell? ⟨w1.heap.size, 0, none⟩ = some (.int .i64 0) ∧ w1.heap.size < w'.heap.size ∧ Below w1.heap.size w1 w' := fun w1 => restOper_6 w1
  generalize kOf 6 = K at *
  obtain ⟨W, hW, H⟩ := Hd.three w (.int .i64 x) (.int .i64 y) (.int .i64 x2) (.int .i64 y2) (.int .i64 0) (.int .i64 0) 24 24 24
  have hdy : decide (x2 = 0) = decide (x2 = 0) := rfl
  by_cases hx0 : x = 0
  · subst hx0
    have hdx : decide ((0 : Int) = 0) = true := by simp
    have hdy : decide (x2 = 0) = false := by simp; omega
    go_enter Tryd.func15, Tryd.ntmps15
    go_wp2_with fail
    rw [← hW]
    clear hW
    have c0 := H.get (b := w.heap.size) (o := 0) (v := .int .i64 0) (by simp)
    have c1 := H.get (b := w.heap.size) (o := 1) (v := .int .i64 y) (by simp)
    have c2 := H.get (b := w.heap.size + 1) (o := 0) (v := .int .i64 x2) (by simp)
    have c3 := H.get (b := w.heap.size + 1) (o := 1) (v := .int .i64 y2) (by simp)
    have c4 := H.get (b := w.heap.size + 2) (o := 0) (v := .int .i64 0) (by simp)
    have c5 := H.get (b := w.heap.size + 2) (o := 1) (v := .int .i64 0) (by simp)
    have z0 := H.fz (b := w.heap.size + 2) (o := 0) (v := .int .i64 0) (by simp)
    have z1 := H.fz (b := w.heap.size + 2) (o := 1) (v := .int .i64 0) (by simp)
    obtain ⟨gs, g0, g1, gz⟩ := Gq.all (Gv.below hG H.below)
    go_wp2_with (first | (go_at_call 58; refine (hop _).mono ?_; rintro e w' ⟨rfl, hb⟩; replace H := H.call hb; have c0 := H.get (b := w.heap.size) (o := 0) (v := .int .i64 0) (by simp); have c1 := H.get (b := w.heap.size) (o := 1) (v := .int .i64 y) (by simp); have c2 := H.get (b := w.heap.size + 1) (o := 0) (v := .int .i64 x2) (by simp); have c3 := H.get (b := w.heap.size + 1) (o := 1) (v := .int .i64 y2) (by simp); have c4 := H.get (b := w.heap.size + 2) (o := 0) (v := .int .i64 0) (by simp); have c5 := H.get (b := w.heap.size + 2) (o := 1) (v := .int .i64 0) (by simp); have z0 := H.fz (b := w.heap.size + 2) (o := 0) (v := .int .i64 0) (by simp); have z1 := H.fz (b := w.heap.size + 2) (o := 1) (v := .int .i64 0) (by simp); obtain ⟨gs, g0, g1, gz⟩ := Gq.all (Gv.below hG H.below)) | (go_at_call 17; refine (iRestOk_xy _ _ _).mono ?_; rintro e w' ⟨rfl, hb⟩; (first | rw [h] | rw [h2]); replace H := H.call hb; have c0 := H.get (b := w.heap.size) (o := 0) (v := .int .i64 0) (by simp); have c1 := H.get (b := w.heap.size) (o := 1) (v := .int .i64 y) (by simp); have c2 := H.get (b := w.heap.size + 1) (o := 0) (v := .int .i64 x2) (by simp); have c3 := H.get (b := w.heap.size + 1) (o := 1) (v := .int .i64 y2) (by simp); have c4 := H.get (b := w.heap.size + 2) (o := 0) (v := .int .i64 0) (by simp); have c5 := H.get (b := w.heap.size + 2) (o := 1) (v := .int .i64 0) (by simp); have z0 := H.fz (b := w.heap.size + 2) (o := 0) (v := .int .i64 0) (by simp); have z1 := H.fz (b := w.heap.size + 2) (o := 1) (v := .int .i64 0) (by simp); obtain ⟨gs, g0, g1, gz⟩ := Gq.all (Gv.below hG H.below)) | (go_at_call 59; refine (single_xy _ _ _).mono ?_; rintro e w' ⟨rfl, hb⟩; (first | rw [hdx] | rw [hdy] | simp only [decide_true]); replace H := H.call hb; have c0 := H.get (b := w.heap.size) (o := 0) (v := .int .i64 0) (by simp); have c1 := H.get (b := w.heap.size) (o := 1) (v := .int .i64 y) (by simp); have c2 := H.get (b := w.heap.size + 1) (o := 0) (v := .int .i64 x2) (by simp); have c3 := H.get (b := w.heap.size + 1) (o := 1) (v := .int .i64 y2) (by simp); have c4 := H.get (b := w.heap.size + 2) (o := 0) (v := .int .i64 0) (by simp); have c5 := H.get (b := w.heap.size + 2) (o := 1) (v := .int .i64 0) (by simp); have z0 := H.fz (b := w.heap.size + 2) (o := 0) (v := .int .i64 0) (by simp); have z1 := H.fz (b := w.heap.size + 2) (o := 1) (v := .int .i64 0) (by simp); obtain ⟨gs, g0, g1, gz⟩ := Gq.all (Gv.below hG H.below)) | (go_at_call 61; refine (hro _).mono ?_; rintro e w' ⟨rfl, hcc, hcl, hb⟩; replace H := H.call hb; have c0 := H.get (b := w.heap.size) (o := 0) (v := .int .i64 0) (by simp); have c1 := H.get (b := w.heap.size) (o := 1) (v := .int .i64 y) (by simp); have c2 := H.get (b := w.heap.size + 1) (o := 0) (v := .int .i64 x2) (by simp); have c3 := H.get (b := w.heap.size + 1) (o := 1) (v := .int .i64 y2) (by simp); have c4 := H.get (b := w.heap.size + 2) (o := 0) (v := .int .i64 0) (by simp); have c5 := H.get (b := w.heap.size + 2) (o := 1) (v := .int .i64 0) (by simp); have z0 := H.fz (b := w.heap.size + 2) (o := 0) (v := .int .i64 0) (by simp); have z1 := H.fz (b := w.heap.size + 2) (o := 1) (v := .int .i64 0) (by simp); obtain ⟨gs, g0, g1, gz⟩ := Gq.all (Gv.below hG H.below)))
    obtain ⟨f0, f1, fb⟩ := H.fill (b := w.heap.size + 2) (x := .int .i64 0) (y := .int .i64 0) (by simp) (by simp) (by omega) (.int .i64 1) (.int .i64 0)
    refine bodyPost_ret (results_two rfl _ _ (w.heap.size + 2) (.int .i64 1) (.int .i64 0) _ rfl f0 f1 Tryd.underlying24 rfl (by kernel_rfl)) rfl ?_
    exact ⟨rfl, fb⟩
  · have hdx : decide (x = 0) = false := by simp [hx0]
    go_enter Tryd.func15, Tryd.ntmps15
    go_wp2_with fail
    rw [← hW]
    clear hW
    have c0 := H.get (b := w.heap.size) (o := 0) (v := .int .i64 x) (by simp)
    have c1 := H.get (b := w.heap.size) (o := 1) (v := .int .i64 y) (by simp)
    have c2 := H.get (b := w.heap.size + 1) (o := 0) (v := .int .i64 x2) (by simp)
    have c3 := H.get (b := w.heap.size + 1) (o := 1) (v := .int .i64 y2) (by simp)
    have c4 := H.get (b := w.heap.size + 2) (o := 0) (v := .int .i64 0) (by simp)
    have c5 := H.get (b := w.heap.size + 2) (o := 1) (v := .int .i64 0) (by simp)
    have z0 := H.fz (b := w.heap.size + 2) (o := 0) (v := .int .i64 0) (by simp)
    have z1 := H.fz (b := w.heap.size + 2) (o := 1) (v := .int .i64 0) (by simp)
    obtain ⟨gs, g0, g1, gz⟩ := Gq.all (Gv.below hG H.below)
    go_wp2_with (first | (go_at_call 58; refine (hop _).mono ?_; rintro e w' ⟨rfl, hb⟩; replace H := H.call hb; have c0 := H.get (b := w.heap.size) (o := 0) (v := .int .i64 x) (by simp); have c1 := H.get (b := w.heap.size) (o := 1) (v := .int .i64 y) (by simp); have c2 := H.get (b := w.heap.size + 1) (o := 0) (v := .int .i64 x2) (by simp); have c3 := H.get (b := w.heap.size + 1) (o := 1) (v := .int .i64 y2) (by simp); have c4 := H.get (b := w.heap.size + 2) (o := 0) (v := .int .i64 0) (by simp); have c5 := H.get (b := w.heap.size + 2) (o := 1) (v := .int .i64 0) (by simp); have z0 := H.fz (b := w.heap.size + 2) (o := 0) (v := .int .i64 0) (by simp); have z1 := H.fz (b := w.heap.size + 2) (o := 1) (v := .int .i64 0) (by simp); obtain ⟨gs, g0, g1, gz⟩ := Gq.all (Gv.below hG H.below)) | (go_at_call 17; refine (iRestOk_xy _ _ _).mono ?_; rintro e w' ⟨rfl, hb⟩; (first | rw [h] | rw [h2]); replace H := H.call hb; have c0 := H.get (b := w.heap.size) (o := 0) (v := .int .i64 x) (by simp); have c1 := H.get (b := w.heap.size) (o := 1) (v := .int .i64 y) (by simp); have c2 := H.get (b := w.heap.size + 1) (o := 0) (v := .int .i64 x2) (by simp); have c3 := H.get (b := w.heap.size + 1) (o := 1) (v := .int .i64 y2) (by simp); have c4 := H.get (b := w.heap.size + 2) (o := 0) (v := .int .i64 0) (by simp); have c5 := H.get (b := w.heap.size + 2) (o := 1) (v := .int .i64 0) (by simp); have z0 := H.fz (b := w.heap.size + 2) (o := 0) (v := .int .i64 0) (by simp); have z1 := H.fz (b := w.heap.size + 2) (o := 1) (v := .int .i64 0) (by simp); obtain ⟨gs, g0, g1, gz⟩ := Gq.all (Gv.below hG H.below)) | (go_at_call 59; refine (single_xy _ _ _).mono ?_; rintro e w' ⟨rfl, hb⟩; (first | rw [hdx] | rw [hdy] | simp only [decide_true]); replace H := H.call hb; have c0 := H.get (b := w.heap.size) (o := 0) (v := .int .i64 x) (by simp); have c1 := H.get (b := w.heap.size) (o := 1) (v := .int .i64 y) (by simp); have c2 := H.get (b := w.heap.size + 1) (o := 0) (v := .int .i64 x2) (by simp); have c3 := H.get (b := w.heap.size + 1) (o := 1) (v := .int .i64 y2) (by simp); have c4 := H.get (b := w.heap.size + 2) (o := 0) (v := .int .i64 0) (by simp); have c5 := H.get (b := w.heap.size + 2) (o := 1) (v := .int .i64 0) (by simp); have z0 := H.fz (b := w.heap.size + 2) (o := 0) (v := .int .i64 0) (by simp); have z1 := H.fz (b := w.heap.size + 2) (o := 1) (v := .int .i64 0) (by simp); obtain ⟨gs, g0, g1, gz⟩ := Gq.all (Gv.below hG H.below)) | (go_at_call 61; refine (hro _).mono ?_; rintro e w' ⟨rfl, hcc, hcl, hb⟩; replace H := H.call hb; have c0 := H.get (b := w.heap.size) (o := 0) (v := .int .i64 x) (by simp); have c1 := H.get (b := w.heap.size) (o := 1) (v := .int .i64 y) (by simp); have c2 := H.get (b := w.heap.size + 1) (o := 0) (v := .int .i64 x2) (by simp); have c3 := H.get (b := w.heap.size + 1) (o := 1) (v := .int .i64 y2) (by simp); have c4 := H.get (b := w.heap.size + 2) (o := 0) (v := .int .i64 0) (by simp); have c5 := H.get (b := w.heap.size + 2) (o := 1) (v := .int .i64 0) (by simp); have z0 := H.fz (b := w.heap.size + 2) (o := 0) (v := .int .i64 0) (by simp); have z1 := H.fz (b := w.heap.size + 2) (o := 1) (v := .int .i64 0) (by simp); obtain ⟨gs, g0, g1, gz⟩ := Gq.all (Gv.below hG H.below)))
    obtain ⟨f0, f1, fb⟩ := H.fill (b := w.heap.size + 2) (x := .int .i64 0) (y := .int .i64 0) (by simp) (by simp) (by omega) (.int .i64 1) (.int .i64 0)
    refine bodyPost_ret (results_two rfl _ _ (w.heap.size + 2) (.int .i64 1) (.int .i64 0) _ rfl f0 f1 Tryd.underlying24 rfl (by kernel_rfl)) rfl ?_
    exact ⟨rfl, fb⟩
set_option maxRecDepth 100000 in
set_option maxHeartbeats 4000000 in
theorem iDo_7 (x y x2 y2 : Int) (h : qOk (x, y) = true) (h2 : qOk (x2, y2) = true) (hab : ¬ (x = 0 ∧ x2 = 0)) (w : World) (hG : Gq w) :
    Calls Tryd.prog 15 #[.int .i64 7, .agg #[.int .i64 x, .int .i64 y], .agg #[.int .i64 x2, .int .i64 y2]] w fun e w' => e = .returned (.agg #[.int .i64 (do9 7 (x, y) (x2, y2)).1, .int .i64 (do9 7 (x, y) (x2, y2)).2]) ∧ Below w.heap.size w w' := by
  have hef := eql_func
  have hen := eql_nil
  have hrf := eqlR_func
  have hrn := eqlR_nil
  have e : do9 7 (x, y) (x2, y2) = (1, 0) := by
    unfold do9
    rw [if_neg (by simp [h, h2]; decide), if_neg hab]
    simp [all9]
  rw [e]
  have ho : inB 7 1 13 = true := by decide
  have hop : ∀ w1 : World, Calls Tryd.prog 58 #[.int .i64 7] w1 fun e w' => e = .returned (.func (Fn.func (kOf 7)) #[] #[]) ∧ Below w1.heap.size w1 w' := fun w1 => oper_any 7 ho w1
  have hro : ∀ w1 : World, Calls Tryd.prog 61 #[.int .i64 7] w1 fun e w' => e = .returned .nilFunc ∧ w'.cell? ⟨w1.heap.size, 0, none⟩ = some (.int .i64 0) ∧ w1.heap.size < w'.heap.size ∧ Below w1.heap.size w1 w' := fun w1 => restOper_7 w1
  generalize kOf 7 = K at *
  obtain ⟨W, hW, H⟩ := Hd.three w (.int .i64 x) (.int .i64 y) (.int .i64 x2) (.int .i64 y2) (.int .i64 0) (.int .i64 0) 24 24 24
  have hdy : decide (x2 = 0) = decide (x2 = 0) := rfl
  by_cases hx0 : x = 0
  · subst hx0
    have hdx : decide ((0 : Int) = 0) = true := by simp
    have hdy : decide (x2 = 0) = false := by simp; omega
    go_enter Tryd.func15, Tryd.ntmps15
    go_wp2_with fail
    rw [← hW]
    clear hW
    have c0 := H.get (b := w.heap.size) (o := 0) (v := .int .i64 0) (by simp)
    have c1 := H.get (b := w.heap.size) (o := 1) (v := .int .i64 y) (by simp)
    have c2 := H.get (b := w.heap.size + 1) (o := 0) (v := .int .i64 x2) (by simp)
    have c3 := H.get (b := w.heap.size + 1) (o := 1) (v := .int .i64 y2) (by simp)
    have c4 := H.get (b := w.heap.size + 2) (o := 0) (v := .int .i64 0) (by simp)
    have c5 := H.get (b := w.heap.size + 2) (o := 1) (v := .int .i64 0) (by simp)
    have z0 := H.fz (b := w.heap.size + 2) (o := 0) (v := .int .i64 0) (by simp)
    have z1 := H.fz (b := w.heap.size + 2) (o := 1) (v := .int .i64 0) (by simp)
    obtain ⟨gs, g0, g1, gz⟩ := Gq.all (Gv.below hG H.below)
    go_wp2_with (first | (go_at_call 58; refine (hop _).mono ?_; rintro e w' ⟨rfl, hb⟩; replace H := H.call hb; have c0 := H.get (b := w.heap.size) (o := 0) (v := .int .i64 0) (by simp); have c1 := H.get (b := w.heap.size) (o := 1) (v := .int .i64 y) (by simp); have c2 := H.get (b := w.heap.size + 1) (o := 0) (v := .int .i64 x2) (by simp); have c3 := H.get (b := w.heap.size + 1) (o := 1) (v := .int .i64 y2) (by simp); have c4 := H.get (b := w.heap.size + 2) (o := 0) (v := .int .i64 0) (by simp); have c5 := H.get (b := w.heap.size + 2) (o := 1) (v := .int .i64 0) (by simp); have z0 := H.fz (b := w.heap.size + 2) (o := 0) (v := .int .i64 0) (by simp); have z1 := H.fz (b := w.heap.size + 2) (o := 1) (v := .int .i64 0) (by simp); obtain ⟨gs, g0, g1, gz⟩ := Gq.all (Gv.below hG H.below)) | (go_at_call 17; refine (iRestOk_xy _ _ _).mono ?_; rintro e w' ⟨rfl, hb⟩; (first | rw [h] | rw [h2]); replace H := H.call hb; have c0 := H.get (b := w.heap.size) (o := 0) (v := .int .i64 0) (by simp); have c1 := H.get (b := w.heap.size) (o := 1) (v := .int .i64 y) (by simp); have c2 := H.get (b := w.heap.size + 1) (o := 0) (v := .int .i64 x2) (by simp); have c3 := H.get (b := w.heap.size + 1) (o := 1) (v := .int .i64 y2) (by simp); have c4 := H.get (b := w.heap.size + 2) (o := 0) (v := .int .i64 0) (by simp); have c5 := H.get (b := w.heap.size + 2) (o := 1) (v := .int .i64 0) (by simp); have z0 := H.fz (b := w.heap.size + 2) (o := 0) (v := .int .i64 0) (by simp); have z1 := H.fz (b := w.heap.size + 2) (o := 1) (v := .int .i64 0) (by simp); obtain ⟨gs, g0, g1, gz⟩ := Gq.all (Gv.below hG H.below)) | (go_at_call 59; refine (single_xy _ _ _).mono ?_; rintro e w' ⟨rfl, hb⟩; (first | rw [hdx] | rw [hdy] | simp only [decide_true]); replace H := H.call hb; have c0 := H.get (b := w.heap.size) (o := 0) (v := .int .i64 0) (by simp); have c1 := H.get (b := w.heap.size) (o := 1) (v := .int .i64 y) (by simp); have c2 := H.get (b := w.heap.size + 1) (o := 0) (v := .int .i64 x2) (by simp); have c3 := H.get (b := w.heap.size + 1) (o := 1) (v := .int .i64 y2) (by simp); have c4 := H.get (b := w.heap.size + 2) (o := 0) (v := .int .i64 0) (by simp); have c5 := H.get (b := w.heap.size + 2) (o := 1) (v := .int .i64 0) (by simp); have z0 := H.fz (b := w.heap.size + 2) (o := 0) (v := .int .i64 0) (by simp); have z1 := H.fz (b := w.heap.size + 2) (o := 1) (v := .int .i64 0) (by simp); obtain ⟨gs, g0, g1, gz⟩ := Gq.all (Gv.below hG H.below)) | (go_at_call 61; refine (hro _).mono ?_; rintro e w' ⟨rfl, hcc, hcl, hb⟩; replace H := H.call hb; have c0 := H.get (b := w.heap.size) (o := 0) (v := .int .i64 0) (by simp); have c1 := H.get (b := w.heap.size) (o := 1) (v := .int .i64 y) (by simp); have c2 := H.get (b := w.heap.size + 1) (o := 0) (v := .int .i64 x2) (by simp); have c3 := H.get (b := w.heap.size + 1) (o := 1) (v := .int .i64 y2) (by simp); have c4 := H.get (b := w.heap.size + 2) (o := 0) (v := .int .i64 0) (by simp); have c5 := H.get (b := w.heap.size + 2) (o := 1) (v := .int .i64 0) (by simp); have z0 := H.fz (b := w.heap.size + 2) (o := 0) (v := .int .i64 0) (by simp); have z1 := H.fz (b := w.heap.size + 2) (o := 1) (v := .int .i64 0) (by simp); obtain ⟨gs, g0, g1, gz⟩ := Gq.all (Gv.below hG H.below)))
    obtain ⟨f0, f1, fb⟩ := H.fill (b := w.heap.size + 2) (x := .int .i64 0) (y := .int .i64 0) (by simp) (by simp) (by omega) (.int .i64 1) (.int .i64 0)
    refine bodyPost_ret (results_two rfl _ _ (w.heap.size + 2) (.int .i64 1) (.int .i64 0) _ rfl f0 f1 Tryd.underlying24 rfl (by kernel_rfl)) rfl ?_
    exact ⟨rfl, fb⟩
  · have hdx : decide (x = 0) = false := by simp [hx0]
    go_enter Tryd.func15, Tryd.ntmps15
    go_wp2_with fail
    rw [← hW]
    clear hW
    have c0 := H.get (b := w.heap.size) (o := 0) (v := .int .i64 x) (by simp)
    have c1 := H.get (b := w.heap.size) (o := 1) (v := .int .i64 y) (by simp)
    have c2 := H.get (b := w.heap.size + 1) (o := 0) (v := .int .i64 x2) (by simp)
    have c3 := H.get (b := w.heap.size + 1) (o := 1) (v := .int .i64 y2) (by simp)
    have c4 := H.get (b := w.heap.size + 2) (o := 0) (v := .int .i64 0) (by simp)
    have c5 := H.get (b := w.heap.size + 2) (o := 1) (v := .int .i64 0) (by simp)
    have z0 := H.fz (b := w.heap.size + 2) (o := 0) (v := .int .i64 0) (by simp)
    have z1 := H.fz (b := w.heap.size + 2) (o := 1) (v := .int .i64 0) (by simp)
    obtain ⟨gs, g0, g1, gz⟩ := Gq.all (Gv.below hG H.below)
    go_wp2_with (first | (go_at_call 58; refine (hop _).mono ?_; rintro e w' ⟨rfl, hb⟩; replace H := H.call hb; have c0 := H.get (b := w.heap.size) (o := 0) (v := .int .i64 x) (by simp); have c1 := H.get (b := w.heap.size) (o := 1) (v := .int .i64 y) (by simp); have c2 := H.get (b := w.heap.size + 1) (o := 0) (v := .int .i64 x2) (by simp); have c3 := H.get (b := w.heap.size + 1) (o := 1) (v := .int .i64 y2) (by simp); have c4 := H.get (b := w.heap.size + 2) (o := 0) (v := .int .i64 0) (by simp); have c5 := H.get (b := w.heap.size + 2) (o := 1) (v := .int .i64 0) (by simp); have z0 := H.fz (b := w.heap.size + 2) (o := 0) (v := .int .i64 0) (by simp); have z1 := H.fz (b := w.heap.size + 2) (o := 1) (v := .int .i64 0) (by simp); obtain ⟨gs, g0, g1, gz⟩ := Gq.all (Gv.below hG H.below)) | (go_at_call 17; refine (iRestOk_xy _ _ _).mono ?_; rintro e w' ⟨rfl, hb⟩; (first | rw [h] | rw [h2]); replace H := H.call hb; have c0 := H.get (b := w.heap.size) (o := 0) (v := .int .i64 x) (by simp); have c1 := H.get (b := w.heap.size) (o := 1) (v := .int .i64 y) (by simp); have c2 := H.get (b := w.heap.size + 1) (o := 0) (v := .int .i64 x2) (by simp); have c3 := H.get (b := w.heap.size + 1) (o := 1) (v := .int .i64 y2) (by simp); have c4 := H.get (b := w.heap.size + 2) (o := 0) (v := .int .i64 0) (by simp); have c5 := H.get (b := w.heap.size + 2) (o := 1) (v := .int .i64 0) (by simp); have z0 := H.fz (b := w.heap.size + 2) (o := 0) (v := .int .i64 0) (by simp); have z1 := H.fz (b := w.heap.size + 2) (o := 1) (v := .int .i64 0) (by simp); obtain ⟨gs, g0, g1, gz⟩ := Gq.all (Gv.below hG H.below)) | (go_at_call 59; refine (single_xy _ _ _).mono ?_; rintro e w' ⟨rfl, hb⟩; (first | rw [hdx] | rw [hdy] | simp only [decide_true]); replace H := H.call hb; have c0 := H.get (b := w.heap.size) (o := 0) (v := .int .i64 x) (by simp); have c1 := H.get (b := w.heap.size) (o := 1) (v := .int .i64 y) (by simp); have c2 := H.get (b := w.heap.size + 1) (o := 0) (v := .int .i64 x2) (by simp); have c3 := H.get (b := w.heap.size + 1) (o := 1) (v := .int .i64 y2) (by simp); have c4 := H.get (b := w.heap.size + 2) (o := 0) (v := .int .i64 0) (by simp); have c5 := H.get (b := w.heap.size + 2) (o := 1) (v := .int .i64 0) (by simp); have z0 := H.fz (b := w.heap.size + 2) (o := 0) (v := .int .i64 0) (by simp); have z1 := H.fz (b := w.heap.size + 2) (o := 1) (v := .int .i64 0) (by simp); obtain ⟨gs, g0, g1, gz⟩ := Gq.all (Gv.below hG H.below)) | (go_at_call 61; refine (hro _).mono ?_; rintro e w' ⟨rfl, hcc, hcl, hb⟩; replace H := H.call hb; have c0 := H.get (b := w.heap.size) (o := 0) (v := .int .i64 x) (by simp); have c1 := H.get (b := w.heap.size) (o := 1) (v := .int .i64 y) (by simp); have c2 := H.get (b := w.heap.size + 1) (o := 0) (v := .int .i64 x2) (by simp); have c3 := H.get (b := w.heap.size + 1) (o := 1) (v := .int .i64 y2) (by simp); have c4 := H.get (b := w.heap.size + 2) (o := 0) (v := .int .i64 0) (by simp); have c5 := H.get (b := w.heap.size + 2) (o := 1) (v := .int .i64 0) (by simp); have z0 := H.fz (b := w.heap.size + 2) (o := 0) (v := .int .i64 0) (by simp); have z1 := H.fz (b := w.heap.size + 2) (o := 1) (v := .int .i64 0) (by simp); obtain ⟨gs, g0, g1, gz⟩ := Gq.all (Gv.below hG H.below)))
    obtain ⟨f0, f1, fb⟩ := H.fill (b := w.heap.size + 2) (x := .int .i64 0) (y := .int .i64 0) (by simp) (by simp) (by omega) (.int .i64 1) (.int .i64 0)
    refine bodyPost_ret (results_two rfl _ _ (w.heap.size + 2) (.int .i64 1) (.int .i64 0) _ rfl f0 f1 Tryd.underlying24 rfl (by kernel_rfl)) rfl ?_
    exact ⟨rfl, fb⟩
set_option maxRecDepth 100000 in
set_option maxHeartbeats 4000000 in
theorem iDo_8 (x y x2 y2 : Int) (h : qOk (x, y) = true) (h2 : qOk (x2, y2) = true) (hab : ¬ (x = 0 ∧ x2 = 0)) (w : World) (hG : Gq w) :
    Calls Tryd.prog 15 #[.int .i64 8, .agg #[.int .i64 x, .int .i64 y], .agg #[.int .i64 x2, .int .i64 y2]] w fun e w' => e = .returned (.agg #[.int .i64 (do9 8 (x, y) (x2, y2)).1, .int .i64 (do9 8 (x, y) (x2, y2)).2]) ∧ Below w.heap.size w w' := by
  have hef := eql_func
  have hen := eql_nil
  have hrf := eqlR_func
  have hrn := eqlR_nil
  have e : do9 8 (x, y) (x2, y2) = (1, 0) := by
    unfold do9
    rw [if_neg (by simp [h, h2]; decide), if_neg hab]
    simp [all9]
  rw [e]
  have ho : inB 8 1 13 = true := by decide
  have hop : ∀ w1 : World, Calls Tryd.prog 58 #[.int .i64 8] w1 fun e w' => e = .returned (.func (Fn.func (kOf 8)) #[] #[]) ∧ Below w1.heap.size w1 w' := fun w1 => oper_any 8 ho w1
  have hro : ∀ w1 : World, Calls Tryd.prog 61 #[.int .i64 8] w1 fun e w' => e = .returned .nilFunc ∧ w'.cell? ⟨w1.heap.size, 0, none⟩ = some (.int .i64 0) ∧ w1.heap.size < w'.heap.size ∧ Below w1.heap.size w1 w' := fun w1 => restOper_8 w1
  generalize kOf 8 = K at *
  obtain ⟨W, hW, H⟩ := Hd.three w (.int .i64 x) (.int .i64 y) (.int .i64 x2) (.int .i64 y2) (.int .i64 0) (.int .i64 0) 24 24 24
  have hdy : decide (x2 = 0) = decide (x2 = 0) := rfl
  by_cases hx0 : x = 0
  · subst hx0
    have hdx : decide ((0 : Int) = 0) = true := by simp
    have hdy : decide (x2 = 0) = false := by simp; omega
    go_enter Tryd.func15, Tryd.ntmps15
    go_wp2_with fail
    rw [← hW]
    clear hW
    have c0 := H.get (b := w.heap.size) (o := 0) (v := .int .i64 0) (by simp)
    have c1 := H.get (b := w.heap.size) (o := 1) (v := .int .i64 y) (by simp)
    have c2 := H.get (b := w.heap.size + 1) (o := 0) (v := .int .i64 x2) (by simp)
    have c3 := H.get (b := w.heap.size + 1) (o := 1) (v := .int .i64 y2) (by simp)
    have c4 := H.get (b := w.heap.size + 2) (o := 0) (v := .int .i64 0) (by simp)
    have c5 := H.get (b := w.heap.size + 2) (o := 1) (v := .int .i64 0) (by simp)
    have z0 := H.fz (b := w.heap.size + 2) (o := 0) (v := .int .i64 0) (by simp)
    have z1 := H.fz (b := w.heap.size + 2) (o := 1) (v := .int .i64 0) (by simp)
    obtain ⟨gs, g0, g1, gz⟩ := Gq.all (Gv.below hG H.below)
    go_wp2_with (first | (go_at_call 58; refine (hop _).mono ?_; rintro e w' ⟨rfl, hb⟩; replace H := H.call hb; have c0 := H.get (b := w.heap.size) (o := 0) (v := .int .i64 0) (by simp); have c1 := H.get (b := w.heap.size) (o := 1) (v := .int .i64 y) (by simp); have c2 := H.get (b := w.heap.size + 1) (o := 0) (v := .int .i64 x2) (by simp); have c3 := H.get (b := w.heap.size + 1) (o := 1) (v := .int .i64 y2) (by simp); have c4 := H.get (b := w.heap.size + 2) (o := 0) (v := .int .i64 0) (by simp); have c5 := H.get (b := w.heap.size + 2) (o := 1) (v := .int .i64 0) (by simp); have z0 := H.fz (b := w.heap.size + 2) (o := 0) (v := .int .i64 0) (by simp); have z1 := H.fz (b := w.heap.size + 2) (o := 1) (v := .int .i64 0) (by simp); obtain ⟨gs, g0, g1, gz⟩ := Gq.all (Gv.below hG H.below)) | (go_at_call 17; refine (iRestOk_xy _ _ _).mono ?_; rintro e w' ⟨rfl, hb⟩; (first | rw [h] | rw [h2]); replace H := H.call hb; have c0 := H.get (b := w.heap.size) (o := 0) (v := .int .i64 0) (by simp); have c1 := H.get (b := w.heap.size) (o := 1) (v := .int .i64 y) (by simp); have c2 := H.get (b := w.heap.size + 1) (o := 0) (v := .int .i64 x2) (by simp); have c3 := H.get (b := w.heap.size + 1) (o := 1) (v := .int .i64 y2) (by simp); have c4 := H.get (b := w.heap.size + 2) (o := 0) (v := .int .i64 0) (by simp); have c5 := H.get (b := w.heap.size + 2) (o := 1) (v := .int .i64 0) (by simp); have z0 := H.fz (b := w.heap.size + 2) (o := 0) (v := .int .i64 0) (by simp); have z1 := H.fz (b := w.heap.size + 2) (o := 1) (v := .int .i64 0) (by simp); obtain ⟨gs, g0, g1, gz⟩ := Gq.all (Gv.below hG H.below)) | (go_at_call 59; refine (single_xy _ _ _).mono ?_; rintro e w' ⟨rfl, hb⟩; (first | rw [hdx] | rw [hdy] | simp only [decide_true]); replace H := H.call hb; have c0 := H.get (b := w.heap.size) (o := 0) (v := .int .i64 0) (by simp); have c1 := H.get (b := w.heap.size) (o := 1) (v := .int .i64 y) (by simp); have c2 := H.get (b := w.heap.size + 1) (o := 0) (v := .int .i64 x2) (by simp); have c3 := H.get (b := w.heap.size + 1) (o := 1) (v := .int .i64 y2) (by simp); have c4 := H.get (b := w.heap.size + 2) (o := 0) (v := .int .i64 0) (by simp); have c5 := H.get (b := w.heap.size + 2) (o := 1) (v := .int .i64 0) (by simp); have z0 := H.fz (b := w.heap.size + 2) (o := 0) (v := .int .i64 0) (by simp); have z1 := H.fz (b := w.heap.size + 2) (o := 1) (v := .int .i64 0) (by simp); obtain ⟨gs, g0, g1, gz⟩ := Gq.all (Gv.below hG H.below)) | (go_at_call 61; refine (hro _).mono ?_; rintro e w' ⟨rfl, hcc, hcl, hb⟩; replace H := H.call hb; have c0 := H.get (b := w.heap.size) (o := 0) (v := .int .i64 0) (by simp); have c1 := H.get (b := w.heap.size) (o := 1) (v := .int .i64 y) (by simp); have c2 := H.get (b := w.heap.size + 1) (o := 0) (v := .int .i64 x2) (by simp); have c3 := H.get (b := w.heap.size + 1) (o := 1) (v := .int .i64 y2) (by simp); have c4 := H.get (b := w.heap.size + 2) (o := 0) (v := .int .i64 0) (by simp); have c5 := H.get (b := w.heap.size + 2) (o := 1) (v := .int .i64 0) (by simp); have z0 := H.fz (b := w.heap.size + 2) (o := 0) (v := .int .i64 0) (by simp); have z1 := H.fz (b := w.heap.size + 2) (o := 1) (v := .int .i64 0) (by simp); obtain ⟨gs, g0, g1, gz⟩ := Gq.all (Gv.below hG H.below)))
    obtain ⟨f0, f1, fb⟩ := H.fill (b := w.heap.size + 2) (x := .int .i64 0) (y := .int .i64 0) (by simp) (by simp) (by omega) (.int .i64 1) (.int .i64 0)
    refine bodyPost_ret (results_two rfl _ _ (w.heap.size + 2) (.int .i64 1) (.int .i64 0) _ rfl f0 f1 Tryd.underlying24 rfl (by kernel_rfl)) rfl ?_
    exact ⟨rfl, fb⟩
  · have hdx : decide (x = 0) = false := by simp [hx0]
    go_enter Tryd.func15, Tryd.ntmps15
    go_wp2_with fail
    rw [← hW]
    clear hW
    have c0 := H.get (b := w.heap.size) (o := 0) (v := .int .i64 x) (by simp)
    have c1 := H.get (b := w.heap.size) (o := 1) (v := .int .i64 y) (by simp)
    have c2 := H.get (b := w.heap.size + 1) (o := 0) (v := .int .i64 x2) (by simp)
    have c3 := H.get (b := w.heap.size + 1) (o := 1) (v := .int .i64 y2) (by simp)
    have c4 := H.get (b := w.heap.size + 2) (o := 0) (v := .int .i64 0) (by simp)
    have c5 := H.get (b := w.heap.size + 2) (o := 1) (v := .int .i64 0) (by simp)
    have z0 := H.fz (b := w.heap.size + 2) (o := 0) (v := .int .i64 0) (by simp)
    have z1 := H.fz (b := w.heap.size + 2) (o := 1) (v := .int .i64 0) (by simp)
    obtain ⟨gs, g0, g1, gz⟩ := Gq.all (Gv.below hG H.below)
    go_wp2_with (first | (go_at_call 58; refine (hop _).mono ?_; rintro e w' ⟨rfl, hb⟩; replace H := H.call hb; have c0 := H.get (b := w.heap.size) (o := 0) (v := .int .i64 x) (by simp); have c1 := H.get (b := w.heap.size) (o := 1) (v := .int .i64 y) (by simp); have c2 := H.get (b := w.heap.size + 1) (o := 0) (v := .int .i64 x2) (by simp); have c3 := H.get (b := w.heap.size + 1) (o := 1) (v := .int .i64 y2) (by simp); have c4 := H.get (b := w.heap.size + 2) (o := 0) (v := .int .i64 0) (by simp); have c5 := H.get (b := w.heap.size + 2) (o := 1) (v := .int .i64 0) (by simp); have z0 := H.fz (b := w.heap.size + 2) (o := 0) (v := .int .i64 0) (by simp); have z1 := H.fz (b := w.heap.size + 2) (o := 1) (v := .int .i64 0) (by simp); obtain ⟨gs, g0, g1, gz⟩ := Gq.all (Gv.below hG H.below)) | (go_at_call 17; refine (iRestOk_xy _ _ _).mono ?_; rintro e w' ⟨rfl, hb⟩; (first | rw [h] | rw [h2]); replace H := H.call hb; have c0 := H.get (b := w.heap.size) (o := 0) (v := .int .i64 x) (by simp); have c1 := H.get (b := w.heap.size) (o := 1) (v := .int .i64 y) (by simp); have c2 := H.get (b := w.heap.size + 1) (o := 0) (v := .int .i64 x2) (by simp); have c3 := H.get (b := w.heap.size + 1) (o := 1) (v := .int .i64 y2) (by simp); have c4 := H.get (b := w.heap.size + 2) (o := 0) (v := .int .i64 0) (by simp); have c5 := H.get (b := w.heap.size + 2) (o := 1) (v := .int .i64 0) (by simp); have z0 := H.fz (b := w.heap.size + 2) (o := 0) (v := .int .i64 0) (by simp); have z1 := H.fz (b := w.heap.size + 2) (o := 1) (v := .int .i64 0) (by simp); obtain ⟨gs, g0, g1, gz⟩ := Gq.all (Gv.below hG H.below)) | (go_at_call 59; refine (single_xy _ _ _).mono ?_; rintro e w' ⟨rfl, hb⟩; (first | rw [hdx] | rw [hdy] | simp only [decide_true]); replace H := H.call hb; have c0 := H.get (b := w.heap.size) (o := 0) (v := .int .i64 x) (by simp); have c1 := H.get (b := w.heap.size) (o := 1) (v := .int .i64 y) (by simp); have c2 := H.get (b := w.heap.size + 1) (o := 0) (v := .int .i64 x2) (by simp); have c3 := H.get (b := w.heap.size + 1) (o := 1) (v := .int .i64 y2) (by simp); have c4 := H.get (b := w.heap.size + 2) (o := 0) (v := .int .i64 0) (by simp); have c5 := H.get (b := w.heap.size + 2) (o := 1) (v := .int .i64 0) (by simp); have z0 := H.fz (b := w.heap.size + 2) (o := 0) (v := .int .i64 0) (by simp); have z1 := H.fz (b := w.heap.size + 2) (o := 1) (v := .int .i64 0) (by simp); obtain ⟨gs, g0, g1, gz⟩ := Gq.all (Gv.below hG H.below)) | (go_at_call 61; refine (hro _).mono ?_; rintro e w' ⟨rfl, hcc, hcl, hb⟩; replace H := H.call hb; have c0 := H.get (b := w.heap.size) (o := 0) (v := .int .i64 x) (by simp); have c1 := H.get (b := w.heap.size) (o := 1) (v := .int .i64 y) (by simp); have c2 := H.get (b := w.heap.size + 1) (o := 0) (v := .int .i64 x2) (by simp); have c3 := H.get (b := w.heap.size + 1) (o := 1) (v := .int .i64 y2) (by simp); have c4 := H.get (b := w.heap.size + 2) (o := 0) (v := .int .i64 0) (by simp); have c5 := H.get (b := w.heap.size + 2) (o := 1) (v := .int .i64 0) (by simp); have z0 := H.fz (b := w.heap.size + 2) (o := 0) (v := .int .i64 0) (by simp); have z1 := H.fz (b := w.heap.size + 2) (o := 1) (v := .int .i64 0) (by simp); obtain ⟨gs, g0, g1, gz⟩ := Gq.all (Gv.below hG H.below)))
    obtain ⟨f0, f1, fb⟩ := H.fill (b := w.heap.size + 2) (x := .int .i64 0) (y := .int .i64 0) (by simp) (by simp) (by omega) (.int .i64 1) (.int .i64 0)
    refine bodyPost_ret (results_two rfl _ _ (w.heap.size + 2) (.int .i64 1) (.int .i64 0) _ rfl f0 f1 Tryd.underlying24 rfl (by kernel_rfl)) rfl ?_
    exact ⟨rfl, fb⟩
set_option maxRecDepth 100000 in
set_option maxHeartbeats 4000000 in
theorem iDo_10 (x y x2 y2 : Int) (h : qOk (x, y) = true) (h2 : qOk (x2, y2) = true) (hab : ¬ (x = 0 ∧ x2 = 0)) (w : World) (hG : Gq w) :
    Calls Tryd.prog 15 #[.int .i64 10, .agg #[.int .i64 x, .int .i64 y], .agg #[.int .i64 x2, .int .i64 y2]] w fun e w' => e = .returned (.agg #[.int .i64 (do9 10 (x, y) (x2, y2)).1, .int .i64 (do9 10 (x, y) (x2, y2)).2]) ∧ Below w.heap.size w w' := by
  have hef := eql_func
  have hen := eql_nil
  have hrf := eqlR_func
  have hrn := eqlR_nil
  have e : do9 10 (x, y) (x2, y2) = (1, 0) := by
    unfold do9
    rw [if_neg (by simp [h, h2]; decide), if_neg hab]
    simp [all9]
  rw [e]
  have ho : inB 10 1 13 = true := by decide
  have hop : ∀ w1 : World, Calls Tryd.prog 58 #[.int .i64 10] w1 fun e w' => e = .returned (.func (Fn.func (kOf 10)) #[] #[]) ∧ Below w1.heap.size w1 w' := fun w1 => oper_any 10 ho w1
  have hro : ∀ w1 : World, Calls Tryd.prog 61 #[.int .i64 10] w1 fun e w' => e = .returned .nilFunc ∧ w'.cell? ⟨w1.heap.size, 0, none⟩ = some (.int .i64 0) ∧ w1.heap.size < w'.heap.size ∧ Below w1.heap.size w1 w' := fun w1 => restOper_10 w1
  generalize kOf 10 = K at *
  obtain ⟨W, hW, H⟩ := Hd.three w (.int .i64 x) (.int .i64 y) (.int .i64 x2) (.int .i64 y2) (.int .i64 0) (.int .i64 0) 24 24 24
  have hdy : decide (x2 = 0) = decide (x2 = 0) := rfl
  by_cases hx0 : x = 0
  · subst hx0
    have hdx : decide ((0 : Int) = 0) = true := by simp
    have hdy : decide (x2 = 0) = false := by simp; omega
    go_enter Tryd.func15, Tryd.ntmps15
    go_wp2_with fail
    rw [← hW]
    clear hW
    have c0 := H.get (b := w.heap.size) (o := 0) (v := .int .i64 0) (by simp)
    have c1 := H.get (b := w.heap.size) (o := 1) (v := .int .i64 y) (by simp)
    have c2 := H.get (b := w.heap.size + 1) (o := 0) (v := .int .i64 x2) (by simp)
    have c3 := H.get (b := w.heap.size + 1) (o := 1) (v := .int .i64 y2) (by simp)
    have c4 := H.get (b := w.heap.size + 2) (o := 0) (v := .int .i64 0) (by simp)
    have c5 := H.get (b := w.heap.size + 2) (o := 1) (v := .int .i64 0) (by simp)
    have z0 := H.fz (b := w.heap.size + 2) (o := 0) (v := .int .i64 0) (by simp)
    have z1 := H.fz (b := w.heap.size + 2) (o := 1) (v := .int .i64 0) (by simp)
    obtain ⟨gs, g0, g1, gz⟩ := Gq.all (Gv.below hG H.below)
    go_wp2_with (first | (go_at_call 58; refine (hop _).mono ?_; rintro e w' ⟨rfl, hb⟩; replace H := H.call hb; have c0 := H.get (b := w.heap.size) (o := 0) (v := .int .i64 0) (by simp); have c1 := H.get (b := w.heap.size) (o := 1) (v := .int .i64 y) (by simp); have c2 := H.get (b := w.heap.size + 1) (o := 0) (v := .int .i64 x2) (by simp); have c3 := H.get (b := w.heap.size + 1) (o := 1) (v := .int .i64 y2) (by simp); have c4 := H.get (b := w.heap.size + 2) (o := 0) (v := .int .i64 0) (by simp); have c5 := H.get (b := w.heap.size + 2) (o := 1) (v := .int .i64 0) (by simp); have z0 := H.fz (b := w.heap.size + 2) (o := 0) (v := .int .i64 0) (by simp); have z1 := H.fz (b := w.heap.size + 2) (o := 1) (v := .int .i64 0) (by simp); obtain ⟨gs, g0, g1, gz⟩ := Gq.all (Gv.below hG H.below)) | (go_at_call 17; refine (iRestOk_xy _ _ _).mono ?_; rintro e w' ⟨rfl, hb⟩; (first | rw [h] | rw [h2]); replace H := H.call hb; have c0 := H.get (b := w.heap.size) (o := 0) (v := .int .i64 0) (by simp); have c1 := H.get (b := w.heap.size) (o := 1) (v := .int .i64 y) (by simp); have c2 := H.get (b := w.heap.size + 1) (o := 0) (v := .int .i64 x2) (by simp); have c3 := H.get (b := w.heap.size + 1) (o := 1) (v := .int .i64 y2) (by simp); have c4 := H.get (b := w.heap.size + 2) (o := 0) (v := .int .i64 0) (by simp); have c5 := H.get (b := w.heap.size + 2) (o := 1) (v := .int .i64 0) (by simp); have z0 := H.fz (b := w.heap.size + 2) (o := 0) (v := .int .i64 0) (by simp); have z1 := H.fz (b := w.heap.size + 2) (o := 1) (v := .int .i64 0) (by simp); obtain ⟨gs, g0, g1, gz⟩ := Gq.all (Gv.below hG H.below)) | (go_at_call 59; refine (single_xy _ _ _).mono ?_; rintro e w' ⟨rfl, hb⟩; (first | rw [hdx] | rw [hdy] | simp only [decide_true]); replace H := H.call hb; have c0 := H.get (b := w.heap.size) (o := 0) (v := .int .i64 0) (by simp); have c1 := H.get (b := w.heap.size) (o := 1) (v := .int .i64 y) (by simp); have c2 := H.get (b := w.heap.size + 1) (o := 0) (v := .int .i64 x2) (by simp); have c3 := H.get (b := w.heap.size + 1) (o := 1) (v := .int .i64 y2) (by simp); have c4 := H.get (b := w.heap.size + 2) (o := 0) (v := .int .i64 0) (by simp); have c5 := H.get (b := w.heap.size + 2) (o := 1) (v := .int .i64 0) (by simp); have z0 := H.fz (b := w.heap.size + 2) (o := 0) (v := .int .i64 0) (by simp); have z1 := H.fz (b := w.heap.size + 2) (o := 1) (v := .int .i64 0) (by simp); obtain ⟨gs, g0, g1, gz⟩ := Gq.all (Gv.below hG H.below)) | (go_at_call 61; refine (hro _).mono ?_; rintro e w' ⟨rfl, hcc, hcl, hb⟩; replace H := H.call hb; have c0 := H.get (b := w.heap.size) (o := 0) (v := .int .i64 0) (by simp); have c1 := H.get (b := w.heap.size) (o := 1) (v := .int .i64 y) (by simp); have c2 := H.get (b := w.heap.size + 1) (o := 0) (v := .int .i64 x2) (by simp); have c3 := H.get (b := w.heap.size + 1) (o := 1) (v := .int .i64 y2) (by simp); have c4 := H.get (b := w.heap.size + 2) (o := 0) (v := .int .i64 0) (by simp); have c5 := H.get (b := w.heap.size + 2) (o := 1) (v := .int .i64 0) (by simp); have z0 := H.fz (b := w.heap.size + 2) (o := 0) (v := .int .i64 0) (by simp); have z1 := H.fz (b := w.heap.size + 2) (o := 1) (v := .int .i64 0) (by simp); obtain ⟨gs, g0, g1, gz⟩ := Gq.all (Gv.below hG H.below)))
    obtain ⟨f0, f1, fb⟩ := H.fill (b := w.heap.size + 2) (x := .int .i64 0) (y := .int .i64 0) (by simp) (by simp) (by omega) (.int .i64 1) (.int .i64 0)
    refine bodyPost_ret (results_two rfl _ _ (w.heap.size + 2) (.int .i64 1) (.int .i64 0) _ rfl f0 f1 Tryd.underlying24 rfl (by kernel_rfl)) rfl ?_
    exact ⟨rfl, fb⟩
  · have hdx : decide (x = 0) = false := by simp [hx0]
    go_enter Tryd.func15, Tryd.ntmps15
    go_wp2_with fail
    rw [← hW]
    clear hW
    have c0 := H.get (b := w.heap.size) (o := 0) (v := .int .i64 x) (by simp)
    have c1 := H.get (b := w.heap.size) (o := 1) (v := .int .i64 y) (by simp)
    have c2 := H.get (b := w.heap.size + 1) (o := 0) (v := .int .i64 x2) (by simp)
    have c3 := H.get (b := w.heap.size + 1) (o := 1) (v := .int .i64 y2) (by simp)
    have c4 := H.get (b := w.heap.size + 2) (o := 0) (v := .int .i64 0) (by simp)
    have c5 := H.get (b := w.heap.size + 2) (o := 1) (v := .int .i64 0) (by simp)
    have z0 := H.fz (b := w.heap.size + 2) (o := 0) (v := .int .i64 0) (by simp)
    have z1 := H.fz (b := w.heap.size + 2) (o := 1) (v := .int .i64 0) (by simp)
    obtain ⟨gs, g0, g1, gz⟩ := Gq.all (Gv.below hG H.below)
    go_wp2_with (first | (go_at_call 58; refine (hop _).mono ?_; rintro e w' ⟨rfl, hb⟩; replace H := H.call hb; have c0 := H.get (b := w.heap.size) (o := 0) (v := .int .i64 x) (by simp); have c1 := H.get (b := w.heap.size) (o := 1) (v := .int .i64 y) (by simp); have c2 := H.get (b := w.heap.size + 1) (o := 0) (v := .int .i64 x2) (by simp); have c3 := H.get (b := w.heap.size + 1) (o := 1) (v := .int .i64 y2) (by simp); have c4 := H.get (b := w.heap.size + 2) (o := 0) (v := .int .i64 0) (by simp); have c5 := H.get (b := w.heap.size + 2) (o := 1) (v := .int .i64 0) (by simp); have z0 := H.fz (b := w.heap.size + 2) (o := 0) (v := .int .i64 0) (by simp); have z1 := H.fz (b := w.heap.size + 2) (o := 1) (v := .int .i64 0) (by simp); obtain ⟨gs, g0, g1, gz⟩ := Gq.all (Gv.below hG H.below)) | (go_at_call 17; refine (iRestOk_xy _ _ _).mono ?_; rintro e w' ⟨rfl, hb⟩; (first | rw [h] | rw [h2]); replace H := H.call hb; have c0 := H.get (b := w.heap.size) (o := 0) (v := .int .i64 x) (by simp); have c1 := H.get (b := w.heap.size) (o := 1) (v := .int .i64 y) (by simp); have c2 := H.get (b := w.heap.size + 1) (o := 0) (v := .int .i64 x2) (by simp); have c3 := H.get (b := w.heap.size + 1) (o := 1) (v := .int .i64 y2) (by simp); have c4 := H.get (b := w.heap.size + 2) (o := 0) (v := .int .i64 0) (by simp); have c5 := H.get (b := w.heap.size + 2) (o := 1) (v := .int .i64 0) (by simp); have z0 := H.fz (b := w.heap.size + 2) (o := 0) (v := .int .i64 0) (by simp); have z1 := H.fz (b := w.heap.size + 2) (o := 1) (v := .int .i64 0) (by simp); obtain ⟨gs, g0, g1, gz⟩ := Gq.all (Gv.below hG H.below)) | (go_at_call 59; refine (single_xy _ _ _).mono ?_; rintro e w' ⟨rfl, hb⟩; (first | rw [hdx] | rw [hdy] | simp only [decide_true]); replace H := H.call hb; have c0 := H.get (b := w.heap.size) (o := 0) (v := .int .i64 x) (by simp); have c1 := H.get (b := w.heap.size) (o := 1) (v := .int .i64 y) (by simp); have c2 := H.get (b := w.heap.size + 1) (o := 0) (v := .int .i64 x2) (by simp); have c3 := H.get (b := w.heap.size + 1) (o := 1) (v := .int .i64 y2) (by simp); have c4 := H.get (b := w.heap.size + 2) (o := 0) (v := .int .i64 0) (by simp); have c5 := H.get (b := w.heap.size + 2) (o := 1) (v := .int .i64 0) (by simp); have z0 := H.fz (b := w.heap.size + 2) (o := 0) (v := .int .i64 0) (by simp); have z1 := H.fz (b := w.heap.size + 2) (o := 1) (v := .int .i64 0) (by simp); obtain ⟨gs, g0, g1, gz⟩ := Gq.all (Gv.below hG H.below)) | (go_at_call 61; refine (hro _).mono ?_; rintro e w' ⟨rfl, hcc, hcl, hb⟩; replace H := H.call hb; have c0 := H.get (b := w.heap.size) (o := 0) (v := .int .i64 x) (by simp); have c1 := H.get (b := w.heap.size) (o := 1) (v := .int .i64 y) (by simp); have c2 := H.get (b := w.heap.size + 1) (o := 0) (v := .int .i64 x2) (by simp); have c3 := H.get (b := w.heap.size + 1) (o := 1) (v := .int .i64 y2) (by simp); have c4 := H.get (b := w.heap.size + 2) (o := 0) (v := .int .i64 0) (by simp); have c5 := H.get (b := w.heap.size + 2) (o := 1) (v := .int .i64 0) (by simp); have z0 := H.fz (b := w.heap.size + 2) (o := 0) (v := .int .i64 0) (by simp); have z1 := H.fz (b := w.heap.size + 2) (o := 1) (v := .int .i64 0) (by simp); obtain ⟨gs, g0, g1, gz⟩ := Gq.all (Gv.below hG H.below)))
    obtain ⟨f0, f1, fb⟩ := H.fill (b := w.heap.size + 2) (x := .int .i64 0) (y := .int .i64 0) (by simp) (by simp) (by omega) (.int .i64 1) (.int .i64 0)
    refine bodyPost_ret (results_two rfl _ _ (w.heap.size + 2) (.int .i64 1) (.int .i64 0) _ rfl f0 f1 Tryd.underlying24 rfl (by kernel_rfl)) rfl ?_
    exact ⟨rfl, fb⟩
set_option maxRecDepth 100000 in
set_option maxHeartbeats 4000000 in
theorem iDo_5 (x y x2 y2 : Int) (h : qOk (x, y) = true) (h2 : qOk (x2, y2) = true) (hab : ¬ (x = 0 ∧ x2 = 0)) (w : World) (hG : Gq w) :
    Calls Tryd.prog 15 #[.int .i64 5, .agg #[.int .i64 x, .int .i64 y], .agg #[.int .i64 x2, .int .i64 y2]] w fun e w' => e = .returned (.agg #[.int .i64 (do9 5 (x, y) (x2, y2)).1, .int .i64 (do9 5 (x, y) (x2, y2)).2]) ∧ Below w.heap.size w w' := by
  have hef := eql_func
  have hen := eql_nil
  have hrf := eqlR_func
  have hrn := eqlR_nil
  have e : do9 5 (x, y) (x2, y2) = make9 (gcd9 (gcd9 x x2) y2) y := by
    unfold do9
    rw [if_neg (by simp [h, h2]; decide), if_neg hab]
    simp [gcd9_assoc]
  rw [e]
  have hcall : ∀ w1 : World, Calls Tryd.prog 137 #[.agg #[.int .i64 x, .int .i64 y], .agg #[.int .i64 x2, .int .i64 y2]] w1 fun e w' => e = .returned (.agg #[.int .i64 (make9 (gcd9 (gcd9 x x2) y2) y).1, .int .i64 (make9 (gcd9 (gcd9 x x2) y2) y).2]) ∧ Below w1.heap.size w1 w' := fun w1 => remR_xy x y x2 y2 w1 h h2
  generalize make9 (gcd9 (gcd9 x x2) y2) y = q at *
  have ho : inB 5 1 13 = true := by decide
  have hop : ∀ w1 : World, Calls Tryd.prog 58 #[.int .i64 5] w1 fun e w' => e = .returned (.func (Fn.func (kOf 5)) #[] #[]) ∧ Below w1.heap.size w1 w' := fun w1 => oper_any 5 ho w1
  have hro : ∀ w1 : World, Calls Tryd.prog 61 #[.int .i64 5] w1 fun e w' => e = .returned (.func (Fn.func 137) #[] #[]) ∧ w'.cell? ⟨w1.heap.size, 0, none⟩ = some (.int .i64 0) ∧ w1.heap.size < w'.heap.size ∧ Below w1.heap.size w1 w' := fun w1 => restOper_5 w1
  generalize kOf 5 = K at *
  obtain ⟨W, hW, H⟩ := Hd.three w (.int .i64 x) (.int .i64 y) (.int .i64 x2) (.int .i64 y2) (.int .i64 0) (.int .i64 0) 24 24 24
  have hdy : decide (x2 = 0) = decide (x2 = 0) := rfl
  by_cases hx0 : x = 0
  · subst hx0
    have hdx : decide ((0 : Int) = 0) = true := by simp
    have hdy : decide (x2 = 0) = false := by simp; omega
    go_enter Tryd.func15, Tryd.ntmps15
    go_wp2_with fail
    rw [← hW]
    clear hW
    have c0 := H.get (b := w.heap.size) (o := 0) (v := .int .i64 0) (by simp)
    have c1 := H.get (b := w.heap.size) (o := 1) (v := .int .i64 y) (by simp)
    have c2 := H.get (b := w.heap.size + 1) (o := 0) (v := .int .i64 x2) (by simp)
    have c3 := H.get (b := w.heap.size + 1) (o := 1) (v := .int .i64 y2) (by simp)
    have c4 := H.get (b := w.heap.size + 2) (o := 0) (v := .int .i64 0) (by simp)
    have c5 := H.get (b := w.heap.size + 2) (o := 1) (v := .int .i64 0) (by simp)
    have z0 := H.fz (b := w.heap.size + 2) (o := 0) (v := .int .i64 0) (by simp)
    have z1 := H.fz (b := w.heap.size + 2) (o := 1) (v := .int .i64 0) (by simp)
    obtain ⟨gs, g0, g1, gz⟩ := Gq.all (Gv.below hG H.below)
    go_wp2_with (first | (go_at_call 58; refine (hop _).mono ?_; rintro e w' ⟨rfl, hb⟩; replace H := H.call hb; have c0 := H.get (b := w.heap.size) (o := 0) (v := .int .i64 0) (by simp); have c1 := H.get (b := w.heap.size) (o := 1) (v := .int .i64 y) (by simp); have c2 := H.get (b := w.heap.size + 1) (o := 0) (v := .int .i64 x2) (by simp); have c3 := H.get (b := w.heap.size + 1) (o := 1) (v := .int .i64 y2) (by simp); have c4 := H.get (b := w.heap.size + 2) (o := 0) (v := .int .i64 0) (by simp); have c5 := H.get (b := w.heap.size + 2) (o := 1) (v := .int .i64 0) (by simp); have z0 := H.fz (b := w.heap.size + 2) (o := 0) (v := .int .i64 0) (by simp); have z1 := H.fz (b := w.heap.size + 2) (o := 1) (v := .int .i64 0) (by simp); obtain ⟨gs, g0, g1, gz⟩ := Gq.all (Gv.below hG H.below)) | (go_at_call 17; refine (iRestOk_xy _ _ _).mono ?_; rintro e w' ⟨rfl, hb⟩; (first | rw [h] | rw [h2]); replace H := H.call hb; have c0 := H.get (b := w.heap.size) (o := 0) (v := .int .i64 0) (by simp); have c1 := H.get (b := w.heap.size) (o := 1) (v := .int .i64 y) (by simp); have c2 := H.get (b := w.heap.size + 1) (o := 0) (v := .int .i64 x2) (by simp); have c3 := H.get (b := w.heap.size + 1) (o := 1) (v := .int .i64 y2) (by simp); have c4 := H.get (b := w.heap.size + 2) (o := 0) (v := .int .i64 0) (by simp); have c5 := H.get (b := w.heap.size + 2) (o := 1) (v := .int .i64 0) (by simp); have z0 := H.fz (b := w.heap.size + 2) (o := 0) (v := .int .i64 0) (by simp); have z1 := H.fz (b := w.heap.size + 2) (o := 1) (v := .int .i64 0) (by simp); obtain ⟨gs, g0, g1, gz⟩ := Gq.all (Gv.below hG H.below)) | (go_at_call 59; refine (single_xy _ _ _).mono ?_; rintro e w' ⟨rfl, hb⟩; (first | rw [hdx] | rw [hdy] | simp only [decide_true]); replace H := H.call hb; have c0 := H.get (b := w.heap.size) (o := 0) (v := .int .i64 0) (by simp); have c1 := H.get (b := w.heap.size) (o := 1) (v := .int .i64 y) (by simp); have c2 := H.get (b := w.heap.size + 1) (o := 0) (v := .int .i64 x2) (by simp); have c3 := H.get (b := w.heap.size + 1) (o := 1) (v := .int .i64 y2) (by simp); have c4 := H.get (b := w.heap.size + 2) (o := 0) (v := .int .i64 0) (by simp); have c5 := H.get (b := w.heap.size + 2) (o := 1) (v := .int .i64 0) (by simp); have z0 := H.fz (b := w.heap.size + 2) (o := 0) (v := .int .i64 0) (by simp); have z1 := H.fz (b := w.heap.size + 2) (o := 1) (v := .int .i64 0) (by simp); obtain ⟨gs, g0, g1, gz⟩ := Gq.all (Gv.below hG H.below)) | (go_at_call 61; refine (hro _).mono ?_; rintro e w' ⟨rfl, hcc, hcl, hb⟩; replace H := H.call hb; have c0 := H.get (b := w.heap.size) (o := 0) (v := .int .i64 0) (by simp); have c1 := H.get (b := w.heap.size) (o := 1) (v := .int .i64 y) (by simp); have c2 := H.get (b := w.heap.size + 1) (o := 0) (v := .int .i64 x2) (by simp); have c3 := H.get (b := w.heap.size + 1) (o := 1) (v := .int .i64 y2) (by simp); have c4 := H.get (b := w.heap.size + 2) (o := 0) (v := .int .i64 0) (by simp); have c5 := H.get (b := w.heap.size + 2) (o := 1) (v := .int .i64 0) (by simp); have z0 := H.fz (b := w.heap.size + 2) (o := 0) (v := .int .i64 0) (by simp); have z1 := H.fz (b := w.heap.size + 2) (o := 1) (v := .int .i64 0) (by simp); obtain ⟨gs, g0, g1, gz⟩ := Gq.all (Gv.below hG H.below)) | (go_at_call 137; refine (hcall _).mono ?_; rintro e w' ⟨rfl, hb⟩; replace H := H.call hb; have c0 := H.get (b := w.heap.size) (o := 0) (v := .int .i64 0) (by simp); have c1 := H.get (b := w.heap.size) (o := 1) (v := .int .i64 y) (by simp); have c2 := H.get (b := w.heap.size + 1) (o := 0) (v := .int .i64 x2) (by simp); have c3 := H.get (b := w.heap.size + 1) (o := 1) (v := .int .i64 y2) (by simp); have c4 := H.get (b := w.heap.size + 2) (o := 0) (v := .int .i64 0) (by simp); have c5 := H.get (b := w.heap.size + 2) (o := 1) (v := .int .i64 0) (by simp); have z0 := H.fz (b := w.heap.size + 2) (o := 0) (v := .int .i64 0) (by simp); have z1 := H.fz (b := w.heap.size + 2) (o := 1) (v := .int .i64 0) (by simp)))
    obtain ⟨f0, f1, fb⟩ := H.fill (b := w.heap.size + 2) (x := .int .i64 0) (y := .int .i64 0) (by simp) (by simp) (by omega) (.int .i64 q.1) (.int .i64 q.2)
    refine bodyPost_ret (results_two rfl _ _ (w.heap.size + 2) (.int .i64 q.1) (.int .i64 q.2) _ rfl f0 f1 Tryd.underlying24 rfl (by kernel_rfl)) rfl ?_
    exact ⟨rfl, fb⟩
  · have hdx : decide (x = 0) = false := by simp [hx0]
    go_enter Tryd.func15, Tryd.ntmps15
    go_wp2_with fail
    rw [← hW]
    clear hW
    have c0 := H.get (b := w.heap.size) (o := 0) (v := .int .i64 x) (by simp)
    have c1 := H.get (b := w.heap.size) (o := 1) (v := .int .i64 y) (by simp)
    have c2 := H.get (b := w.heap.size + 1) (o := 0) (v := .int .i64 x2) (by simp)
    have c3 := H.get (b := w.heap.size + 1) (o := 1) (v := .int .i64 y2) (by simp)
    have c4 := H.get (b := w.heap.size + 2) (o := 0) (v := .int .i64 0) (by simp)
    have c5 := H.get (b := w.heap.size + 2) (o := 1) (v := .int .i64 0) (by simp)
    have z0 := H.fz (b := w.heap.size + 2) (o := 0) (v := .int .i64 0) (by simp)
    have z1 := H.fz (b := w.heap.size + 2) (o := 1) (v := .int .i64 0) (by simp)
    obtain ⟨gs, g0, g1, gz⟩ := Gq.all (Gv.below hG H.below)
    go_wp2_with (first | (go_at_call 58; refine (hop _).mono ?_; rintro e w' ⟨rfl, hb⟩; replace H := H.call hb; have c0 := H.get (b := w.heap.size) (o := 0) (v := .int .i64 x) (by simp); have c1 := H.get (b := w.heap.size) (o := 1) (v := .int .i64 y) (by simp); have c2 := H.get (b := w.heap.size + 1) (o := 0) (v := .int .i64 x2) (by simp); have c3 := H.get (b := w.heap.size + 1) (o := 1) (v := .int .i64 y2) (by simp); have c4 := H.get (b := w.heap.size + 2) (o := 0) (v := .int .i64 0) (by simp); have c5 := H.get (b := w.heap.size + 2) (o := 1) (v := .int .i64 0) (by simp); have z0 := H.fz (b := w.heap.size + 2) (o := 0) (v := .int .i64 0) (by simp); have z1 := H.fz (b := w.heap.size + 2) (o := 1) (v := .int .i64 0) (by simp); obtain ⟨gs, g0, g1, gz⟩ := Gq.all (Gv.below hG H.below)) | (go_at_call 17; refine (iRestOk_xy _ _ _).mono ?_; rintro e w' ⟨rfl, hb⟩; (first | rw [h] | rw [h2]); replace H := H.call hb; have c0 := H.get (b := w.heap.size) (o := 0) (v := .int .i64 x) (by simp); have c1 := H.get (b := w.heap.size) (o := 1) (v := .int .i64 y) (by simp); have c2 := H.get (b := w.heap.size + 1) (o := 0) (v := .int .i64 x2) (by simp); have c3 := H.get (b := w.heap.size + 1) (o := 1) (v := .int .i64 y2) (by simp); have c4 := H.get (b := w.heap.size + 2) (o := 0) (v := .int .i64 0) (by simp); have c5 := H.get (b := w.heap.size + 2) (o := 1) (v := .int .i64 0) (by simp); have z0 := H.fz (b := w.heap.size + 2) (o := 0) (v := .int .i64 0) (by simp); have z1 := H.fz (b := w.heap.size + 2) (o := 1) (v := .int .i64 0) (by simp); obtain ⟨gs, g0, g1, gz⟩ := Gq.all (Gv.below hG H.below)) | (go_at_call 59; refine (single_xy _ _ _).mono ?_; rintro e w' ⟨rfl, hb⟩; (first | rw [hdx] | rw [hdy] | simp only [decide_true]); replace H := H.call hb; have c0 := H.get (b := w.heap.size) (o := 0) (v := .int .i64 x) (by simp); have c1 := H.get (b := w.heap.size) (o := 1) (v := .int .i64 y) (by simp); have c2 := H.get (b := w.heap.size + 1) (o := 0) (v := .int .i64 x2) (by simp); have c3 := H.get (b := w.heap.size + 1) (o := 1) (v := .int .i64 y2) (by simp); have c4 := H.get (b := w.heap.size + 2) (o := 0) (v := .int .i64 0) (by simp); have c5 := H.get (b := w.heap.size + 2) (o := 1) (v := .int .i64 0) (by simp); have z0 := H.fz (b := w.heap.size + 2) (o := 0) (v := .int .i64 0) (by simp); have z1 := H.fz (b := w.heap.size + 2) (o := 1) (v := .int .i64 0) (by simp); obtain ⟨gs, g0, g1, gz⟩ := Gq.all (Gv.below hG H.below)) | (go_at_call 61; refine (hro _).mono ?_; rintro e w' ⟨rfl, hcc, hcl, hb⟩; replace H := H.call hb; have c0 := H.get (b := w.heap.size) (o := 0) (v := .int .i64 x) (by simp); have c1 := H.get (b := w.heap.size) (o := 1) (v := .int .i64 y) (by simp); have c2 := H.get (b := w.heap.size + 1) (o := 0) (v := .int .i64 x2) (by simp); have c3 := H.get (b := w.heap.size + 1) (o := 1) (v := .int .i64 y2) (by simp); have c4 := H.get (b := w.heap.size + 2) (o := 0) (v := .int .i64 0) (by simp); have c5 := H.get (b := w.heap.size + 2) (o := 1) (v := .int .i64 0) (by simp); have z0 := H.fz (b := w.heap.size + 2) (o := 0) (v := .int .i64 0) (by simp); have z1 := H.fz (b := w.heap.size + 2) (o := 1) (v := .int .i64 0) (by simp); obtain ⟨gs, g0, g1, gz⟩ := Gq.all (Gv.below hG H.below)) | (go_at_call 137; refine (hcall _).mono ?_; rintro e w' ⟨rfl, hb⟩; replace H := H.call hb; have c0 := H.get (b := w.heap.size) (o := 0) (v := .int .i64 x) (by simp); have c1 := H.get (b := w.heap.size) (o := 1) (v := .int .i64 y) (by simp); have c2 := H.get (b := w.heap.size + 1) (o := 0) (v := .int .i64 x2) (by simp); have c3 := H.get (b := w.heap.size + 1) (o := 1) (v := .int .i64 y2) (by simp); have c4 := H.get (b := w.heap.size + 2) (o := 0) (v := .int .i64 0) (by simp); have c5 := H.get (b := w.heap.size + 2) (o := 1) (v := .int .i64 0) (by simp); have z0 := H.fz (b := w.heap.size + 2) (o := 0) (v := .int .i64 0) (by simp); have z1 := H.fz (b := w.heap.size + 2) (o := 1) (v := .int .i64 0) (by simp)))
    obtain ⟨f0, f1, fb⟩ := H.fill (b := w.heap.size + 2) (x := .int .i64 0) (y := .int .i64 0) (by simp) (by simp) (by omega) (.int .i64 q.1) (.int .i64 q.2)
    refine bodyPost_ret (results_two rfl _ _ (w.heap.size + 2) (.int .i64 q.1) (.int .i64 q.2) _ rfl f0 f1 Tryd.underlying24 rfl (by kernel_rfl)) rfl ?_
    exact ⟨rfl, fb⟩
end Go.Proofs.YtjpiihjgbllieaaDoor.num
