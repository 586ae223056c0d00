/-
  The model's RestDo: operators that leave all, and rests by rests.
-/
import Derived.Test.YtjpiihjgbllieaaDoorVg
namespace Go.Proofs.YtjpiihjgbllieaaDoor.num
open Go.ChangeShapes Go.WideShapes Go.ChangeAt Go.RowKit
set_option linter.unusedVariables false

set_option maxRecDepth 100000 in
set_option maxHeartbeats 4000000 in
theorem sDo_4 (x y x2 y2 : Int) (h : qOk (x, y) = true) (h2 : qOk (x2, y2) = true) (hab : ¬ (x = 0 ∧ x2 = 0)) (w : World) :
    Calls Tryd.prog 16 #[.int .i64 4, .agg #[.int .i64 x, .int .i64 y], .agg #[.int .i64 x2, .int .i64 y2]] w fun e w' => e = .returned (.agg #[.int .i64 (do9 4 (x, y) (x2, y2)).1, .int .i64 (do9 4 (x, y) (x2, y2)).2]) ∧ Below w.heap.size w w' := by
  have e : do9 4 (x, y) (x2, y2) = (1, 0) := by
    unfold do9
    rw [if_neg (by simp [h, h2]; decide), if_neg hab]
    simp [all9]
  rw [e]
  have ho : inB 4 1 13 = true := by decide
  have hx := (qOk_iff _).1 h
  have hx2 := (qOk_iff _).1 h2
  simp only at hx hx2
  have hw : word9 4 = 0 := by decide
  obtain ⟨W, hW, H⟩ := Hd.three w (.int .i64 x) (.int .i64 y) (.int .i64 x2) (.int .i64 y2) (.int .i64 0) (.int .i64 0) 24 24 24
  by_cases hx0 : x = 0
  · subst hx0
    have hx20 : (x2 == 0) = false := by simp; omega
    go_enter Tryd.func16, Tryd.ntmps16
    go_wp2_with fail
    rw [← hW]
    clear hW
    have c0 := H.get (b := w.heap.size) (o := 0) (v := .int .i64 0) (by simp)
    have c1 := H.get (b := w.heap.size) (o := 1) (v := .int .i64 y) (by simp)
    have c2 := H.get (b := w.heap.size + 1) (o := 0) (v := .int .i64 x2) (by simp)
    have c3 := H.get (b := w.heap.size + 1) (o := 1) (v := .int .i64 y2) (by simp)
    have c4 := H.get (b := w.heap.size + 2) (o := 0) (v := .int .i64 0) (by simp)
    have c5 := H.get (b := w.heap.size + 2) (o := 1) (v := .int .i64 0) (by simp)
    have z0 := H.fz (b := w.heap.size + 2) (o := 0) (v := .int .i64 0) (by simp)
    have z1 := H.fz (b := w.heap.size + 2) (o := 1) (v := .int .i64 0) (by simp)
    go_wp2_with (first | (go_at_call 62; refine (l1In_any _ _ _ _).mono ?_; rintro e w' ⟨rfl, rfl⟩; (first | rw [ho] | rw [hs0] | skip)) | (go_at_call 18; refine (sRestOk_xy _ _ _).mono ?_; rintro e w' ⟨rfl, hb⟩; (first | rw [h] | rw [h2]); replace H := H.call hb; have c0 := H.get (b := w.heap.size) (o := 0) (v := .int .i64 0) (by simp); have c1 := H.get (b := w.heap.size) (o := 1) (v := .int .i64 y) (by simp); have c2 := H.get (b := w.heap.size + 1) (o := 0) (v := .int .i64 x2) (by simp); have c3 := H.get (b := w.heap.size + 1) (o := 1) (v := .int .i64 y2) (by simp); have c4 := H.get (b := w.heap.size + 2) (o := 0) (v := .int .i64 0) (by simp); have c5 := H.get (b := w.heap.size + 2) (o := 1) (v := .int .i64 0) (by simp); have z0 := H.fz (b := w.heap.size + 2) (o := 0) (v := .int .i64 0) (by simp); have z1 := H.fz (b := w.heap.size + 2) (o := 1) (v := .int .i64 0) (by simp)) | (go_at_call 63; refine (l9All_any _).mono ?_; rintro e w' ⟨rfl, hb⟩; replace H := H.call hb; have c0 := H.get (b := w.heap.size) (o := 0) (v := .int .i64 0) (by simp); have c1 := H.get (b := w.heap.size) (o := 1) (v := .int .i64 y) (by simp); have c2 := H.get (b := w.heap.size + 1) (o := 0) (v := .int .i64 x2) (by simp); have c3 := H.get (b := w.heap.size + 1) (o := 1) (v := .int .i64 y2) (by simp); have c4 := H.get (b := w.heap.size + 2) (o := 0) (v := .int .i64 0) (by simp); have c5 := H.get (b := w.heap.size + 2) (o := 1) (v := .int .i64 0) (by simp); have z0 := H.fz (b := w.heap.size + 2) (o := 0) (v := .int .i64 0) (by simp); have z1 := H.fz (b := w.heap.size + 2) (o := 1) (v := .int .i64 0) (by simp)) | (go_at_call 64; refine (l9Wraps_any _ _).mono ?_; rintro e w' ⟨rfl, rfl⟩; rw [hw]))
    obtain ⟨f0, f1, fb⟩ := H.fill (b := w.heap.size + 2) (x := .int .i64 0) (y := .int .i64 0) (by simp) (by simp) (by omega) (.int .i64 1) (.int .i64 0)
    refine bodyPost_ret (results_two rfl _ _ (w.heap.size + 2) (.int .i64 1) (.int .i64 0) _ rfl f0 f1 Tryd.underlying24 rfl (by kernel_rfl)) rfl ?_
    exact ⟨rfl, fb⟩
  · have hx0' : (x == 0) = false := by simp [hx0]
    go_enter Tryd.func16, Tryd.ntmps16
    go_wp2_with fail
    rw [← hW]
    clear hW
    have c0 := H.get (b := w.heap.size) (o := 0) (v := .int .i64 x) (by simp)
    have c1 := H.get (b := w.heap.size) (o := 1) (v := .int .i64 y) (by simp)
    have c2 := H.get (b := w.heap.size + 1) (o := 0) (v := .int .i64 x2) (by simp)
    have c3 := H.get (b := w.heap.size + 1) (o := 1) (v := .int .i64 y2) (by simp)
    have c4 := H.get (b := w.heap.size + 2) (o := 0) (v := .int .i64 0) (by simp)
    have c5 := H.get (b := w.heap.size + 2) (o := 1) (v := .int .i64 0) (by simp)
    have z0 := H.fz (b := w.heap.size + 2) (o := 0) (v := .int .i64 0) (by simp)
    have z1 := H.fz (b := w.heap.size + 2) (o := 1) (v := .int .i64 0) (by simp)
    go_wp2_with (first | (go_at_call 62; refine (l1In_any _ _ _ _).mono ?_; rintro e w' ⟨rfl, rfl⟩; (first | rw [ho] | rw [hs0] | skip)) | (go_at_call 18; refine (sRestOk_xy _ _ _).mono ?_; rintro e w' ⟨rfl, hb⟩; (first | rw [h] | rw [h2]); replace H := H.call hb; have c0 := H.get (b := w.heap.size) (o := 0) (v := .int .i64 x) (by simp); have c1 := H.get (b := w.heap.size) (o := 1) (v := .int .i64 y) (by simp); have c2 := H.get (b := w.heap.size + 1) (o := 0) (v := .int .i64 x2) (by simp); have c3 := H.get (b := w.heap.size + 1) (o := 1) (v := .int .i64 y2) (by simp); have c4 := H.get (b := w.heap.size + 2) (o := 0) (v := .int .i64 0) (by simp); have c5 := H.get (b := w.heap.size + 2) (o := 1) (v := .int .i64 0) (by simp); have z0 := H.fz (b := w.heap.size + 2) (o := 0) (v := .int .i64 0) (by simp); have z1 := H.fz (b := w.heap.size + 2) (o := 1) (v := .int .i64 0) (by simp)) | (go_at_call 63; refine (l9All_any _).mono ?_; rintro e w' ⟨rfl, hb⟩; replace H := H.call hb; have c0 := H.get (b := w.heap.size) (o := 0) (v := .int .i64 x) (by simp); have c1 := H.get (b := w.heap.size) (o := 1) (v := .int .i64 y) (by simp); have c2 := H.get (b := w.heap.size + 1) (o := 0) (v := .int .i64 x2) (by simp); have c3 := H.get (b := w.heap.size + 1) (o := 1) (v := .int .i64 y2) (by simp); have c4 := H.get (b := w.heap.size + 2) (o := 0) (v := .int .i64 0) (by simp); have c5 := H.get (b := w.heap.size + 2) (o := 1) (v := .int .i64 0) (by simp); have z0 := H.fz (b := w.heap.size + 2) (o := 0) (v := .int .i64 0) (by simp); have z1 := H.fz (b := w.heap.size + 2) (o := 1) (v := .int .i64 0) (by simp)) | (go_at_call 64; refine (l9Wraps_any _ _).mono ?_; rintro e w' ⟨rfl, rfl⟩; rw [hw]))
    obtain ⟨f0, f1, fb⟩ := H.fill (b := w.heap.size + 2) (x := .int .i64 0) (y := .int .i64 0) (by simp) (by simp) (by omega) (.int .i64 1) (.int .i64 0)
    refine bodyPost_ret (results_two rfl _ _ (w.heap.size + 2) (.int .i64 1) (.int .i64 0) _ rfl f0 f1 Tryd.underlying24 rfl (by kernel_rfl)) rfl ?_
    exact ⟨rfl, fb⟩
set_option maxRecDepth 100000 in
set_option maxHeartbeats 4000000 in
theorem sDo_6 (x y x2 y2 : Int) (h : qOk (x, y) = true) (h2 : qOk (x2, y2) = true) (hab : ¬ (x = 0 ∧ x2 = 0)) (w : World) :
    Calls Tryd.prog 16 #[.int .i64 6, .agg #[.int .i64 x, .int .i64 y], .agg #[.int .i64 x2, .int .i64 y2]] w fun e w' => e = .returned (.agg #[.int .i64 (do9 6 (x, y) (x2, y2)).1, .int .i64 (do9 6 (x, y) (x2, y2)).2]) ∧ Below w.heap.size w w' := by
  have e : do9 6 (x, y) (x2, y2) = (1, 0) := by
    unfold do9
    rw [if_neg (by simp [h, h2]; decide), if_neg hab]
    simp [all9]
  rw [e]
  have ho : inB 6 1 13 = true := by decide
  have hx := (qOk_iff _).1 h
  have hx2 := (qOk_iff _).1 h2
  simp only at hx hx2
  have hw : word9 6 = 0 := by decide
  obtain ⟨W, hW, H⟩ := Hd.three w (.int .i64 x) (.int .i64 y) (.int .i64 x2) (.int .i64 y2) (.int .i64 0) (.int .i64 0) 24 24 24
  by_cases hx0 : x = 0
  · subst hx0
    have hx20 : (x2 == 0) = false := by simp; omega
    go_enter Tryd.func16, Tryd.ntmps16
    go_wp2_with fail
    rw [← hW]
    clear hW
    have c0 := H.get (b := w.heap.size) (o := 0) (v := .int .i64 0) (by simp)
    have c1 := H.get (b := w.heap.size) (o := 1) (v := .int .i64 y) (by simp)
    have c2 := H.get (b := w.heap.size + 1) (o := 0) (v := .int .i64 x2) (by simp)
    have c3 := H.get (b := w.heap.size + 1) (o := 1) (v := .int .i64 y2) (by simp)
    have c4 := H.get (b := w.heap.size + 2) (o := 0) (v := .int .i64 0) (by simp)
    have c5 := H.get (b := w.heap.size + 2) (o := 1) (v := .int .i64 0) (by simp)
    have z0 := H.fz (b := w.heap.size + 2) (o := 0) (v := .int .i64 0) (by simp)
    have z1 := H.fz (b := w.heap.size + 2) (o := 1) (v := .int .i64 0) (by simp)
    go_wp2_with (first | (go_at_call 62; refine (l1In_any _ _ _ _).mono ?_; rintro e w' ⟨rfl, rfl⟩; (first | rw [ho] | rw [hs0] | skip)) | (go_at_call 18; refine (sRestOk_xy _ _ _).mono ?_; rintro e w' ⟨rfl, hb⟩; (first | rw [h] | rw [h2]); replace H := H.call hb; have c0 := H.get (b := w.heap.size) (o := 0) (v := .int .i64 0) (by simp); have c1 := H.get (b := w.heap.size) (o := 1) (v := .int .i64 y) (by simp); have c2 := H.get (b := w.heap.size + 1) (o := 0) (v := .int .i64 x2) (by simp); have c3 := H.get (b := w.heap.size + 1) (o := 1) (v := .int .i64 y2) (by simp); have c4 := H.get (b := w.heap.size + 2) (o := 0) (v := .int .i64 0) (by simp); have c5 := H.get (b := w.heap.size + 2) (o := 1) (v := .int .i64 0) (by simp); have z0 := H.fz (b := w.heap.size + 2) (o := 0) (v := .int .i64 0) (by simp); have z1 := H.fz (b := w.heap.size + 2) (o := 1) (v := .int .i64 0) (by simp)) | (go_at_call 63; refine (l9All_any _).mono ?_; rintro e w' ⟨rfl, hb⟩; replace H := H.call hb; have c0 := H.get (b := w.heap.size) (o := 0) (v := .int .i64 0) (by simp); have c1 := H.get (b := w.heap.size) (o := 1) (v := .int .i64 y) (by simp); have c2 := H.get (b := w.heap.size + 1) (o := 0) (v := .int .i64 x2) (by simp); have c3 := H.get (b := w.heap.size + 1) (o := 1) (v := .int .i64 y2) (by simp); have c4 := H.get (b := w.heap.size + 2) (o := 0) (v := .int .i64 0) (by simp); have c5 := H.get (b := w.heap.size + 2) (o := 1) (v := .int .i64 0) (by simp); have z0 := H.fz (b := w.heap.size + 2) (o := 0) (v := .int .i64 0) (by simp); have z1 := H.fz (b := w.heap.size + 2) (o := 1) (v := .int .i64 0) (by simp)) | (go_at_call 64; refine (l9Wraps_any _ _).mono ?_; rintro e w' ⟨rfl, rfl⟩; rw [hw]))
    obtain ⟨f0, f1, fb⟩ := H.fill (b := w.heap.size + 2) (x := .int .i64 0) (y := .int .i64 0) (by simp) (by simp) (by omega) (.int .i64 1) (.int .i64 0)
    refine bodyPost_ret (results_two rfl _ _ (w.heap.size + 2) (.int .i64 1) (.int .i64 0) _ rfl f0 f1 Tryd.underlying24 rfl (by kernel_rfl)) rfl ?_
    exact ⟨rfl, fb⟩
  · have hx0' : (x == 0) = false := by simp [hx0]
    go_enter Tryd.func16, Tryd.ntmps16
    go_wp2_with fail
    rw [← hW]
    clear hW
    have c0 := H.get (b := w.heap.size) (o := 0) (v := .int .i64 x) (by simp)
    have c1 := H.get (b := w.heap.size) (o := 1) (v := .int .i64 y) (by simp)
    have c2 := H.get (b := w.heap.size + 1) (o := 0) (v := .int .i64 x2) (by simp)
    have c3 := H.get (b := w.heap.size + 1) (o := 1) (v := .int .i64 y2) (by simp)
    have c4 := H.get (b := w.heap.size + 2) (o := 0) (v := .int .i64 0) (by simp)
    have c5 := H.get (b := w.heap.size + 2) (o := 1) (v := .int .i64 0) (by simp)
    have z0 := H.fz (b := w.heap.size + 2) (o := 0) (v := .int .i64 0) (by simp)
    have z1 := H.fz (b := w.heap.size + 2) (o := 1) (v := .int .i64 0) (by simp)
    go_wp2_with (first | (go_at_call 62; refine (l1In_any _ _ _ _).mono ?_; rintro e w' ⟨rfl, rfl⟩; (first | rw [ho] | rw [hs0] | skip)) | (go_at_call 18; refine (sRestOk_xy _ _ _).mono ?_; rintro e w' ⟨rfl, hb⟩; (first | rw [h] | rw [h2]); replace H := H.call hb; have c0 := H.get (b := w.heap.size) (o := 0) (v := .int .i64 x) (by simp); have c1 := H.get (b := w.heap.size) (o := 1) (v := .int .i64 y) (by simp); have c2 := H.get (b := w.heap.size + 1) (o := 0) (v := .int .i64 x2) (by simp); have c3 := H.get (b := w.heap.size + 1) (o := 1) (v := .int .i64 y2) (by simp); have c4 := H.get (b := w.heap.size + 2) (o := 0) (v := .int .i64 0) (by simp); have c5 := H.get (b := w.heap.size + 2) (o := 1) (v := .int .i64 0) (by simp); have z0 := H.fz (b := w.heap.size + 2) (o := 0) (v := .int .i64 0) (by simp); have z1 := H.fz (b := w.heap.size + 2) (o := 1) (v := .int .i64 0) (by simp)) | (go_at_call 63; refine (l9All_any _).mono ?_; rintro e w' ⟨rfl, hb⟩; replace H := H.call hb; have c0 := H.get (b := w.heap.size) (o := 0) (v := .int .i64 x) (by simp); have c1 := H.get (b := w.heap.size) (o := 1) (v := .int .i64 y) (by simp); have c2 := H.get (b := w.heap.size + 1) (o := 0) (v := .int .i64 x2) (by simp); have c3 := H.get (b := w.heap.size + 1) (o := 1) (v := .int .i64 y2) (by simp); have c4 := H.get (b := w.heap.size + 2) (o := 0) (v := .int .i64 0) (by simp); have c5 := H.get (b := w.heap.size + 2) (o := 1) (v := .int .i64 0) (by simp); have z0 := H.fz (b := w.heap.size + 2) (o := 0) (v := .int .i64 0) (by simp); have z1 := H.fz (b := w.heap.size + 2) (o := 1) (v := .int .i64 0) (by simp)) | (go_at_call 64; refine (l9Wraps_any _ _).mono ?_; rintro e w' ⟨rfl, rfl⟩; rw [hw]))
    obtain ⟨f0, f1, fb⟩ := H.fill (b := w.heap.size + 2) (x := .int .i64 0) (y := .int .i64 0) (by simp) (by simp) (by omega) (.int .i64 1) (.int .i64 0)
    refine bodyPost_ret (results_two rfl _ _ (w.heap.size + 2) (.int .i64 1) (.int .i64 0) _ rfl f0 f1 Tryd.underlying24 rfl (by kernel_rfl)) rfl ?_
    exact ⟨rfl, fb⟩
set_option maxRecDepth 100000 in
set_option maxHeartbeats 4000000 in
theorem sDo_7 (x y x2 y2 : Int) (h : qOk (x, y) = true) (h2 : qOk (x2, y2) = true) (hab : ¬ (x = 0 ∧ x2 = 0)) (w : World) :
    Calls Tryd.prog 16 #[.int .i64 7, .agg #[.int .i64 x, .int .i64 y], .agg #[.int .i64 x2, .int .i64 y2]] w fun e w' => e = .returned (.agg #[.int .i64 (do9 7 (x, y) (x2, y2)).1, .int .i64 (do9 7 (x, y) (x2, y2)).2]) ∧ Below w.heap.size w w' := by
  have e : do9 7 (x, y) (x2, y2) = (1, 0) := by
    unfold do9
    rw [if_neg (by simp [h, h2]; decide), if_neg hab]
    simp [all9]
  rw [e]
  have ho : inB 7 1 13 = true := by decide
  have hx := (qOk_iff _).1 h
  have hx2 := (qOk_iff _).1 h2
  simp only at hx hx2
  have hw : word9 7 = 0 := by decide
  obtain ⟨W, hW, H⟩ := Hd.three w (.int .i64 x) (.int .i64 y) (.int .i64 x2) (.int .i64 y2) (.int .i64 0) (.int .i64 0) 24 24 24
  by_cases hx0 : x = 0
  · subst hx0
    have hx20 : (x2 == 0) = false := by simp; omega
    go_enter Tryd.func16, Tryd.ntmps16
    go_wp2_with fail
    rw [← hW]
    clear hW
    have c0 := H.get (b := w.heap.size) (o := 0) (v := .int .i64 0) (by simp)
    have c1 := H.get (b := w.heap.size) (o := 1) (v := .int .i64 y) (by simp)
    have c2 := H.get (b := w.heap.size + 1) (o := 0) (v := .int .i64 x2) (by simp)
    have c3 := H.get (b := w.heap.size + 1) (o := 1) (v := .int .i64 y2) (by simp)
    have c4 := H.get (b := w.heap.size + 2) (o := 0) (v := .int .i64 0) (by simp)
    have c5 := H.get (b := w.heap.size + 2) (o := 1) (v := .int .i64 0) (by simp)
    have z0 := H.fz (b := w.heap.size + 2) (o := 0) (v := .int .i64 0) (by simp)
    have z1 := H.fz (b := w.heap.size + 2) (o := 1) (v := .int .i64 0) (by simp)
    go_wp2_with (first | (go_at_call 62; refine (l1In_any _ _ _ _).mono ?_; rintro e w' ⟨rfl, rfl⟩; (first | rw [ho] | rw [hs0] | skip)) | (go_at_call 18; refine (sRestOk_xy _ _ _).mono ?_; rintro e w' ⟨rfl, hb⟩; (first | rw [h] | rw [h2]); replace H := H.call hb; have c0 := H.get (b := w.heap.size) (o := 0) (v := .int .i64 0) (by simp); have c1 := H.get (b := w.heap.size) (o := 1) (v := .int .i64 y) (by simp); have c2 := H.get (b := w.heap.size + 1) (o := 0) (v := .int .i64 x2) (by simp); have c3 := H.get (b := w.heap.size + 1) (o := 1) (v := .int .i64 y2) (by simp); have c4 := H.get (b := w.heap.size + 2) (o := 0) (v := .int .i64 0) (by simp); have c5 := H.get (b := w.heap.size + 2) (o := 1) (v := .int .i64 0) (by simp); have z0 := H.fz (b := w.heap.size + 2) (o := 0) (v := .int .i64 0) (by simp); have z1 := H.fz (b := w.heap.size + 2) (o := 1) (v := .int .i64 0) (by simp)) | (go_at_call 63; refine (l9All_any _).mono ?_; rintro e w' ⟨rfl, hb⟩; replace H := H.call hb; have c0 := H.get (b := w.heap.size) (o := 0) (v := .int .i64 0) (by simp); have c1 := H.get (b := w.heap.size) (o := 1) (v := .int .i64 y) (by simp); have c2 := H.get (b := w.heap.size + 1) (o := 0) (v := .int .i64 x2) (by simp); have c3 := H.get (b := w.heap.size + 1) (o := 1) (v := .int .i64 y2) (by simp); have c4 := H.get (b := w.heap.size + 2) (o := 0) (v := .int .i64 0) (by simp); have c5 := H.get (b := w.heap.size + 2) (o := 1) (v := .int .i64 0) (by simp); have z0 := H.fz (b := w.heap.size + 2) (o := 0) (v := .int .i64 0) (by simp); have z1 := H.fz (b := w.heap.size + 2) (o := 1) (v := .int .i64 0) (by simp)) | (go_at_call 64; refine (l9Wraps_any _ _).mono ?_; rintro e w' ⟨rfl, rfl⟩; rw [hw]))
    obtain ⟨f0, f1, fb⟩ := H.fill (b := w.heap.size + 2) (x := .int .i64 0) (y := .int .i64 0) (by simp) (by simp) (by omega) (.int .i64 1) (.int .i64 0)
    refine bodyPost_ret (results_two rfl _ _ (w.heap.size + 2) (.int .i64 1) (.int .i64 0) _ rfl f0 f1 Tryd.underlying24 rfl (by kernel_rfl)) rfl ?_
    exact ⟨rfl, fb⟩
  · have hx0' : (x == 0) = false := by simp [hx0]
    go_enter Tryd.func16, Tryd.ntmps16
    go_wp2_with fail
    rw [← hW]
    clear hW
    have c0 := H.get (b := w.heap.size) (o := 0) (v := .int .i64 x) (by simp)
    have c1 := H.get (b := w.heap.size) (o := 1) (v := .int .i64 y) (by simp)
    have c2 := H.get (b := w.heap.size + 1) (o := 0) (v := .int .i64 x2) (by simp)
    have c3 := H.get (b := w.heap.size + 1) (o := 1) (v := .int .i64 y2) (by simp)
    have c4 := H.get (b := w.heap.size + 2) (o := 0) (v := .int .i64 0) (by simp)
    have c5 := H.get (b := w.heap.size + 2) (o := 1) (v := .int .i64 0) (by simp)
    have z0 := H.fz (b := w.heap.size + 2) (o := 0) (v := .int .i64 0) (by simp)
    have z1 := H.fz (b := w.heap.size + 2) (o := 1) (v := .int .i64 0) (by simp)
    go_wp2_with (first | (go_at_call 62; refine (l1In_any _ _ _ _).mono ?_; rintro e w' ⟨rfl, rfl⟩; (first | rw [ho] | rw [hs0] | skip)) | (go_at_call 18; refine (sRestOk_xy _ _ _).mono ?_; rintro e w' ⟨rfl, hb⟩; (first | rw [h] | rw [h2]); replace H := H.call hb; have c0 := H.get (b := w.heap.size) (o := 0) (v := .int .i64 x) (by simp); have c1 := H.get (b := w.heap.size) (o := 1) (v := .int .i64 y) (by simp); have c2 := H.get (b := w.heap.size + 1) (o := 0) (v := .int .i64 x2) (by simp); have c3 := H.get (b := w.heap.size + 1) (o := 1) (v := .int .i64 y2) (by simp); have c4 := H.get (b := w.heap.size + 2) (o := 0) (v := .int .i64 0) (by simp); have c5 := H.get (b := w.heap.size + 2) (o := 1) (v := .int .i64 0) (by simp); have z0 := H.fz (b := w.heap.size + 2) (o := 0) (v := .int .i64 0) (by simp); have z1 := H.fz (b := w.heap.size + 2) (o := 1) (v := .int .i64 0) (by simp)) | (go_at_call 63; refine (l9All_any _).mono ?_; rintro e w' ⟨rfl, hb⟩; replace H := H.call hb; have c0 := H.get (b := w.heap.size) (o := 0) (v := .int .i64 x) (by simp); have c1 := H.get (b := w.heap.size) (o := 1) (v := .int .i64 y) (by simp); have c2 := H.get (b := w.heap.size + 1) (o := 0) (v := .int .i64 x2) (by simp); have c3 := H.get (b := w.heap.size + 1) (o := 1) (v := .int .i64 y2) (by simp); have c4 := H.get (b := w.heap.size + 2) (o := 0) (v := .int .i64 0) (by simp); have c5 := H.get (b := w.heap.size + 2) (o := 1) (v := .int .i64 0) (by simp); have z0 := H.fz (b := w.heap.size + 2) (o := 0) (v := .int .i64 0) (by simp); have z1 := H.fz (b := w.heap.size + 2) (o := 1) (v := .int .i64 0) (by simp)) | (go_at_call 64; refine (l9Wraps_any _ _).mono ?_; rintro e w' ⟨rfl, rfl⟩; rw [hw]))
    obtain ⟨f0, f1, fb⟩ := H.fill (b := w.heap.size + 2) (x := .int .i64 0) (y := .int .i64 0) (by simp) (by simp) (by omega) (.int .i64 1) (.int .i64 0)
    refine bodyPost_ret (results_two rfl _ _ (w.heap.size + 2) (.int .i64 1) (.int .i64 0) _ rfl f0 f1 Tryd.underlying24 rfl (by kernel_rfl)) rfl ?_
    exact ⟨rfl, fb⟩
set_option maxRecDepth 100000 in
set_option maxHeartbeats 4000000 in
theorem sDo_8 (x y x2 y2 : Int) (h : qOk (x, y) = true) (h2 : qOk (x2, y2) = true) (hab : ¬ (x = 0 ∧ x2 = 0)) (w : World) :
    Calls Tryd.prog 16 #[.int .i64 8, .agg #[.int .i64 x, .int .i64 y], .agg #[.int .i64 x2, .int .i64 y2]] w fun e w' => e = .returned (.agg #[.int .i64 (do9 8 (x, y) (x2, y2)).1, .int .i64 (do9 8 (x, y) (x2, y2)).2]) ∧ Below w.heap.size w w' := by
  have e : do9 8 (x, y) (x2, y2) = (1, 0) := by
    unfold do9
    rw [if_neg (by simp [h, h2]; decide), if_neg hab]
    simp [all9]
  rw [e]
  have ho : inB 8 1 13 = true := by decide
  have hx := (qOk_iff _).1 h
  have hx2 := (qOk_iff _).1 h2
  simp only at hx hx2
  have hw : word9 8 = 0 := by decide
  obtain ⟨W, hW, H⟩ := Hd.three w (.int .i64 x) (.int .i64 y) (.int .i64 x2) (.int .i64 y2) (.int .i64 0) (.int .i64 0) 24 24 24
  by_cases hx0 : x = 0
  · subst hx0
    have hx20 : (x2 == 0) = false := by simp; omega
    go_enter Tryd.func16, Tryd.ntmps16
    go_wp2_with fail
    rw [← hW]
    clear hW
    have c0 := H.get (b := w.heap.size) (o := 0) (v := .int .i64 0) (by simp)
    have c1 := H.get (b := w.heap.size) (o := 1) (v := .int .i64 y) (by simp)
    have c2 := H.get (b := w.heap.size + 1) (o := 0) (v := .int .i64 x2) (by simp)
    have c3 := H.get (b := w.heap.size + 1) (o := 1) (v := .int .i64 y2) (by simp)
    have c4 := H.get (b := w.heap.size + 2) (o := 0) (v := .int .i64 0) (by simp)
    have c5 := H.get (b := w.heap.size + 2) (o := 1) (v := .int .i64 0) (by simp)
    have z0 := H.fz (b := w.heap.size + 2) (o := 0) (v := .int .i64 0) (by simp)
    have z1 := H.fz (b := w.heap.size + 2) (o := 1) (v := .int .i64 0) (by simp)
    go_wp2_with (first | (go_at_call 62; refine (l1In_any _ _ _ _).mono ?_; rintro e w' ⟨rfl, rfl⟩; (first | rw [ho] | rw [hs0] | skip)) | (go_at_call 18; refine (sRestOk_xy _ _ _).mono ?_; rintro e w' ⟨rfl, hb⟩; (first | rw [h] | rw [h2]); replace H := H.call hb; have c0 := H.get (b := w.heap.size) (o := 0) (v := .int .i64 0) (by simp); have c1 := H.get (b := w.heap.size) (o := 1) (v := .int .i64 y) (by simp); have c2 := H.get (b := w.heap.size + 1) (o := 0) (v := .int .i64 x2) (by simp); have c3 := H.get (b := w.heap.size + 1) (o := 1) (v := .int .i64 y2) (by simp); have c4 := H.get (b := w.heap.size + 2) (o := 0) (v := .int .i64 0) (by simp); have c5 := H.get (b := w.heap.size + 2) (o := 1) (v := .int .i64 0) (by simp); have z0 := H.fz (b := w.heap.size + 2) (o := 0) (v := .int .i64 0) (by simp); have z1 := H.fz (b := w.heap.size + 2) (o := 1) (v := .int .i64 0) (by simp)) | (go_at_call 63; refine (l9All_any _).mono ?_; rintro e w' ⟨rfl, hb⟩; replace H := H.call hb; have c0 := H.get (b := w.heap.size) (o := 0) (v := .int .i64 0) (by simp); have c1 := H.get (b := w.heap.size) (o := 1) (v := .int .i64 y) (by simp); have c2 := H.get (b := w.heap.size + 1) (o := 0) (v := .int .i64 x2) (by simp); have c3 := H.get (b := w.heap.size + 1) (o := 1) (v := .int .i64 y2) (by simp); have c4 := H.get (b := w.heap.size + 2) (o := 0) (v := .int .i64 0) (by simp); have c5 := H.get (b := w.heap.size + 2) (o := 1) (v := .int .i64 0) (by simp); have z0 := H.fz (b := w.heap.size + 2) (o := 0) (v := .int .i64 0) (by simp); have z1 := H.fz (b := w.heap.size + 2) (o := 1) (v := .int .i64 0) (by simp)) | (go_at_call 64; refine (l9Wraps_any _ _).mono ?_; rintro e w' ⟨rfl, rfl⟩; rw [hw]))
    obtain ⟨f0, f1, fb⟩ := H.fill (b := w.heap.size + 2) (x := .int .i64 0) (y := .int .i64 0) (by simp) (by simp) (by omega) (.int .i64 1) (.int .i64 0)
    refine bodyPost_ret (results_two rfl _ _ (w.heap.size + 2) (.int .i64 1) (.int .i64 0) _ rfl f0 f1 Tryd.underlying24 rfl (by kernel_rfl)) rfl ?_
    exact ⟨rfl, fb⟩
  · have hx0' : (x == 0) = false := by simp [hx0]
    go_enter Tryd.func16, Tryd.ntmps16
    go_wp2_with fail
    rw [← hW]
    clear hW
    have c0 := H.get (b := w.heap.size) (o := 0) (v := .int .i64 x) (by simp)
    have c1 := H.get (b := w.heap.size) (o := 1) (v := .int .i64 y) (by simp)
    have c2 := H.get (b := w.heap.size + 1) (o := 0) (v := .int .i64 x2) (by simp)
    have c3 := H.get (b := w.heap.size + 1) (o := 1) (v := .int .i64 y2) (by simp)
    have c4 := H.get (b := w.heap.size + 2) (o := 0) (v := .int .i64 0) (by simp)
    have c5 := H.get (b := w.heap.size + 2) (o := 1) (v := .int .i64 0) (by simp)
    have z0 := H.fz (b := w.heap.size + 2) (o := 0) (v := .int .i64 0) (by simp)
    have z1 := H.fz (b := w.heap.size + 2) (o := 1) (v := .int .i64 0) (by simp)
    go_wp2_with (first | (go_at_call 62; refine (l1In_any _ _ _ _).mono ?_; rintro e w' ⟨rfl, rfl⟩; (first | rw [ho] | rw [hs0] | skip)) | (go_at_call 18; refine (sRestOk_xy _ _ _).mono ?_; rintro e w' ⟨rfl, hb⟩; (first | rw [h] | rw [h2]); replace H := H.call hb; have c0 := H.get (b := w.heap.size) (o := 0) (v := .int .i64 x) (by simp); have c1 := H.get (b := w.heap.size) (o := 1) (v := .int .i64 y) (by simp); have c2 := H.get (b := w.heap.size + 1) (o := 0) (v := .int .i64 x2) (by simp); have c3 := H.get (b := w.heap.size + 1) (o := 1) (v := .int .i64 y2) (by simp); have c4 := H.get (b := w.heap.size + 2) (o := 0) (v := .int .i64 0) (by simp); have c5 := H.get (b := w.heap.size + 2) (o := 1) (v := .int .i64 0) (by simp); have z0 := H.fz (b := w.heap.size + 2) (o := 0) (v := .int .i64 0) (by simp); have z1 := H.fz (b := w.heap.size + 2) (o := 1) (v := .int .i64 0) (by simp)) | (go_at_call 63; refine (l9All_any _).mono ?_; rintro e w' ⟨rfl, hb⟩; replace H := H.call hb; have c0 := H.get (b := w.heap.size) (o := 0) (v := .int .i64 x) (by simp); have c1 := H.get (b := w.heap.size) (o := 1) (v := .int .i64 y) (by simp); have c2 := H.get (b := w.heap.size + 1) (o := 0) (v := .int .i64 x2) (by simp); have c3 := H.get (b := w.heap.size + 1) (o := 1) (v := .int .i64 y2) (by simp); have c4 := H.get (b := w.heap.size + 2) (o := 0) (v := .int .i64 0) (by simp); have c5 := H.get (b := w.heap.size + 2) (o := 1) (v := .int .i64 0) (by simp); have z0 := H.fz (b := w.heap.size + 2) (o := 0) (v := .int .i64 0) (by simp); have z1 := H.fz (b := w.heap.size + 2) (o := 1) (v := .int .i64 0) (by simp)) | (go_at_call 64; refine (l9Wraps_any _ _).mono ?_; rintro e w' ⟨rfl, rfl⟩; rw [hw]))
    obtain ⟨f0, f1, fb⟩ := H.fill (b := w.heap.size + 2) (x := .int .i64 0) (y := .int .i64 0) (by simp) (by simp) (by omega) (.int .i64 1) (.int .i64 0)
    refine bodyPost_ret (results_two rfl _ _ (w.heap.size + 2) (.int .i64 1) (.int .i64 0) _ rfl f0 f1 Tryd.underlying24 rfl (by kernel_rfl)) rfl ?_
    exact ⟨rfl, fb⟩
set_option maxRecDepth 100000 in
set_option maxHeartbeats 4000000 in
theorem sDo_10 (x y x2 y2 : Int) (h : qOk (x, y) = true) (h2 : qOk (x2, y2) = true) (hab : ¬ (x = 0 ∧ x2 = 0)) (w : World) :
    Calls Tryd.prog 16 #[.int .i64 10, .agg #[.int .i64 x, .int .i64 y], .agg #[.int .i64 x2, .int .i64 y2]] w fun e w' => e = .returned (.agg #[.int .i64 (do9 10 (x, y) (x2, y2)).1, .int .i64 (do9 10 (x, y) (x2, y2)).2]) ∧ Below w.heap.size w w' := by
  have e : do9 10 (x, y) (x2, y2) = (1, 0) := by
    unfold do9
    rw [if_neg (by simp [h, h2]; decide), if_neg hab]
    simp [all9]
  rw [e]
  have ho : inB 10 1 13 = true := by decide
  have hx := (qOk_iff _).1 h
  have hx2 := (qOk_iff _).1 h2
  simp only at hx hx2
  have hw : word9 10 = 0 := by decide
  obtain ⟨W, hW, H⟩ := Hd.three w (.int .i64 x) (.int .i64 y) (.int .i64 x2) (.int .i64 y2) (.int .i64 0) (.int .i64 0) 24 24 24
  by_cases hx0 : x = 0
  · subst hx0
    have hx20 : (x2 == 0) = false := by simp; omega
    go_enter Tryd.func16, Tryd.ntmps16
    go_wp2_with fail
    rw [← hW]
    clear hW
    have c0 := H.get (b := w.heap.size) (o := 0) (v := .int .i64 0) (by simp)
    have c1 := H.get (b := w.heap.size) (o := 1) (v := .int .i64 y) (by simp)
    have c2 := H.get (b := w.heap.size + 1) (o := 0) (v := .int .i64 x2) (by simp)
    have c3 := H.get (b := w.heap.size + 1) (o := 1) (v := .int .i64 y2) (by simp)
    have c4 := H.get (b := w.heap.size + 2) (o := 0) (v := .int .i64 0) (by simp)
    have c5 := H.get (b := w.heap.size + 2) (o := 1) (v := .int .i64 0) (by simp)
    have z0 := H.fz (b := w.heap.size + 2) (o := 0) (v := .int .i64 0) (by simp)
    have z1 := H.fz (b := w.heap.size + 2) (o := 1) (v := .int .i64 0) (by simp)
    go_wp2_with (first | (go_at_call 62; refine (l1In_any _ _ _ _).mono ?_; rintro e w' ⟨rfl, rfl⟩; (first | rw [ho] | rw [hs0] | skip)) | (go_at_call 18; refine (sRestOk_xy _ _ _).mono ?_; rintro e w' ⟨rfl, hb⟩; (first | rw [h] | rw [h2]); replace H := H.call hb; have c0 := H.get (b := w.heap.size) (o := 0) (v := .int .i64 0) (by simp); have c1 := H.get (b := w.heap.size) (o := 1) (v := .int .i64 y) (by simp); have c2 := H.get (b := w.heap.size + 1) (o := 0) (v := .int .i64 x2) (by simp); have c3 := H.get (b := w.heap.size + 1) (o := 1) (v := .int .i64 y2) (by simp); have c4 := H.get (b := w.heap.size + 2) (o := 0) (v := .int .i64 0) (by simp); have c5 := H.get (b := w.heap.size + 2) (o := 1) (v := .int .i64 0) (by simp); have z0 := H.fz (b := w.heap.size + 2) (o := 0) (v := .int .i64 0) (by simp); have z1 := H.fz (b := w.heap.size + 2) (o := 1) (v := .int .i64 0) (by simp)) | (go_at_call 63; refine (l9All_any _).mono ?_; rintro e w' ⟨rfl, hb⟩; replace H := H.call hb; have c0 := H.get (b := w.heap.size) (o := 0) (v := .int .i64 0) (by simp); have c1 := H.get (b := w.heap.size) (o := 1) (v := .int .i64 y) (by simp); have c2 := H.get (b := w.heap.size + 1) (o := 0) (v := .int .i64 x2) (by simp); have c3 := H.get (b := w.heap.size + 1) (o := 1) (v := .int .i64 y2) (by simp); have c4 := H.get (b := w.heap.size + 2) (o := 0) (v := .int .i64 0) (by simp); have c5 := H.get (b := w.heap.size + 2) (o := 1) (v := .int .i64 0) (by simp); have z0 := H.fz (b := w.heap.size + 2) (o := 0) (v := .int .i64 0) (by simp); have z1 := H.fz (b := w.heap.size + 2) (o := 1) (v := .int .i64 0) (by simp)) | (go_at_call 64; refine (l9Wraps_any _ _).mono ?_; rintro e w' ⟨rfl, rfl⟩; rw [hw]))
    obtain ⟨f0, f1, fb⟩ := H.fill (b := w.heap.size + 2) (x := .int .i64 0) (y := .int .i64 0) (by simp) (by simp) (by omega) (.int .i64 1) (.int .i64 0)
    refine bodyPost_ret (results_two rfl _ _ (w.heap.size + 2) (.int .i64 1) (.int .i64 0) _ rfl f0 f1 Tryd.underlying24 rfl (by kernel_rfl)) rfl ?_
    exact ⟨rfl, fb⟩
  · have hx0' : (x == 0) = false := by simp [hx0]
    go_enter Tryd.func16, Tryd.ntmps16
    go_wp2_with fail
    rw [← hW]
    clear hW
    have c0 := H.get (b := w.heap.size) (o := 0) (v := .int .i64 x) (by simp)
    have c1 := H.get (b := w.heap.size) (o := 1) (v := .int .i64 y) (by simp)
    have c2 := H.get (b := w.heap.size + 1) (o := 0) (v := .int .i64 x2) (by simp)
    have c3 := H.get (b := w.heap.size + 1) (o := 1) (v := .int .i64 y2) (by simp)
    have c4 := H.get (b := w.heap.size + 2) (o := 0) (v := .int .i64 0) (by simp)
    have c5 := H.get (b := w.heap.size + 2) (o := 1) (v := .int .i64 0) (by simp)
    have z0 := H.fz (b := w.heap.size + 2) (o := 0) (v := .int .i64 0) (by simp)
    have z1 := H.fz (b := w.heap.size + 2) (o := 1) (v := .int .i64 0) (by simp)
    go_wp2_with (first | (go_at_call 62; refine (l1In_any _ _ _ _).mono ?_; rintro e w' ⟨rfl, rfl⟩; (first | rw [ho] | rw [hs0] | skip)) | (go_at_call 18; refine (sRestOk_xy _ _ _).mono ?_; rintro e w' ⟨rfl, hb⟩; (first | rw [h] | rw [h2]); replace H := H.call hb; have c0 := H.get (b := w.heap.size) (o := 0) (v := .int .i64 x) (by simp); have c1 := H.get (b := w.heap.size) (o := 1) (v := .int .i64 y) (by simp); have c2 := H.get (b := w.heap.size + 1) (o := 0) (v := .int .i64 x2) (by simp); have c3 := H.get (b := w.heap.size + 1) (o := 1) (v := .int .i64 y2) (by simp); have c4 := H.get (b := w.heap.size + 2) (o := 0) (v := .int .i64 0) (by simp); have c5 := H.get (b := w.heap.size + 2) (o := 1) (v := .int .i64 0) (by simp); have z0 := H.fz (b := w.heap.size + 2) (o := 0) (v := .int .i64 0) (by simp); have z1 := H.fz (b := w.heap.size + 2) (o := 1) (v := .int .i64 0) (by simp)) | (go_at_call 63; refine (l9All_any _).mono ?_; rintro e w' ⟨rfl, hb⟩; replace H := H.call hb; have c0 := H.get (b := w.heap.size) (o := 0) (v := .int .i64 x) (by simp); have c1 := H.get (b := w.heap.size) (o := 1) (v := .int .i64 y) (by simp); have c2 := H.get (b := w.heap.size + 1) (o := 0) (v := .int .i64 x2) (by simp); have c3 := H.get (b := w.heap.size + 1) (o := 1) (v := .int .i64 y2) (by simp); have c4 := H.get (b := w.heap.size + 2) (o := 0) (v := .int .i64 0) (by simp); have c5 := H.get (b := w.heap.size + 2) (o := 1) (v := .int .i64 0) (by simp); have z0 := H.fz (b := w.heap.size + 2) (o := 0) (v := .int .i64 0) (by simp); have z1 := H.fz (b := w.heap.size + 2) (o := 1) (v := .int .i64 0) (by simp)) | (go_at_call 64; refine (l9Wraps_any _ _).mono ?_; rintro e w' ⟨rfl, rfl⟩; rw [hw]))
    obtain ⟨f0, f1, fb⟩ := H.fill (b := w.heap.size + 2) (x := .int .i64 0) (y := .int .i64 0) (by simp) (by simp) (by omega) (.int .i64 1) (.int .i64 0)
    refine bodyPost_ret (results_two rfl _ _ (w.heap.size + 2) (.int .i64 1) (.int .i64 0) _ rfl f0 f1 Tryd.underlying24 rfl (by kernel_rfl)) rfl ?_
    exact ⟨rfl, fb⟩
set_option maxRecDepth 100000 in
set_option maxHeartbeats 4000000 in
theorem sDo_5 (x y x2 y2 : Int) (h : qOk (x, y) = true) (h2 : qOk (x2, y2) = true) (hab : ¬ (x = 0 ∧ x2 = 0)) (w : World) :
    Calls Tryd.prog 16 #[.int .i64 5, .agg #[.int .i64 x, .int .i64 y], .agg #[.int .i64 x2, .int .i64 y2]] w fun e w' => e = .returned (.agg #[.int .i64 (do9 5 (x, y) (x2, y2)).1, .int .i64 (do9 5 (x, y) (x2, y2)).2]) ∧ Below w.heap.size w w' := by
  have e : do9 5 (x, y) (x2, y2) = make9 (gcd9 x (gcd9 x2 y2)) y := by
    unfold do9
    rw [if_neg (by simp [h, h2]; decide), if_neg hab]
    simp
  rw [e]
  have ho : inB 5 1 13 = true := by decide
  have hx := (qOk_iff _).1 h
  have hx2 := (qOk_iff _).1 h2
  simp only at hx hx2
  have hw : word9 5 = 0 := by decide
  have g0 := gcd9_pos x2 y2
  have g1 := gcd9_bd x2 y2 2147483648 (by omega) (by omega)
  have kk0 : 0 ≤ gcd9 x (gcd9 x2 y2) := gcd9_pos _ _
  have kk1 : gcd9 x (gcd9 x2 y2) ≤ 4611686018427387904 := gcd9_bd _ _ _ (by omega) (by omega)
  have hk0 : gcd9 x (gcd9 x2 y2) ≠ 0 := fun e => hab ⟨(gcd9_eq_zero e).1, (gcd9_eq_zero (gcd9_eq_zero e).2).1⟩
  generalize h1 : gcd9 x2 y2 = g at *
  generalize h3 : gcd9 x g = k at *
  have hk1 : (k == 0) = false := by simp [hk0]
  have h5 : (0 : Int) = 0 := rfl
  have hm3 : ∀ w1 : World, Calls Tryd.prog 65 #[.int .i64 k, .int .i64 y] w1 fun e w' => e = .returned (.agg #[.int .i64 (make9 k y).1, .int .i64 (make9 k y).2]) ∧ Below w1.heap.size w1 w' := fun w1 => l9Make_any k y kk0 kk1 w1
  generalize make9 k y = q at *
  obtain ⟨W, hW, H⟩ := Hd.three w (.int .i64 x) (.int .i64 y) (.int .i64 x2) (.int .i64 y2) (.int .i64 0) (.int .i64 0) 24 24 24
  by_cases hx0 : x = 0
  · subst hx0
    have hx20 : (x2 == 0) = false := by simp; omega
    go_enter Tryd.func16, Tryd.ntmps16
    go_wp2_with fail
    rw [← hW]
    clear hW
    have c0 := H.get (b := w.heap.size) (o := 0) (v := .int .i64 0) (by simp)
    have c1 := H.get (b := w.heap.size) (o := 1) (v := .int .i64 y) (by simp)
    have c2 := H.get (b := w.heap.size + 1) (o := 0) (v := .int .i64 x2) (by simp)
    have c3 := H.get (b := w.heap.size + 1) (o := 1) (v := .int .i64 y2) (by simp)
    have c4 := H.get (b := w.heap.size + 2) (o := 0) (v := .int .i64 0) (by simp)
    have c5 := H.get (b := w.heap.size + 2) (o := 1) (v := .int .i64 0) (by simp)
    have z0 := H.fz (b := w.heap.size + 2) (o := 0) (v := .int .i64 0) (by simp)
    have z1 := H.fz (b := w.heap.size + 2) (o := 1) (v := .int .i64 0) (by simp)
    go_wp2_with (first | (go_at_call 62; refine (l1In_any _ _ _ _).mono ?_; rintro e w' ⟨rfl, rfl⟩; (first | rw [ho] | rw [hs0] | skip)) | (go_at_call 18; refine (sRestOk_xy _ _ _).mono ?_; rintro e w' ⟨rfl, hb⟩; (first | rw [h] | rw [h2]); replace H := H.call hb; have c0 := H.get (b := w.heap.size) (o := 0) (v := .int .i64 0) (by simp); have c1 := H.get (b := w.heap.size) (o := 1) (v := .int .i64 y) (by simp); have c2 := H.get (b := w.heap.size + 1) (o := 0) (v := .int .i64 x2) (by simp); have c3 := H.get (b := w.heap.size + 1) (o := 1) (v := .int .i64 y2) (by simp); have c4 := H.get (b := w.heap.size + 2) (o := 0) (v := .int .i64 0) (by simp); have c5 := H.get (b := w.heap.size + 2) (o := 1) (v := .int .i64 0) (by simp); have z0 := H.fz (b := w.heap.size + 2) (o := 0) (v := .int .i64 0) (by simp); have z1 := H.fz (b := w.heap.size + 2) (o := 1) (v := .int .i64 0) (by simp)) | (go_at_call 63; refine (l9All_any _).mono ?_; rintro e w' ⟨rfl, hb⟩; replace H := H.call hb; have c0 := H.get (b := w.heap.size) (o := 0) (v := .int .i64 0) (by simp); have c1 := H.get (b := w.heap.size) (o := 1) (v := .int .i64 y) (by simp); have c2 := H.get (b := w.heap.size + 1) (o := 0) (v := .int .i64 x2) (by simp); have c3 := H.get (b := w.heap.size + 1) (o := 1) (v := .int .i64 y2) (by simp); have c4 := H.get (b := w.heap.size + 2) (o := 0) (v := .int .i64 0) (by simp); have c5 := H.get (b := w.heap.size + 2) (o := 1) (v := .int .i64 0) (by simp); have z0 := H.fz (b := w.heap.size + 2) (o := 0) (v := .int .i64 0) (by simp); have z1 := H.fz (b := w.heap.size + 2) (o := 1) (v := .int .i64 0) (by simp)) | (go_at_call 64; refine (l9Wraps_any _ _).mono ?_; rintro e w' ⟨rfl, rfl⟩; rw [hw]))
    have k0 := fun p : Over _ => H.over (b := w.heap.size) (o := 0) (v := .int .i64 0) (by simp) p
    have k1 := fun p : Over _ => H.over (b := w.heap.size) (o := 1) (v := .int .i64 y) (by simp) p
    have k2 := fun p : Over _ => H.over (b := w.heap.size + 1) (o := 0) (v := .int .i64 x2) (by simp) p
    have k3 := fun p : Over _ => H.over (b := w.heap.size + 1) (o := 1) (v := .int .i64 y2) (by simp) p
    refine wp_region_over (by kernel_rfl) (by kernel_rfl) ?_
    repeat (go_big_quiet_step (first | (go_at_call 66; rename_i p; refine (l9Gcd_any _ _ (by omega) (by omega) _).mono ?_; rintro e' w' ⟨rfl, rfl⟩; exact ⟨by first | rw [h1] | rw [h3] | rw [h5], p, rfl⟩)))
    refine wpQuiet_nil ?_
    rintro _ ⟨p, rfl⟩
    replace H := H.call p.below
    clear k0 k1 k2 k3
    generalize p.w = w3 at *
    have c0 := H.get (b := w.heap.size) (o := 0) (v := .int .i64 0) (by simp)
    have c1 := H.get (b := w.heap.size) (o := 1) (v := .int .i64 y) (by simp)
    have c2 := H.get (b := w.heap.size + 1) (o := 0) (v := .int .i64 x2) (by simp)
    have c3 := H.get (b := w.heap.size + 1) (o := 1) (v := .int .i64 y2) (by simp)
    have c4 := H.get (b := w.heap.size + 2) (o := 0) (v := .int .i64 0) (by simp)
    have c5 := H.get (b := w.heap.size + 2) (o := 1) (v := .int .i64 0) (by simp)
    have z0 := H.fz (b := w.heap.size + 2) (o := 0) (v := .int .i64 0) (by simp)
    have z1 := H.fz (b := w.heap.size + 2) (o := 1) (v := .int .i64 0) (by simp)
    go_wp2_with (first | (go_at_call 65; refine (hm3 _).mono ?_; rintro e w' ⟨rfl, hb⟩; replace H := H.call hb; have c0 := H.get (b := w.heap.size) (o := 0) (v := .int .i64 0) (by simp); have c1 := H.get (b := w.heap.size) (o := 1) (v := .int .i64 y) (by simp); have c2 := H.get (b := w.heap.size + 1) (o := 0) (v := .int .i64 x2) (by simp); have c3 := H.get (b := w.heap.size + 1) (o := 1) (v := .int .i64 y2) (by simp); have c4 := H.get (b := w.heap.size + 2) (o := 0) (v := .int .i64 0) (by simp); have c5 := H.get (b := w.heap.size + 2) (o := 1) (v := .int .i64 0) (by simp); have z0 := H.fz (b := w.heap.size + 2) (o := 0) (v := .int .i64 0) (by simp); have z1 := H.fz (b := w.heap.size + 2) (o := 1) (v := .int .i64 0) (by simp)))
    obtain ⟨f0, f1, fb⟩ := H.fill (b := w.heap.size + 2) (x := .int .i64 0) (y := .int .i64 0) (by simp) (by simp) (by omega) (.int .i64 q.1) (.int .i64 q.2)
    refine bodyPost_ret (results_two rfl _ _ (w.heap.size + 2) (.int .i64 q.1) (.int .i64 q.2) _ rfl f0 f1 Tryd.underlying24 rfl (by kernel_rfl)) rfl ?_
    exact ⟨rfl, fb⟩
  · have hx0' : (x == 0) = false := by simp [hx0]
    go_enter Tryd.func16, Tryd.ntmps16
    go_wp2_with fail
    rw [← hW]
    clear hW
    have c0 := H.get (b := w.heap.size) (o := 0) (v := .int .i64 x) (by simp)
    have c1 := H.get (b := w.heap.size) (o := 1) (v := .int .i64 y) (by simp)
    have c2 := H.get (b := w.heap.size + 1) (o := 0) (v := .int .i64 x2) (by simp)
    have c3 := H.get (b := w.heap.size + 1) (o := 1) (v := .int .i64 y2) (by simp)
    have c4 := H.get (b := w.heap.size + 2) (o := 0) (v := .int .i64 0) (by simp)
    have c5 := H.get (b := w.heap.size + 2) (o := 1) (v := .int .i64 0) (by simp)
    have z0 := H.fz (b := w.heap.size + 2) (o := 0) (v := .int .i64 0) (by simp)
    have z1 := H.fz (b := w.heap.size + 2) (o := 1) (v := .int .i64 0) (by simp)
    go_wp2_with (first | (go_at_call 62; refine (l1In_any _ _ _ _).mono ?_; rintro e w' ⟨rfl, rfl⟩; (first | rw [ho] | rw [hs0] | skip)) | (go_at_call 18; refine (sRestOk_xy _ _ _).mono ?_; rintro e w' ⟨rfl, hb⟩; (first | rw [h] | rw [h2]); replace H := H.call hb; have c0 := H.get (b := w.heap.size) (o := 0) (v := .int .i64 x) (by simp); have c1 := H.get (b := w.heap.size) (o := 1) (v := .int .i64 y) (by simp); have c2 := H.get (b := w.heap.size + 1) (o := 0) (v := .int .i64 x2) (by simp); have c3 := H.get (b := w.heap.size + 1) (o := 1) (v := .int .i64 y2) (by simp); have c4 := H.get (b := w.heap.size + 2) (o := 0) (v := .int .i64 0) (by simp); have c5 := H.get (b := w.heap.size + 2) (o := 1) (v := .int .i64 0) (by simp); have z0 := H.fz (b := w.heap.size + 2) (o := 0) (v := .int .i64 0) (by simp); have z1 := H.fz (b := w.heap.size + 2) (o := 1) (v := .int .i64 0) (by simp)) | (go_at_call 63; refine (l9All_any _).mono ?_; rintro e w' ⟨rfl, hb⟩; replace H := H.call hb; have c0 := H.get (b := w.heap.size) (o := 0) (v := .int .i64 x) (by simp); have c1 := H.get (b := w.heap.size) (o := 1) (v := .int .i64 y) (by simp); have c2 := H.get (b := w.heap.size + 1) (o := 0) (v := .int .i64 x2) (by simp); have c3 := H.get (b := w.heap.size + 1) (o := 1) (v := .int .i64 y2) (by simp); have c4 := H.get (b := w.heap.size + 2) (o := 0) (v := .int .i64 0) (by simp); have c5 := H.get (b := w.heap.size + 2) (o := 1) (v := .int .i64 0) (by simp); have z0 := H.fz (b := w.heap.size + 2) (o := 0) (v := .int .i64 0) (by simp); have z1 := H.fz (b := w.heap.size + 2) (o := 1) (v := .int .i64 0) (by simp)) | (go_at_call 64; refine (l9Wraps_any _ _).mono ?_; rintro e w' ⟨rfl, rfl⟩; rw [hw]))
    have k0 := fun p : Over _ => H.over (b := w.heap.size) (o := 0) (v := .int .i64 x) (by simp) p
    have k1 := fun p : Over _ => H.over (b := w.heap.size) (o := 1) (v := .int .i64 y) (by simp) p
    have k2 := fun p : Over _ => H.over (b := w.heap.size + 1) (o := 0) (v := .int .i64 x2) (by simp) p
    have k3 := fun p : Over _ => H.over (b := w.heap.size + 1) (o := 1) (v := .int .i64 y2) (by simp) p
    refine wp_region_over (by kernel_rfl) (by kernel_rfl) ?_
    repeat (go_big_quiet_step (first | (go_at_call 66; rename_i p; refine (l9Gcd_any _ _ (by omega) (by omega) _).mono ?_; rintro e' w' ⟨rfl, rfl⟩; exact ⟨by first | rw [h1] | rw [h3] | rw [h5], p, rfl⟩)))
    refine wpQuiet_nil ?_
    rintro _ ⟨p, rfl⟩
    replace H := H.call p.below
    clear k0 k1 k2 k3
    generalize p.w = w3 at *
    have c0 := H.get (b := w.heap.size) (o := 0) (v := .int .i64 x) (by simp)
    have c1 := H.get (b := w.heap.size) (o := 1) (v := .int .i64 y) (by simp)
    have c2 := H.get (b := w.heap.size + 1) (o := 0) (v := .int .i64 x2) (by simp)
    have c3 := H.get (b := w.heap.size + 1) (o := 1) (v := .int .i64 y2) (by simp)
    have c4 := H.get (b := w.heap.size + 2) (o := 0) (v := .int .i64 0) (by simp)
    have c5 := H.get (b := w.heap.size + 2) (o := 1) (v := .int .i64 0) (by simp)
    have z0 := H.fz (b := w.heap.size + 2) (o := 0) (v := .int .i64 0) (by simp)
    have z1 := H.fz (b := w.heap.size + 2) (o := 1) (v := .int .i64 0) (by simp)
    go_wp2_with (first | (go_at_call 65; refine (hm3 _).mono ?_; rintro e w' ⟨rfl, hb⟩; replace H := H.call hb; have c0 := H.get (b := w.heap.size) (o := 0) (v := .int .i64 x) (by simp); have c1 := H.get (b := w.heap.size) (o := 1) (v := .int .i64 y) (by simp); have c2 := H.get (b := w.heap.size + 1) (o := 0) (v := .int .i64 x2) (by simp); have c3 := H.get (b := w.heap.size + 1) (o := 1) (v := .int .i64 y2) (by simp); have c4 := H.get (b := w.heap.size + 2) (o := 0) (v := .int .i64 0) (by simp); have c5 := H.get (b := w.heap.size + 2) (o := 1) (v := .int .i64 0) (by simp); have z0 := H.fz (b := w.heap.size + 2) (o := 0) (v := .int .i64 0) (by simp); have z1 := H.fz (b := w.heap.size + 2) (o := 1) (v := .int .i64 0) (by simp)))
    obtain ⟨f0, f1, fb⟩ := H.fill (b := w.heap.size + 2) (x := .int .i64 0) (y := .int .i64 0) (by simp) (by simp) (by omega) (.int .i64 q.1) (.int .i64 q.2)
    refine bodyPost_ret (results_two rfl _ _ (w.heap.size + 2) (.int .i64 q.1) (.int .i64 q.2) _ rfl f0 f1 Tryd.underlying24 rfl (by kernel_rfl)) rfl ?_
    exact ⟨rfl, fb⟩
end Go.Proofs.YtjpiihjgbllieaaDoor.num
