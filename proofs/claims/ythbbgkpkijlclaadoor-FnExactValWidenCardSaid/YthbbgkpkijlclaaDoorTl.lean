/-
  The program's ranges: without, ascending, turned, CmpTurn.
-/
import Derived.Test.YthbbgkpkijlclaaDoorTh
import Derived.Test.YthbbgkpkijlclaaDoorQe
import Derived.Test.YthbbgkpkijlclaaDoorRbI
namespace Go.Proofs.YthbbgkpkijlclaaDoor.num
open Go.ChangeShapes Go.WideShapes Go.ChangeAt Go.RowKit
set_option linter.unusedVariables false

set_option maxRecDepth 100000 in
set_option maxHeartbeats 4000000 in
theorem without_xy (x y x2 y2 : Int) (hx1 : -2147483648 ≤ x) (hx2 : y ≤ 2147483647) (hx3 : x ≤ y) (hy1 : -2147483648 ≤ x2) (hy2 : y2 ≤ 2147483647) (hy3 : x2 ≤ y2) (w : World) (h : Gv w 1 none8) :
    Calls Tryd.prog 211 #[.agg #[.int .i64 x, .int .i64 y], .agg #[.int .i64 x2, .int .i64 y2]] w fun e w' => e = .returned (.agg #[.int .i64 (ne8 (x, y) (x2, y2)).1, .int .i64 (ne8 (x, y) (x2, y2)).2]) ∧ Below w.heap.size w w' := by
  obtain ⟨W, hW, H⟩ := Hd.three w (.int .i64 x) (.int .i64 y) (.int .i64 x2) (.int .i64 y2) (.int .i64 0) (.int .i64 0) 24 24 24
  unfold ne8
  by_cases q1 : x2 = y2
  · rw [if_neg (fun hh => hh q1)]
    subst q1
    by_cases q2 : x = x2
    · rw [if_pos q2]
      subst q2
      have hz : (x == x) = true := by simp
      go_enter Tryd.func211, Tryd.ntmps211
      go_wp2_with fail
      rw [← hW]
      clear hW
      have a0 := H.get (b := w.heap.size) (o := 0) (v := .int .i64 x) (by simp)
      have a1 := H.get (b := w.heap.size) (o := 1) (v := .int .i64 y) (by simp)
      have b0 := H.get (b := w.heap.size + 1) (o := 0) (v := .int .i64 x) (by simp)
      have b1 := H.get (b := w.heap.size + 1) (o := 1) (v := .int .i64 x) (by simp)
      have r0 := H.get (b := w.heap.size + 2) (o := 0) (v := .int .i64 0) (by simp)
      have z0 := H.fz (b := w.heap.size + 2) (o := 0) (v := .int .i64 0) (by simp)
      have r1 := H.get (b := w.heap.size + 2) (o := 1) (v := .int .i64 0) (by simp)
      have z1 := H.fz (b := w.heap.size + 2) (o := 1) (v := .int .i64 0) (by simp)
      obtain ⟨gs, g0, g1, gz⟩ := (h.below H.below).none
      go_wp2_with (first | (go_at_call 165; refine (fromTo_any _ _ _ (h.below H.below)).mono ?_; rintro e w' ⟨rfl, hb⟩; replace H := H.call hb; have a0 := H.get (b := w.heap.size) (o := 0) (v := .int .i64 x) (by simp); have a1 := H.get (b := w.heap.size) (o := 1) (v := .int .i64 y) (by simp); have b0 := H.get (b := w.heap.size + 1) (o := 0) (v := .int .i64 x) (by simp); have b1 := H.get (b := w.heap.size + 1) (o := 1) (v := .int .i64 x) (by simp); have r0 := H.get (b := w.heap.size + 2) (o := 0) (v := .int .i64 0) (by simp); have z0 := H.fz (b := w.heap.size + 2) (o := 0) (v := .int .i64 0) (by simp); have r1 := H.get (b := w.heap.size + 2) (o := 1) (v := .int .i64 0) (by simp); have z1 := H.fz (b := w.heap.size + 2) (o := 1) (v := .int .i64 0) (by simp); obtain ⟨gs, g0, g1, gz⟩ := (h.below H.below).none))
      generalize cut8 _ _ = q
      obtain ⟨f0, f1, fb⟩ := H.fill (b := w.heap.size + 2) (x := .int .i64 0) (y := .int .i64 0) (by simp) (by simp) (by omega) (.int .i64 q.1) (.int .i64 q.2)
      refine bodyPost_ret (results_two rfl _ _ (w.heap.size + 2) (.int .i64 q.1) (.int .i64 q.2) _ rfl f0 f1 Tryd.underlying24 rfl (by kernel_rfl)) rfl ?_
      exact ⟨rfl, fb⟩
    · rw [if_neg q2]
      have hz : (x2 == x) = false := by simp; omega
      by_cases q3 : y = x2
      · rw [if_pos q3]
        subst q3
        go_enter Tryd.func211, Tryd.ntmps211
        go_wp2_with fail
        rw [← hW]
        clear hW
        have a0 := H.get (b := w.heap.size) (o := 0) (v := .int .i64 x) (by simp)
        have a1 := H.get (b := w.heap.size) (o := 1) (v := .int .i64 y) (by simp)
        have b0 := H.get (b := w.heap.size + 1) (o := 0) (v := .int .i64 y) (by simp)
        have b1 := H.get (b := w.heap.size + 1) (o := 1) (v := .int .i64 y) (by simp)
        have r0 := H.get (b := w.heap.size + 2) (o := 0) (v := .int .i64 0) (by simp)
        have z0 := H.fz (b := w.heap.size + 2) (o := 0) (v := .int .i64 0) (by simp)
        have r1 := H.get (b := w.heap.size + 2) (o := 1) (v := .int .i64 0) (by simp)
        have z1 := H.fz (b := w.heap.size + 2) (o := 1) (v := .int .i64 0) (by simp)
        obtain ⟨gs, g0, g1, gz⟩ := (h.below H.below).none
        go_wp2_with (first | (go_at_call 165; refine (fromTo_any _ _ _ (h.below H.below)).mono ?_; rintro e w' ⟨rfl, hb⟩; replace H := H.call hb; have a0 := H.get (b := w.heap.size) (o := 0) (v := .int .i64 x) (by simp); have a1 := H.get (b := w.heap.size) (o := 1) (v := .int .i64 y) (by simp); have b0 := H.get (b := w.heap.size + 1) (o := 0) (v := .int .i64 y) (by simp); have b1 := H.get (b := w.heap.size + 1) (o := 1) (v := .int .i64 y) (by simp); have r0 := H.get (b := w.heap.size + 2) (o := 0) (v := .int .i64 0) (by simp); have z0 := H.fz (b := w.heap.size + 2) (o := 0) (v := .int .i64 0) (by simp); have r1 := H.get (b := w.heap.size + 2) (o := 1) (v := .int .i64 0) (by simp); have z1 := H.fz (b := w.heap.size + 2) (o := 1) (v := .int .i64 0) (by simp); obtain ⟨gs, g0, g1, gz⟩ := (h.below H.below).none))
        generalize cut8 _ _ = q
        obtain ⟨f0, f1, fb⟩ := H.fill (b := w.heap.size + 2) (x := .int .i64 0) (y := .int .i64 0) (by simp) (by simp) (by omega) (.int .i64 q.1) (.int .i64 q.2)
        refine bodyPost_ret (results_two rfl _ _ (w.heap.size + 2) (.int .i64 q.1) (.int .i64 q.2) _ rfl f0 f1 Tryd.underlying24 rfl (by kernel_rfl)) rfl ?_
        exact ⟨rfl, fb⟩
      · rw [if_neg q3]
        have hz2 : (x2 == y) = false := by simp; omega
        clear hW H
        go_enter Tryd.func211, Tryd.ntmps211
        go_wp2
        refine bodyPost_ret (results_two rfl _ _ (w.heap.size + 1 + 1) (.int .i64 x) (.int .i64 y) _ rfl (by simp [go_sem]) (by simp [go_sem]) Tryd.underlying24 rfl (by kernel_rfl)) rfl ?_
        exact ⟨rfl, rws.below3 _ _ _ _⟩
  · rw [if_pos q1]
    have hz : (x2 == y2) = false := by simp; omega
    have hz2 : (x2 != y2) = true := by simp; omega
    clear hW H
    go_enter Tryd.func211, Tryd.ntmps211
    go_wp2
    refine bodyPost_ret (results_two rfl _ _ (w.heap.size + 1 + 1) (.int .i64 x) (.int .i64 y) _ rfl (by simp [go_sem]) (by simp [go_sem]) Tryd.underlying24 rfl (by kernel_rfl)) rfl ?_
    exact ⟨rfl, rws.below3 _ _ _ _⟩
theorem turned_xy (x y x2 y2 : Int) (w : World) :
    Calls Tryd.prog 214 #[.agg #[.int .i64 x, .int .i64 y, .int .i64 x2, .int .i64 y2]] w fun e w' => e = .returned (.agg #[.int .i64 x2, .int .i64 y2, .int .i64 x, .int .i64 y]) ∧ Below w.heap.size w w' := by
  go_enter Tryd.func214, Tryd.ntmps214
  go_wp2
  refine bodyPost_ret (results_four rfl _ _ (w.heap.size + 1) (.int .i64 x2) (.int .i64 y2) (.int .i64 x) (.int .i64 y) _ rfl (by simp [go_sem]) (by simp [go_sem]) (by simp [go_sem]) (by simp [go_sem]) Tryd.underlying122 rfl (by kernel_rfl)) rfl ?_
  exact ⟨rfl, rws.below2 _ _ _⟩
/-- The table of turned comparisons holds what the program's text lays. -/
def Tv (w : World) : Prop := 7 < w.heap.size ∧ w.cell? ⟨7, 0, none⟩ = some (.int .i64 0) ∧ w.cell? ⟨7, 1, none⟩ = some (.int .i64 1) ∧ w.cell? ⟨7, 2, none⟩ = some (.int .i64 2) ∧ w.cell? ⟨7, 3, none⟩ = some (.int .i64 5) ∧
  w.cell? ⟨7, 4, none⟩ = some (.int .i64 6) ∧ w.cell? ⟨7, 5, none⟩ = some (.int .i64 3) ∧ w.cell? ⟨7, 6, none⟩ = some (.int .i64 4)
theorem Tv.below {w w' : World} (h : Tv w) (hb : Below w.heap.size w w') : Tv w' := by
  obtain ⟨h0, h1, h2, h3, h4, h5, h6, h7⟩ := h
  have q : ∀ i, w'.cell? ⟨7, i, none⟩ = w.cell? ⟨7, i, none⟩ := fun i => hb.cell (p := ⟨7, i, none⟩) h0
  exact ⟨Nat.lt_of_lt_of_le h0 hb.size, by rw [q]; exact h1, by rw [q]; exact h2, by rw [q]; exact h3, by rw [q]; exact h4, by rw [q]; exact h5, by rw [q]; exact h6, by rw [q]; exact h7⟩
def turnI (c : Int) : Int := if c = 1 then 1 else if c = 2 then 2 else if c = 3 then 5 else if c = 4 then 6 else if c = 5 then 3 else if c = 6 then 4 else 0
theorem cmpOk_any (c : Int) (w : World) :
    Calls Tryd.prog 218 #[.int .i64 c] w fun e w' => e = .returned (.bool (decide (1 ≤ c ∧ c ≤ 6))) ∧ w' = w := by
  go_enter Tryd.func218, Tryd.ntmps218
  go_wp2
  all_goals go_ret
  · exact ⟨ret_bool (by rename_i h; simp [h]), rfl⟩
  · exact ⟨ret_bool (by rename_i h; simp; omega), rfl⟩
theorem specTurn_any (c : Int) (w : World) :
    Calls Tryd.prog 172 #[.int .i64 c] w fun e w' => e = .returned (.int .i64 (turnI c)) ∧ w' = w := by
  go_enter Tryd.func172, Tryd.ntmps172
  go_wp2
  all_goals go_ret
  all_goals (refine ⟨ret_int ?_, rfl⟩; simp_all [turnI])
theorem implTurn5 (w : World) (h : Tv w) :
    Calls Tryd.prog 213 #[.int .i64 5] w fun e w' => e = .returned (.int .i64 3) ∧ w' = w := by
  obtain ⟨h0, h1, h2, h3, h4, h5, h6, h7⟩ := h
  go_enter Tryd.func213, Tryd.ntmps213
  go_wp2_with (go_at_call 218; refine (cmpOk_any _ _).mono ?_; rintro e w' ⟨rfl, rfl⟩)
  go_ret
  exact ⟨rfl, rfl⟩
theorem implTurn6 (w : World) (h : Tv w) :
    Calls Tryd.prog 213 #[.int .i64 6] w fun e w' => e = .returned (.int .i64 4) ∧ w' = w := by
  obtain ⟨h0, h1, h2, h3, h4, h5, h6, h7⟩ := h
  go_enter Tryd.func213, Tryd.ntmps213
  go_wp2_with (go_at_call 218; refine (cmpOk_any _ _).mono ?_; rintro e w' ⟨rfl, rfl⟩)
  go_ret
  exact ⟨rfl, rfl⟩
end Go.Proofs.YthbbgkpkijlclaaDoor.num
