/-
  The program's RestHas.
-/
import Derived.Test.YthbbgkpkijlclaaDoorUd
namespace Go.Proofs.YthbbgkpkijlclaaDoor.num
open Go.ChangeShapes Go.WideShapes Go.ChangeAt Go.RowKit
set_option linter.unusedVariables false

/-- Whether a number leaves a rest, where its Mod is in order. -/
def hasQ (x y v : Int) : Bool := decide ((make9 x v).1 = x) && decide ((make9 x v).2 = y)
theorem hasQ_eq {x y v : Int} (h : qOk (x, y) = true) (h2 : okB v = true) : qHas (x, y) v = hasQ x y v := by
  have hx : 0 ≤ x ∧ x ≤ 65536 := by rw [qOk_iff] at h; simp only at h; omega
  have hs := small9_id hx.2
  rw [Bool.eq_iff_iff]
  unfold qHas hasQ make9
  rw [h, h2, hs]
  by_cases h0 : x = 0
  · subst h0; simp
  · simp [h0]
set_option maxRecDepth 100000 in
set_option maxHeartbeats 4000000 in
theorem restHas_xy (x y v : Int) (hx : 0 ≤ x ∧ x ≤ 65536) (w : World) :
    Calls Tryd.prog 155 #[.agg #[.int .i64 x, .int .i64 y], .int .i64 v] w fun e w' => e = .returned (.bool (hasQ x y v)) ∧ Below w.heap.size w w' := by
  obtain ⟨W, hW, H⟩ := Hd.one w (.int .i64 x) (.int .i64 y) 26
  have h : True := trivial
  unfold hasQ
  have hx2 : x ≤ 4611686018427387904 := by omega
  have hm : ∀ w1 : World, Calls Tryd.prog 147 #[.int .i64 v, .int .i64 x] w1 fun e w' => e = .returned (.agg #[.int .i64 (make9 x v).1, .int .i64 (make9 x v).2]) ∧ Below w1.heap.size w1 w' := fun w1 => restOf_any v x hx.1 hx2 w1
  generalize make9 x v = q at *
  obtain ⟨q1, q2⟩ := q
  simp only at hm ⊢
  by_cases c1 : q1 = x
  · by_cases c2 : q2 = y
    · subst c1 c2
      rw [show (decide (q1 = q1) && decide (q2 = q2)) = true by simp]
      go_enter Tryd.func155, Tryd.ntmps155
      go_wp2_with fail
      rw [← hW]
      clear hW
      have k0 := fun p : Over W => H.over (b := w.heap.size) (o := 0) (v := .int .i64 q1) (by simp) p
      have k1 := fun p : Over W => H.over (b := w.heap.size) (o := 1) (v := .int .i64 q2) (by simp) p
      refine wp_region_over (by kernel_rfl) (by kernel_rfl) ?_
      repeat (go_big_quiet_step (first | (go_at_call 147; rename_i p; refine (hm _).mono ?_; rintro e' w' ⟨rfl, hb1⟩; exact ⟨rfl, p.next hb1⟩)))
      refine wpQuiet_nil ?_
      rintro _ ⟨p, rfl⟩
      replace H := H.call p.below
      clear k0 k1
      generalize p.w = w3 at *
      go_wp2
      go_ret
      exact ⟨rfl, H.below⟩
    · subst c1
      rw [show (decide (q1 = q1) && decide (q2 = y)) = false by simp [c2]]
      have c2' : (q2 == y) = false := by simp [c2]
      go_enter Tryd.func155, Tryd.ntmps155
      go_wp2_with fail
      rw [← hW]
      clear hW
      have k0 := fun p : Over W => H.over (b := w.heap.size) (o := 0) (v := .int .i64 q1) (by simp) p
      have k1 := fun p : Over W => H.over (b := w.heap.size) (o := 1) (v := .int .i64 y) (by simp) p
      refine wp_region_over (by kernel_rfl) (by kernel_rfl) ?_
      repeat (go_big_quiet_step (first | (go_at_call 147; rename_i p; refine (hm _).mono ?_; rintro e' w' ⟨rfl, hb1⟩; exact ⟨rfl, p.next hb1⟩)))
      refine wpQuiet_nil ?_
      rintro _ ⟨p, rfl⟩
      replace H := H.call p.below
      clear k0 k1
      generalize p.w = w3 at *
      go_wp2
      go_ret
      exact ⟨rfl, H.below⟩
  · rw [show (decide (q1 = x) && decide (q2 = y)) = false by simp [c1]]
    have c1' : (q1 == x) = false := by simp [c1]
    go_enter Tryd.func155, Tryd.ntmps155
    go_wp2_with fail
    rw [← hW]
    clear hW
    have k0 := fun p : Over W => H.over (b := w.heap.size) (o := 0) (v := .int .i64 x) (by simp) p
    have k1 := fun p : Over W => H.over (b := w.heap.size) (o := 1) (v := .int .i64 y) (by simp) p
    refine wp_region_over (by kernel_rfl) (by kernel_rfl) ?_
    repeat (go_big_quiet_step (first | (go_at_call 147; rename_i p; refine (hm _).mono ?_; rintro e' w' ⟨rfl, hb1⟩; exact ⟨rfl, p.next hb1⟩)))
    refine wpQuiet_nil ?_
    rintro _ ⟨p, rfl⟩
    replace H := H.call p.below
    clear k0 k1
    generalize p.w = w3 at *
    go_wp2
    go_ret
    exact ⟨rfl, H.below⟩
set_option maxRecDepth 100000 in
set_option maxHeartbeats 4000000 in
theorem iRestHas_xy (x y v : Int) (w : World) :
    Calls Tryd.prog 78 #[.agg #[.int .i64 x, .int .i64 y], .int .i64 v] w fun e w' => e = .returned (.bool (qHas (x, y) v)) ∧ Below w.heap.size w w' := by
  obtain ⟨W, hW, H⟩ := Hd.one w (.int .i64 x) (.int .i64 y) 26
  cases h : qOk (x, y)
  · have e : qHas (x, y) v = false := by unfold qHas; rw [h]; rfl
    rw [e]
    go_enter Tryd.func78, Tryd.ntmps78
    go_wp2_with fail
    rw [← hW]
    clear hW
    have c0 := H.get (b := w.heap.size) (o := 0) (v := .int .i64 x) (by simp)
    have c1 := H.get (b := w.heap.size) (o := 1) (v := .int .i64 y) (by simp)
    go_wp2_with (first | (go_at_call 77; refine (iRestOk_xy _ _ _).mono ?_; rintro e w' ⟨rfl, hb⟩; rw [h]; replace H := H.call hb; clear hb; have c0 := H.get (b := w.heap.size) (o := 0) (v := .int .i64 x) (by simp); have c1 := H.get (b := w.heap.size) (o := 1) (v := .int .i64 y) (by simp)))
    go_ret
    exact ⟨rfl, H.below⟩
  · cases h2 : okB v
    · have e : qHas (x, y) v = false := by unfold qHas; rw [h, h2]; rfl
      rw [e]
      go_enter Tryd.func78, Tryd.ntmps78
      go_wp2_with fail
      rw [← hW]
      clear hW
      have c0 := H.get (b := w.heap.size) (o := 0) (v := .int .i64 x) (by simp)
      have c1 := H.get (b := w.heap.size) (o := 1) (v := .int .i64 y) (by simp)
      go_wp2_with (first | (go_at_call 77; refine (iRestOk_xy _ _ _).mono ?_; rintro e w' ⟨rfl, hb⟩; rw [h]; replace H := H.call hb; clear hb; have c0 := H.get (b := w.heap.size) (o := 0) (v := .int .i64 x) (by simp); have c1 := H.get (b := w.heap.size) (o := 1) (v := .int .i64 y) (by simp)) | (go_at_call 132; refine (implOk_any _ _).mono ?_; rintro e w' ⟨rfl, rfl⟩; rw [h2]))
      go_ret
      exact ⟨rfl, H.below⟩
    · have hx : 0 ≤ x ∧ x ≤ 65536 := by rw [qOk_iff] at h; simp only at h; omega
      rw [hasQ_eq h h2]
      go_enter Tryd.func78, Tryd.ntmps78
      go_wp2_with fail
      rw [← hW]
      clear hW
      have c0 := H.get (b := w.heap.size) (o := 0) (v := .int .i64 x) (by simp)
      have c1 := H.get (b := w.heap.size) (o := 1) (v := .int .i64 y) (by simp)
      go_wp2_with (first | (go_at_call 77; refine (iRestOk_xy _ _ _).mono ?_; rintro e w' ⟨rfl, hb⟩; rw [h]; replace H := H.call hb; clear hb; have c0 := H.get (b := w.heap.size) (o := 0) (v := .int .i64 x) (by simp); have c1 := H.get (b := w.heap.size) (o := 1) (v := .int .i64 y) (by simp)) | (go_at_call 132; refine (implOk_any _ _).mono ?_; rintro e w' ⟨rfl, rfl⟩; rw [h2]) | (go_at_call 155; refine (restHas_xy _ _ _ hx _).mono ?_; rintro e w' ⟨rfl, hb⟩; replace H := H.call hb; clear hb))
      go_ret
      exact ⟨rfl, H.below⟩
end Go.Proofs.YthbbgkpkijlclaaDoor.num
