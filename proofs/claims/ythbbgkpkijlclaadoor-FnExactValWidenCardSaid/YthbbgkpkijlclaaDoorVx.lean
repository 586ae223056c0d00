/-
  The program's RestJoin, RestIn of rests that are in order: no variable is read.
-/
import Derived.Test.YthbbgkpkijlclaaDoorVc
import Derived.Test.YthbbgkpkijlclaaDoorUe
import Derived.Test.YthbbgkpkijlclaaDoorHq
namespace Go.Proofs.YthbbgkpkijlclaaDoor.num
open Go.ChangeShapes Go.WideShapes Go.ChangeAt Go.RowKit
set_option linter.unusedVariables false

set_option maxRecDepth 100000 in
set_option maxHeartbeats 4000000 in
theorem iRestJoin_ok (x y x2 y2 : Int) (h : qOk (x, y) = true) (h2 : qOk (x2, y2) = true) (w : World) :
    Calls Tryd.prog 71 #[.agg #[.int .i64 x, .int .i64 y], .agg #[.int .i64 x2, .int .i64 y2]] w fun e w' => e = .returned (.agg #[.int .i64 (join9 (x, y) (x2, y2)).1, .int .i64 (join9 (x, y) (x2, y2)).2]) ∧ Below w.heap.size w w' := by
  obtain ⟨W, hW, H⟩ := Hd.three w (.int .i64 x) (.int .i64 y) (.int .i64 x2) (.int .i64 y2) (.int .i64 0) (.int .i64 0) 26 26 26
  have hx := (qOk_iff _).1 h
  have hx2 := (qOk_iff _).1 h2
  simp only at hx hx2
  have b1 : -9223372036854775807 ≤ x ∧ x ≤ 9223372036854775807 := by omega
  have b2 : -9223372036854775807 ≤ x2 ∧ x2 ≤ 9223372036854775807 := by omega
  have g0 := gcd9_pos x x2
  have g1 := gcd9_bd x x2 65536 (by omega) (by omega)
  have hs : wrap64 (y - y2) = y - y2 := w64_id (by omega) (by omega)
  have hs2 : IntKind.i64.wrap (y - y2) = y - y2 := IntWalk.i64_in _ ⟨by omega, by omega⟩
  have e : join9 (x, y) (x2, y2) = make9 (gcd9 (gcd9 x x2) (y - y2)) y := by unfold join9; rw [if_neg (by simp [h, h2])]
  rw [e]
  have kk0 : 0 ≤ gcd9 (gcd9 x x2) (y - y2) := gcd9_pos _ _
  have kk1 : gcd9 (gcd9 x x2) (y - y2) ≤ 4611686018427387904 := gcd9_bd _ _ _ (by omega) (by omega)
  have bd : -9223372036854775807 ≤ y - y2 ∧ y - y2 ≤ 9223372036854775807 := by omega
  clear g0 g1
  generalize h1 : gcd9 (gcd9 x x2) (y - y2) = k at *
  have hm3 : ∀ w1 : World, Calls Tryd.prog 147 #[.int .i64 y, .int .i64 k] w1 fun e w' => e = .returned (.agg #[.int .i64 (make9 k y).1, .int .i64 (make9 k y).2]) ∧ Below w1.heap.size w1 w' := fun w1 => restOf_any y k kk0 kk1 w1
  generalize make9 k y = q at *
  go_enter Tryd.func71, Tryd.ntmps71
  go_wp2_with fail
  rw [← hW]
  clear hW
  have c0 := H.get (b := w.heap.size) (o := 0) (v := .int .i64 x) (by simp)
  have c1 := H.get (b := w.heap.size) (o := 1) (v := .int .i64 y) (by simp)
  have c2 := H.get (b := w.heap.size + 1) (o := 0) (v := .int .i64 x2) (by simp)
  have c3 := H.get (b := w.heap.size + 1) (o := 1) (v := .int .i64 y2) (by simp)
  have c4 := H.get (b := w.heap.size + 2) (o := 0) (v := .int .i64 0) (by simp)
  have c5 := H.get (b := w.heap.size + 2) (o := 1) (v := .int .i64 0) (by simp)
  have z0 := H.fz (b := w.heap.size + 2) (o := 0) (v := .int .i64 0) (by simp)
  have z1 := H.fz (b := w.heap.size + 2) (o := 1) (v := .int .i64 0) (by simp)
  go_wp2_with (go_at_call 77; refine (iRestOk_xy _ _ _).mono ?_; rintro e w' ⟨rfl, hb⟩; (first | rw [h] | rw [h2]); replace H := H.call hb; have c0 := H.get (b := w.heap.size) (o := 0) (v := .int .i64 x) (by simp); have c1 := H.get (b := w.heap.size) (o := 1) (v := .int .i64 y) (by simp); have c2 := H.get (b := w.heap.size + 1) (o := 0) (v := .int .i64 x2) (by simp); have c3 := H.get (b := w.heap.size + 1) (o := 1) (v := .int .i64 y2) (by simp); have c4 := H.get (b := w.heap.size + 2) (o := 0) (v := .int .i64 0) (by simp); have c5 := H.get (b := w.heap.size + 2) (o := 1) (v := .int .i64 0) (by simp); have z0 := H.fz (b := w.heap.size + 2) (o := 0) (v := .int .i64 0) (by simp); have z1 := H.fz (b := w.heap.size + 2) (o := 1) (v := .int .i64 0) (by simp))
  have l0 := H.lt (b := w.heap.size) (o := 0) (v := .int .i64 x) (by simp)
  have l1 := H.lt (b := w.heap.size + 1) (o := 0) (v := .int .i64 x2) (by simp)
  have l2 := H.lt (b := w.heap.size + 2) (o := 0) (v := .int .i64 0) (by simp)
  go_region_held3 (fun w' => w'.cell? ⟨w.heap.size, 0, none⟩ = some (.int .i64 x) ∧ w'.cell? ⟨w.heap.size, 1, none⟩ = some (.int .i64 y) ∧ w'.cell? ⟨w.heap.size + 1, 0, none⟩ = some (.int .i64 x2) ∧ w'.cell? ⟨w.heap.size + 1, 1, none⟩ = some (.int .i64 y2)) (first | exact ⟨c0, c1, c2, c3⟩ | (simp [go_sem, *]; done)) (first | (go_at_call 148; refine (iGcd_three _ x x2 (y - y2) _ (by simp [go_sem]) (by simp [go_sem]) (by simp [go_sem]) (by simp [go_sem]) b1 b2 bd).mono ?_; rintro e w' ⟨rfl, hb⟩; rw [h1]; (first | (replace H := H.call hb) | (replace H := (H.drewN 1).call hb) | (replace H := (H.alloc _).call hb) | (replace H := ((H.alloc _).drewN 1).call hb) | (replace H := ((H.drewN 1).alloc _).call hb)); clear hb; have c0 := H.get (b := w.heap.size) (o := 0) (v := .int .i64 x) (by simp); have c1 := H.get (b := w.heap.size) (o := 1) (v := .int .i64 y) (by simp); have c2 := H.get (b := w.heap.size + 1) (o := 0) (v := .int .i64 x2) (by simp); have c3 := H.get (b := w.heap.size + 1) (o := 1) (v := .int .i64 y2) (by simp); have c4 := H.get (b := w.heap.size + 2) (o := 0) (v := .int .i64 0) (by simp); have c5 := H.get (b := w.heap.size + 2) (o := 1) (v := .int .i64 0) (by simp); have z0 := H.fz (b := w.heap.size + 2) (o := 0) (v := .int .i64 0) (by simp); have z1 := H.fz (b := w.heap.size + 2) (o := 1) (v := .int .i64 0) (by simp); have l0 := H.lt (b := w.heap.size) (o := 0) (v := .int .i64 x) (by simp); have l1 := H.lt (b := w.heap.size + 1) (o := 0) (v := .int .i64 x2) (by simp); have l2 := H.lt (b := w.heap.size + 2) (o := 0) (v := .int .i64 0) (by simp)) | (go_at_call 147; refine (hm3 _).mono ?_; rintro e w' ⟨rfl, hb⟩; (first | (replace H := H.call hb) | (replace H := (H.drewN 1).call hb) | (replace H := (H.alloc _).call hb) | (replace H := ((H.alloc _).drewN 1).call hb) | (replace H := ((H.drewN 1).alloc _).call hb)); clear hb; have c0 := H.get (b := w.heap.size) (o := 0) (v := .int .i64 x) (by simp); have c1 := H.get (b := w.heap.size) (o := 1) (v := .int .i64 y) (by simp); have c2 := H.get (b := w.heap.size + 1) (o := 0) (v := .int .i64 x2) (by simp); have c3 := H.get (b := w.heap.size + 1) (o := 1) (v := .int .i64 y2) (by simp); have c4 := H.get (b := w.heap.size + 2) (o := 0) (v := .int .i64 0) (by simp); have c5 := H.get (b := w.heap.size + 2) (o := 1) (v := .int .i64 0) (by simp); have z0 := H.fz (b := w.heap.size + 2) (o := 0) (v := .int .i64 0) (by simp); have z1 := H.fz (b := w.heap.size + 2) (o := 1) (v := .int .i64 0) (by simp); have l0 := H.lt (b := w.heap.size) (o := 0) (v := .int .i64 x) (by simp); have l1 := H.lt (b := w.heap.size + 1) (o := 0) (v := .int .i64 x2) (by simp); have l2 := H.lt (b := w.heap.size + 2) (o := 0) (v := .int .i64 0) (by simp)))
  all_goals
    go_wp2_with fail
    obtain ⟨f0, f1, fb⟩ := H.fill (b := w.heap.size + 2) (x := .int .i64 0) (y := .int .i64 0) (by simp) (by simp) (by omega) (.int .i64 q.1) (.int .i64 q.2)
    refine bodyPost_ret (results_two rfl _ _ (w.heap.size + 2) (.int .i64 q.1) (.int .i64 q.2) _ rfl f0 f1 Tryd.underlying26 rfl (by kernel_rfl)) rfl ?_
    exact ⟨rfl, fb⟩
set_option maxRecDepth 100000 in
set_option maxHeartbeats 4000000 in
theorem iRestIn_ok (x y x2 y2 : Int) (h : qOk (x, y) = true) (h2 : qOk (x2, y2) = true) (w : World) :
    Calls Tryd.prog 76 #[.agg #[.int .i64 x, .int .i64 y], .agg #[.int .i64 x2, .int .i64 y2]] w fun e w' => e = .returned (.bool (in9 (x, y) (x2, y2))) ∧ Below w.heap.size w w' := by
  obtain ⟨W, hW, H⟩ := Hd.two w (.int .i64 x) (.int .i64 y) (.int .i64 x2) (.int .i64 y2) 26 26
  have e : in9 (x, y) (x2, y2) = decide (join9 (x, y) (x2, y2) = (x2, y2)) := (in9_join h h2).symm
  rw [e]
  have hj : ∀ p : Over W, Calls Tryd.prog 71 #[.agg #[.int .i64 x, .int .i64 y], .agg #[.int .i64 x2, .int .i64 y2]] p.w fun e w' => e = .returned (.agg #[.int .i64 (join9 (x, y) (x2, y2)).1, .int .i64 (join9 (x, y) (x2, y2)).2]) ∧ Below p.w.heap.size p.w w' := fun p => iRestJoin_ok x y x2 y2 h h2 p.w
  generalize join9 (x, y) (x2, y2) = q at *
  obtain ⟨q1, q2⟩ := q
  simp only at hj
  clear e
  by_cases e1 : q1 = x2
  · subst e1
    by_cases e2 : q2 = y2
    · subst e2
      rw [show decide (((q1, q2) : T9) = (q1, q2)) = true by simp]
      go_enter Tryd.func76, Tryd.ntmps76
      go_wp2_with fail
      rw [← hW]
      clear hW
      have c0 := H.get (b := w.heap.size) (o := 0) (v := .int .i64 x) (by simp)
      have c1 := H.get (b := w.heap.size) (o := 1) (v := .int .i64 y) (by simp)
      have c2 := H.get (b := w.heap.size + 1) (o := 0) (v := .int .i64 q1) (by simp)
      have c3 := H.get (b := w.heap.size + 1) (o := 1) (v := .int .i64 q2) (by simp)
      have k0 := fun p : Over _ => H.over (b := w.heap.size) (o := 0) (v := .int .i64 x) (by simp) p
      have k1 := fun p : Over _ => H.over (b := w.heap.size) (o := 1) (v := .int .i64 y) (by simp) p
      have k2 := fun p : Over _ => H.over (b := w.heap.size + 1) (o := 0) (v := .int .i64 q1) (by simp) p
      have k3 := fun p : Over _ => H.over (b := w.heap.size + 1) (o := 1) (v := .int .i64 q2) (by simp) p
      refine wp_region_over (by kernel_rfl) (by kernel_rfl) ?_
      repeat (go_big_quiet_step (first | (go_at_call 77; rename_i p; refine (iRestOk_xy _ _ _).mono ?_; rintro e' w' ⟨rfl, hb1⟩; exact ⟨by first | rw [h] | rw [h2], p.next hb1⟩) | (go_at_call 71; rename_i p; refine (hj p).mono ?_; rintro e' w' ⟨rfl, hb1⟩; exact ⟨rfl, p.next hb1⟩)))
      refine wpQuiet_nil ?_
      rintro _ ⟨p, rfl⟩
      replace H := H.call p.below
      clear k0 k1 k2 k3
      generalize p.w = w3 at *
      go_wp2
      go_ret
      exact ⟨rfl, H.below⟩
    · rw [show decide (((q1, q2) : T9) = (q1, y2)) = false by simp [e2]]
      have e2' : (q2 == y2) = false := by simp [e2]
      go_enter Tryd.func76, Tryd.ntmps76
      go_wp2_with fail
      rw [← hW]
      clear hW
      have c0 := H.get (b := w.heap.size) (o := 0) (v := .int .i64 x) (by simp)
      have c1 := H.get (b := w.heap.size) (o := 1) (v := .int .i64 y) (by simp)
      have c2 := H.get (b := w.heap.size + 1) (o := 0) (v := .int .i64 q1) (by simp)
      have c3 := H.get (b := w.heap.size + 1) (o := 1) (v := .int .i64 y2) (by simp)
      have k0 := fun p : Over _ => H.over (b := w.heap.size) (o := 0) (v := .int .i64 x) (by simp) p
      have k1 := fun p : Over _ => H.over (b := w.heap.size) (o := 1) (v := .int .i64 y) (by simp) p
      have k2 := fun p : Over _ => H.over (b := w.heap.size + 1) (o := 0) (v := .int .i64 q1) (by simp) p
      have k3 := fun p : Over _ => H.over (b := w.heap.size + 1) (o := 1) (v := .int .i64 y2) (by simp) p
      refine wp_region_over (by kernel_rfl) (by kernel_rfl) ?_
      repeat (go_big_quiet_step (first | (go_at_call 77; rename_i p; refine (iRestOk_xy _ _ _).mono ?_; rintro e' w' ⟨rfl, hb1⟩; exact ⟨by first | rw [h] | rw [h2], p.next hb1⟩) | (go_at_call 71; rename_i p; refine (hj p).mono ?_; rintro e' w' ⟨rfl, hb1⟩; exact ⟨rfl, p.next hb1⟩)))
      refine wpQuiet_nil ?_
      rintro _ ⟨p, rfl⟩
      replace H := H.call p.below
      clear k0 k1 k2 k3
      generalize p.w = w3 at *
      go_wp2
      go_ret
      exact ⟨rfl, H.below⟩
  · rw [show decide (((q1, q2) : T9) = (x2, y2)) = false by simp [e1]]
    have e1' : (q1 == x2) = false := by simp [e1]
    go_enter Tryd.func76, Tryd.ntmps76
    go_wp2_with fail
    rw [← hW]
    clear hW
    have c0 := H.get (b := w.heap.size) (o := 0) (v := .int .i64 x) (by simp)
    have c1 := H.get (b := w.heap.size) (o := 1) (v := .int .i64 y) (by simp)
    have c2 := H.get (b := w.heap.size + 1) (o := 0) (v := .int .i64 x2) (by simp)
    have c3 := H.get (b := w.heap.size + 1) (o := 1) (v := .int .i64 y2) (by simp)
    have k0 := fun p : Over _ => H.over (b := w.heap.size) (o := 0) (v := .int .i64 x) (by simp) p
    have k1 := fun p : Over _ => H.over (b := w.heap.size) (o := 1) (v := .int .i64 y) (by simp) p
    have k2 := fun p : Over _ => H.over (b := w.heap.size + 1) (o := 0) (v := .int .i64 x2) (by simp) p
    have k3 := fun p : Over _ => H.over (b := w.heap.size + 1) (o := 1) (v := .int .i64 y2) (by simp) p
    refine wp_region_over (by kernel_rfl) (by kernel_rfl) ?_
    repeat (go_big_quiet_step (first | (go_at_call 77; rename_i p; refine (iRestOk_xy _ _ _).mono ?_; rintro e' w' ⟨rfl, hb1⟩; exact ⟨by first | rw [h] | rw [h2], p.next hb1⟩) | (go_at_call 71; rename_i p; refine (hj p).mono ?_; rintro e' w' ⟨rfl, hb1⟩; exact ⟨rfl, p.next hb1⟩)))
    refine wpQuiet_nil ?_
    rintro _ ⟨p, rfl⟩
    replace H := H.call p.below
    clear k0 k1 k2 k3
    generalize p.w = w3 at *
    go_wp2
    go_ret
    exact ⟨rfl, H.below⟩
end Go.Proofs.YthbbgkpkijlclaaDoor.num
