/-
  The program's meetFine.
-/
import Derived.Test.YthbbgkpkijlclaaUj
namespace Go.Proofs.Ythbbgkpkijlclaa.num
open Go.ChangeShapes Go.WideShapes Go.ChangeAt Go.RowKit
set_option linter.unusedVariables false

set_option maxRecDepth 100000 in
set_option maxHeartbeats 4000000 in
theorem fine_apart (x y x2 y2 : Int) (hz : x ≠ 0) (hz2 : x2 ≠ 0) (h : qOk (x, y) = true) (h2 : qOk (x2, y2) = true) (hd : (y - y2) % gcd9 x x2 ≠ 0) (w : World) :
    Calls Try.prog 20 #[.agg #[.int .i64 x, .int .i64 y], .agg #[.int .i64 x2, .int .i64 y2]] w fun e w' => e = .returned (mv9 (mf9 (x, y) (x2, y2))) ∧ Below w.heap.size w w' := by
  have e : mf9 (x, y) (x2, y2) = ((0, 0), false) := by
    unfold mf9
    rw [if_pos hd]
  rw [e]
  have hx := (qOk_iff _).1 h
  have hx2 := (qOk_iff _).1 h2
  simp only at hx hx2
  have hb1 : -9223372036854775807 ≤ x ∧ x ≤ 9223372036854775807 := by omega
  have hb2 : -9223372036854775807 ≤ x2 ∧ x2 ≤ 9223372036854775807 := by omega
  have g0 : 0 < gcd9 x x2 := gcd9_gt (.inl hz)
  have g1 : gcd9 x x2 ≤ x := gcd9_le_left _ (by omega)
  generalize hg : gcd9 x x2 = g at *
  have hg2 : g ≤ 4611686018427387904 := by omega
  have hs : wrap64 (y - y2) = y - y2 := w64_id (by omega) (by omega)
  obtain ⟨W, hW, H⟩ := Hd.three w (.int .i64 x) (.int .i64 y) (.int .i64 x2) (.int .i64 y2) (.int .i64 0) (.int .i64 0) 25 25 25
  go_enter Try.func20, Try.ntmps20
  go_wp2_with fail
  rw [← hW]
  have hWs : W.heap.size = w.heap.size + 1 + 1 + 1 := by rw [hW]; simp
  clear hW
  have c0 := H.get (b := w.heap.size) (o := 0) (v := .int .i64 x) (by simp)
  have c1 := H.get (b := w.heap.size) (o := 1) (v := .int .i64 y) (by simp)
  have c2 := H.get (b := w.heap.size + 1) (o := 0) (v := .int .i64 x2) (by simp)
  have c3 := H.get (b := w.heap.size + 1) (o := 1) (v := .int .i64 y2) (by simp)
  have c4 := H.get (b := w.heap.size + 2) (o := 0) (v := .int .i64 0) (by simp)
  have c5 := H.get (b := w.heap.size + 2) (o := 1) (v := .int .i64 0) (by simp)
  have z0 := H.fz (b := w.heap.size + 2) (o := 0) (v := .int .i64 0) (by simp)
  have z1 := H.fz (b := w.heap.size + 2) (o := 1) (v := .int .i64 0) (by simp)
  go_wp2_with (first | (go_at_call 24; replace H := H.box (.int .i64 x) (.int .i64 x2) 3; rw [hWs] at H; refine (iGcd_two (w.heap.size + 1 + 1 + 1) x x2 _ (H.lt (b := w.heap.size + 1 + 1 + 1) (o := 0) (v := .int .i64 x) (by simp)) (H.get (b := w.heap.size + 1 + 1 + 1) (o := 0) (v := .int .i64 x) (by simp)) (H.get (b := w.heap.size + 1 + 1 + 1) (o := 1) (v := .int .i64 x2) (by simp)) hb1 hb2).mono ?_; rintro e w' ⟨rfl, hb⟩; rw [hg]; replace H := (H.call hb).tail2'; have c0 := H.get (b := w.heap.size) (o := 0) (v := .int .i64 x) (by simp); have c1 := H.get (b := w.heap.size) (o := 1) (v := .int .i64 y) (by simp); have c2 := H.get (b := w.heap.size + 1) (o := 0) (v := .int .i64 x2) (by simp); have c3 := H.get (b := w.heap.size + 1) (o := 1) (v := .int .i64 y2) (by simp); have c4 := H.get (b := w.heap.size + 2) (o := 0) (v := .int .i64 0) (by simp); have c5 := H.get (b := w.heap.size + 2) (o := 1) (v := .int .i64 0) (by simp); have z0 := H.fz (b := w.heap.size + 2) (o := 0) (v := .int .i64 0) (by simp); have z1 := H.fz (b := w.heap.size + 2) (o := 1) (v := .int .i64 0) (by simp)) | (go_at_call 25; refine (modulo_any (y - y2) g g0 hg2 _).mono ?_; rintro e w' ⟨rfl, rfl⟩))
  obtain ⟨f0, f1, fb⟩ := H.fill (b := w.heap.size + 2) (x := .int .i64 0) (y := .int .i64 0) (by simp) (by simp) (by omega) (.int .i64 0) (.int .i64 0)
  refine bodyPost_ret (results_two_tmp rfl _ _ (w.heap.size + 2) (.int .i64 0) (.int .i64 0) _ rfl f0 f1 Try.underlying25 rfl (by kernel_rfl)) rfl ?_
  exact ⟨rfl, fb⟩
set_option maxRecDepth 100000 in
set_option maxHeartbeats 4000000 in
theorem fine_great (x y x2 y2 : Int) (hz : x ≠ 0) (hz2 : x2 ≠ 0) (h : qOk (x, y) = true) (h2 : qOk (x2, y2) = true) (hd : (y - y2) % gcd9 x x2 = 0) (hl : 65536 < lcm9 (x, y) (x2, y2)) (w : World) :
    Calls Try.prog 20 #[.agg #[.int .i64 x, .int .i64 y], .agg #[.int .i64 x2, .int .i64 y2]] w fun e w' => e = .returned (mv9 (mf9 (x, y) (x2, y2))) ∧ Below w.heap.size w w' := by
  have e : mf9 (x, y) (x2, y2) = ((x, y), true) := by
    unfold mf9
    rw [if_neg (by simp [hd]), if_pos hl]
  rw [e]
  unfold lcm9 at hl
  simp only at hl
  have hx := (qOk_iff _).1 h
  have hx2 := (qOk_iff _).1 h2
  simp only at hx hx2
  have hb1 : -9223372036854775807 ≤ x ∧ x ≤ 9223372036854775807 := by omega
  have hb2 : -9223372036854775807 ≤ x2 ∧ x2 ≤ 9223372036854775807 := by omega
  have g0 : 0 < gcd9 x x2 := gcd9_gt (.inl hz)
  have g1 : gcd9 x x2 ≤ x := gcd9_le_left _ (by omega)
  generalize hg : gcd9 x x2 = g at *
  have hg2 : g ≤ 4611686018427387904 := by omega
  have hs : wrap64 (y - y2) = y - y2 := w64_id (by omega) (by omega)
  obtain ⟨W, hW, H⟩ := Hd.three w (.int .i64 x) (.int .i64 y) (.int .i64 x2) (.int .i64 y2) (.int .i64 0) (.int .i64 0) 25 25 25
  have q0 : 0 ≤ x / g := Int.ediv_nonneg (by omega) (by omega)
  have q1 : x / g ≤ x := Int.ediv_le_self _ (by omega)
  have m1 : x / g * x2 ≤ 4294967296 := by
    have k : x / g * x2 ≤ 65536 * 65536 := Int.mul_le_mul (by omega) (by omega) (by omega) (by omega)
    omega
  have m3 : 0 ≤ x / g * x2 := Int.mul_nonneg (by omega) (by omega)
  have m2 : wrap64 (x / g * x2) = x / g * x2 := w64_id (by omega) (by omega)
  have m0 : x.tdiv g = x / g := Int.tdiv_eq_ediv_of_nonneg (by omega)
  go_enter Try.func20, Try.ntmps20
  go_wp2_with fail
  rw [← hW]
  have hWs : W.heap.size = w.heap.size + 1 + 1 + 1 := by rw [hW]; simp
  clear hW
  have c0 := H.get (b := w.heap.size) (o := 0) (v := .int .i64 x) (by simp)
  have c1 := H.get (b := w.heap.size) (o := 1) (v := .int .i64 y) (by simp)
  have c2 := H.get (b := w.heap.size + 1) (o := 0) (v := .int .i64 x2) (by simp)
  have c3 := H.get (b := w.heap.size + 1) (o := 1) (v := .int .i64 y2) (by simp)
  have c4 := H.get (b := w.heap.size + 2) (o := 0) (v := .int .i64 0) (by simp)
  have c5 := H.get (b := w.heap.size + 2) (o := 1) (v := .int .i64 0) (by simp)
  have z0 := H.fz (b := w.heap.size + 2) (o := 0) (v := .int .i64 0) (by simp)
  have z1 := H.fz (b := w.heap.size + 2) (o := 1) (v := .int .i64 0) (by simp)
  go_wp2_with (first | (go_at_call 24; replace H := H.box (.int .i64 x) (.int .i64 x2) 3; rw [hWs] at H; refine (iGcd_two (w.heap.size + 1 + 1 + 1) x x2 _ (H.lt (b := w.heap.size + 1 + 1 + 1) (o := 0) (v := .int .i64 x) (by simp)) (H.get (b := w.heap.size + 1 + 1 + 1) (o := 0) (v := .int .i64 x) (by simp)) (H.get (b := w.heap.size + 1 + 1 + 1) (o := 1) (v := .int .i64 x2) (by simp)) hb1 hb2).mono ?_; rintro e w' ⟨rfl, hb⟩; rw [hg]; replace H := (H.call hb).tail2'; have c0 := H.get (b := w.heap.size) (o := 0) (v := .int .i64 x) (by simp); have c1 := H.get (b := w.heap.size) (o := 1) (v := .int .i64 y) (by simp); have c2 := H.get (b := w.heap.size + 1) (o := 0) (v := .int .i64 x2) (by simp); have c3 := H.get (b := w.heap.size + 1) (o := 1) (v := .int .i64 y2) (by simp); have c4 := H.get (b := w.heap.size + 2) (o := 0) (v := .int .i64 0) (by simp); have c5 := H.get (b := w.heap.size + 2) (o := 1) (v := .int .i64 0) (by simp); have z0 := H.fz (b := w.heap.size + 2) (o := 0) (v := .int .i64 0) (by simp); have z1 := H.fz (b := w.heap.size + 2) (o := 1) (v := .int .i64 0) (by simp)) | (go_at_call 25; refine (modulo_any (y - y2) g g0 hg2 _).mono ?_; rintro e w' ⟨rfl, rfl⟩))
  have k0 := fun p : Over _ => H.over (b := w.heap.size) (o := 0) (v := .int .i64 x) (by simp) p
  have k1 := fun p : Over _ => H.over (b := w.heap.size) (o := 1) (v := .int .i64 y) (by simp) p
  have k2 := fun p : Over _ => H.over (b := w.heap.size + 1) (o := 0) (v := .int .i64 x2) (by simp) p
  have k3 := fun p : Over _ => H.over (b := w.heap.size + 1) (o := 1) (v := .int .i64 y2) (by simp) p
  refine wp_region_over (by kernel_rfl) (by kernel_rfl) ?_
  repeat (go_big_quiet_step (first | fail))
  refine wpQuiet_nil ?_
  rintro _ ⟨p, rfl⟩
  replace H := H.call p.below
  clear k0 k1 k2 k3
  generalize p.w = w3 at *
  have c0 := H.get (b := w.heap.size) (o := 0) (v := .int .i64 x) (by simp)
  have c1 := H.get (b := w.heap.size) (o := 1) (v := .int .i64 y) (by simp)
  have c2 := H.get (b := w.heap.size + 1) (o := 0) (v := .int .i64 x2) (by simp)
  have c3 := H.get (b := w.heap.size + 1) (o := 1) (v := .int .i64 y2) (by simp)
  have c4 := H.get (b := w.heap.size + 2) (o := 0) (v := .int .i64 0) (by simp)
  have c5 := H.get (b := w.heap.size + 2) (o := 1) (v := .int .i64 0) (by simp)
  have z0 := H.fz (b := w.heap.size + 2) (o := 0) (v := .int .i64 0) (by simp)
  have z1 := H.fz (b := w.heap.size + 2) (o := 1) (v := .int .i64 0) (by simp)
  go_wp2
  obtain ⟨f0, f1, fb⟩ := H.fill (b := w.heap.size + 2) (x := .int .i64 0) (y := .int .i64 0) (by simp) (by simp) (by omega) (.int .i64 x) (.int .i64 y)
  refine bodyPost_ret (results_two_tmp rfl _ _ (w.heap.size + 2) (.int .i64 x) (.int .i64 y) _ rfl f0 f1 Try.underlying25 rfl (by kernel_rfl)) rfl ?_
  exact ⟨rfl, fb⟩
end Go.Proofs.Ythbbgkpkijlclaa.num
