/-
  The functions that restOperator tells of: products, shifts.
-/
import Derived.Test.YtjpiihjgbllieaaDoorXd
namespace Go.Proofs.YtjpiihjgbllieaaDoor.num
open Go.ChangeShapes Go.WideShapes Go.ChangeAt Go.RowKit
set_option linter.unusedVariables false

set_option maxRecDepth 100000 in
set_option maxHeartbeats 4000000 in
theorem prodR_zero (wd x y x2 y2 : Int) (w : World) (h : qOk (x, y) = true) (h2 : qOk (x2, y2) = true) (hz : apart9 (x, y) (x2, y2) = 0) :
    Calls Tryd.prog 135 #[.agg #[.int .i64 x, .int .i64 y], .agg #[.int .i64 x2, .int .i64 y2], .int .i64 wd] w fun e w' => e = .returned (.agg #[.int .i64 0, .int .i64 0]) ∧ Below w.heap.size w w' := by
  obtain ⟨W, hW, H⟩ := Hd.three w (.int .i64 x) (.int .i64 y) (.int .i64 x2) (.int .i64 y2) (.int .i64 0) (.int .i64 0) 24 24 24
  have hx := (qOk_iff _).1 h
  have hx2 := (qOk_iff _).1 h2
  simp only at hx hx2
  obtain ⟨a1, a2⟩ := mul_bd x x2 ⟨by omega, by omega⟩ ⟨by omega, by omega⟩
  obtain ⟨a3, a4⟩ := mul_bd x y2 ⟨by omega, by omega⟩ ⟨by omega, by omega⟩
  obtain ⟨a5, a6⟩ := mul_bd x2 y ⟨by omega, by omega⟩ ⟨by omega, by omega⟩
  obtain ⟨a7, a8⟩ := mul_bd y y2 ⟨by omega, by omega⟩ ⟨by omega, by omega⟩
  have w1 : wrap64 (x * x2) = x * x2 := w64_id (by omega) (by omega)
  have w2 : wrap64 (x * y2) = x * y2 := w64_id (by omega) (by omega)
  have w3 : wrap64 (x2 * y) = x2 * y := w64_id (by omega) (by omega)
  have w4 : wrap64 (y * y2) = y * y2 := w64_id (by omega) (by omega)
  have w5 : IntKind.i64.wrap (y * y2) = y * y2 := IntWalk.i64_in _ ⟨by omega, by omega⟩
  have g2 := gcd9_pos (gcd9 (x * x2) (x * y2)) (x2 * y)
  have g3 := gcd9_bd (gcd9 (x * x2) (x * y2)) (x2 * y) 4611686018427387904 (by have := gcd9_pos (x * x2) (x * y2); have := gcd9_bd (x * x2) (x * y2) 4611686018427387904 (by omega) (by omega); omega) (by omega)
  unfold apart9 at hz
  simp only at hz
  generalize h3 : gcd9 (gcd9 (x * x2) (x * y2)) (x2 * y) = k at *
  subst hz
  go_enter Tryd.func135, Tryd.ntmps135
  go_wp2_with fail
  rw [← hW]
  have hWs : W.heap.size = w.heap.size + 1 + 1 + 1 := by rw [hW]; simp
  clear hW
  have c0 := H.get (b := w.heap.size) (o := 0) (v := .int .i64 x) (by simp)
  have c1 := H.get (b := w.heap.size) (o := 1) (v := .int .i64 y) (by simp)
  have c2 := H.get (b := w.heap.size + 1) (o := 0) (v := .int .i64 x2) (by simp)
  have c3 := H.get (b := w.heap.size + 1) (o := 1) (v := .int .i64 y2) (by simp)
  have c4 := H.get (b := w.heap.size + 2) (o := 0) (v := .int .i64 0) (by simp)
  have c5 := H.get (b := w.heap.size + 2) (o := 1) (v := .int .i64 0) (by simp)
  have z0 := H.fz (b := w.heap.size + 2) (o := 0) (v := .int .i64 0) (by simp)
  have z1 := H.fz (b := w.heap.size + 2) (o := 1) (v := .int .i64 0) (by simp)
  go_wp2_with (first | (go_at_call 76; refine (iGcd_three (w.heap.size + 1 + 1 + 1) (x * x2) (x * y2) (x2 * y) _ (by rw [size_alloc1, hWs]; omega) (by rw [← hWs]; simp [go_sem]) (by rw [← hWs]; simp [go_sem]) (by rw [← hWs]; simp [go_sem]) (by omega) (by omega) (by omega)).mono ?_; rintro e w' ⟨rfl, hb⟩; rw [h3]; replace H := (H.alloc _).call hb; have c0 := H.get (b := w.heap.size) (o := 0) (v := .int .i64 x) (by simp); have c1 := H.get (b := w.heap.size) (o := 1) (v := .int .i64 y) (by simp); have c2 := H.get (b := w.heap.size + 1) (o := 0) (v := .int .i64 x2) (by simp); have c3 := H.get (b := w.heap.size + 1) (o := 1) (v := .int .i64 y2) (by simp); have c4 := H.get (b := w.heap.size + 2) (o := 0) (v := .int .i64 0) (by simp); have c5 := H.get (b := w.heap.size + 2) (o := 1) (v := .int .i64 0) (by simp); have z0 := H.fz (b := w.heap.size + 2) (o := 0) (v := .int .i64 0) (by simp); have z1 := H.fz (b := w.heap.size + 2) (o := 1) (v := .int .i64 0) (by simp)))
  obtain ⟨f0, f1, fb⟩ := H.fill (b := w.heap.size + 2) (x := .int .i64 0) (y := .int .i64 0) (by simp) (by simp) (by omega) (.int .i64 0) (.int .i64 0)
  refine bodyPost_ret (results_two rfl _ _ (w.heap.size + 2) (.int .i64 0) (.int .i64 0) _ rfl f0 f1 Tryd.underlying24 rfl (by kernel_rfl)) rfl ?_
  exact ⟨rfl, fb⟩
set_option maxRecDepth 100000 in
set_option maxHeartbeats 4000000 in
theorem prodR_some (wd x y x2 y2 : Int) (w : World) (hwd : 0 ≤ wd ∧ wd ≤ 4294967296) (h : qOk (x, y) = true) (h2 : qOk (x2, y2) = true) (hz : apart9 (x, y) (x2, y2) ≠ 0) :
    Calls Tryd.prog 135 #[.agg #[.int .i64 x, .int .i64 y], .agg #[.int .i64 x2, .int .i64 y2], .int .i64 wd] w fun e w' => e = .returned (.agg #[.int .i64 (make9 (gcd9 (apart9 (x, y) (x2, y2)) wd) (y * y2)).1, .int .i64 (make9 (gcd9 (apart9 (x, y) (x2, y2)) wd) (y * y2)).2]) ∧ Below w.heap.size w w' := by
  obtain ⟨W, hW, H⟩ := Hd.three w (.int .i64 x) (.int .i64 y) (.int .i64 x2) (.int .i64 y2) (.int .i64 0) (.int .i64 0) 24 24 24
  have hx := (qOk_iff _).1 h
  have hx2 := (qOk_iff _).1 h2
  simp only at hx hx2
  obtain ⟨a1, a2⟩ := mul_bd x x2 ⟨by omega, by omega⟩ ⟨by omega, by omega⟩
  obtain ⟨a3, a4⟩ := mul_bd x y2 ⟨by omega, by omega⟩ ⟨by omega, by omega⟩
  obtain ⟨a5, a6⟩ := mul_bd x2 y ⟨by omega, by omega⟩ ⟨by omega, by omega⟩
  obtain ⟨a7, a8⟩ := mul_bd y y2 ⟨by omega, by omega⟩ ⟨by omega, by omega⟩
  have w1 : wrap64 (x * x2) = x * x2 := w64_id (by omega) (by omega)
  have w2 : wrap64 (x * y2) = x * y2 := w64_id (by omega) (by omega)
  have w3 : wrap64 (x2 * y) = x2 * y := w64_id (by omega) (by omega)
  have w4 : wrap64 (y * y2) = y * y2 := w64_id (by omega) (by omega)
  have w5 : IntKind.i64.wrap (y * y2) = y * y2 := IntWalk.i64_in _ ⟨by omega, by omega⟩
  have g2 := gcd9_pos (gcd9 (x * x2) (x * y2)) (x2 * y)
  have g3 := gcd9_bd (gcd9 (x * x2) (x * y2)) (x2 * y) 4611686018427387904 (by have := gcd9_pos (x * x2) (x * y2); have := gcd9_bd (x * x2) (x * y2) 4611686018427387904 (by omega) (by omega); omega) (by omega)
  unfold apart9 at hz ⊢
  simp only at hz ⊢
  generalize h3 : gcd9 (gcd9 (x * x2) (x * y2)) (x2 * y) = k at *
  have kk0 : 0 ≤ gcd9 k wd := gcd9_pos _ _
  have kk1 : gcd9 k wd ≤ 4611686018427387904 := gcd9_bd _ _ _ (by omega) (by omega)
  have hk1 : (k == 0) = false := by simp [hz]
  generalize h5 : gcd9 k wd = m at *
  have hm3 : ∀ w1 : World, Calls Tryd.prog 74 #[.int .i64 (y * y2), .int .i64 m] w1 fun e w' => e = .returned (.agg #[.int .i64 (make9 m (y * y2)).1, .int .i64 (make9 m (y * y2)).2]) ∧ Below w1.heap.size w1 w' := fun w1 => restOf_any (y * y2) m kk0 kk1 w1
  generalize make9 m (y * y2) = q at *
  go_enter Tryd.func135, Tryd.ntmps135
  go_wp2_with fail
  rw [← hW]
  have hWs : W.heap.size = w.heap.size + 1 + 1 + 1 := by rw [hW]; simp
  clear hW
  have c0 := H.get (b := w.heap.size) (o := 0) (v := .int .i64 x) (by simp)
  have c1 := H.get (b := w.heap.size) (o := 1) (v := .int .i64 y) (by simp)
  have c2 := H.get (b := w.heap.size + 1) (o := 0) (v := .int .i64 x2) (by simp)
  have c3 := H.get (b := w.heap.size + 1) (o := 1) (v := .int .i64 y2) (by simp)
  have c4 := H.get (b := w.heap.size + 2) (o := 0) (v := .int .i64 0) (by simp)
  have c5 := H.get (b := w.heap.size + 2) (o := 1) (v := .int .i64 0) (by simp)
  have z0 := H.fz (b := w.heap.size + 2) (o := 0) (v := .int .i64 0) (by simp)
  have z1 := H.fz (b := w.heap.size + 2) (o := 1) (v := .int .i64 0) (by simp)
  go_wp2_with (first | (go_at_call 76; refine (iGcd_three (w.heap.size + 1 + 1 + 1) (x * x2) (x * y2) (x2 * y) _ (by rw [size_alloc1, hWs]; omega) (by rw [← hWs]; simp [go_sem]) (by rw [← hWs]; simp [go_sem]) (by rw [← hWs]; simp [go_sem]) (by omega) (by omega) (by omega)).mono ?_; rintro e w' ⟨rfl, hb⟩; rw [h3]; replace H := (H.alloc _).call hb; have c0 := H.get (b := w.heap.size) (o := 0) (v := .int .i64 x) (by simp); have c1 := H.get (b := w.heap.size) (o := 1) (v := .int .i64 y) (by simp); have c2 := H.get (b := w.heap.size + 1) (o := 0) (v := .int .i64 x2) (by simp); have c3 := H.get (b := w.heap.size + 1) (o := 1) (v := .int .i64 y2) (by simp); have c4 := H.get (b := w.heap.size + 2) (o := 0) (v := .int .i64 0) (by simp); have c5 := H.get (b := w.heap.size + 2) (o := 1) (v := .int .i64 0) (by simp); have z0 := H.fz (b := w.heap.size + 2) (o := 0) (v := .int .i64 0) (by simp); have z1 := H.fz (b := w.heap.size + 2) (o := 1) (v := .int .i64 0) (by simp)))
  have l0 := H.lt (b := w.heap.size) (o := 0) (v := .int .i64 x) (by simp)
  have l1 := H.lt (b := w.heap.size + 1) (o := 0) (v := .int .i64 x2) (by simp)
  have l2 := H.lt (b := w.heap.size + 2) (o := 0) (v := .int .i64 0) (by simp)
  go_region_held3 (fun w' => w'.cell? ⟨w.heap.size, 0, none⟩ = some (.int .i64 x) ∧ w'.cell? ⟨w.heap.size, 1, none⟩ = some (.int .i64 y) ∧ w'.cell? ⟨w.heap.size + 1, 0, none⟩ = some (.int .i64 x2) ∧ w'.cell? ⟨w.heap.size + 1, 1, none⟩ = some (.int .i64 y2)) (first | exact ⟨c0, c1, c2, c3⟩ | (simp [go_sem, *]; done)) (first | (go_at_call 76; refine (iGcd_two _ k wd _ (by simp [go_sem]) (by simp [go_sem]) (by simp [go_sem]) (by omega) (by omega)).mono ?_; rintro e w' ⟨rfl, hb⟩; rw [h5]; (first | (replace H := H.call hb) | (replace H := (H.drewN 1).call hb) | (replace H := (H.alloc _).call hb) | (replace H := ((H.alloc _).drewN 1).call hb) | (replace H := ((H.drewN 1).alloc _).call hb)); clear hb; have c0 := H.get (b := w.heap.size) (o := 0) (v := .int .i64 x) (by simp); have c1 := H.get (b := w.heap.size) (o := 1) (v := .int .i64 y) (by simp); have c2 := H.get (b := w.heap.size + 1) (o := 0) (v := .int .i64 x2) (by simp); have c3 := H.get (b := w.heap.size + 1) (o := 1) (v := .int .i64 y2) (by simp); have c4 := H.get (b := w.heap.size + 2) (o := 0) (v := .int .i64 0) (by simp); have c5 := H.get (b := w.heap.size + 2) (o := 1) (v := .int .i64 0) (by simp); have z0 := H.fz (b := w.heap.size + 2) (o := 0) (v := .int .i64 0) (by simp); have z1 := H.fz (b := w.heap.size + 2) (o := 1) (v := .int .i64 0) (by simp); have l0 := H.lt (b := w.heap.size) (o := 0) (v := .int .i64 x) (by simp); have l1 := H.lt (b := w.heap.size + 1) (o := 0) (v := .int .i64 x2) (by simp); have l2 := H.lt (b := w.heap.size + 2) (o := 0) (v := .int .i64 0) (by simp)) | (go_at_call 74; refine (hm3 _).mono ?_; rintro e w' ⟨rfl, hb⟩; (first | (replace H := H.call hb) | (replace H := (H.drewN 1).call hb) | (replace H := (H.alloc _).call hb) | (replace H := ((H.alloc _).drewN 1).call hb) | (replace H := ((H.drewN 1).alloc _).call hb)); clear hb; have c0 := H.get (b := w.heap.size) (o := 0) (v := .int .i64 x) (by simp); have c1 := H.get (b := w.heap.size) (o := 1) (v := .int .i64 y) (by simp); have c2 := H.get (b := w.heap.size + 1) (o := 0) (v := .int .i64 x2) (by simp); have c3 := H.get (b := w.heap.size + 1) (o := 1) (v := .int .i64 y2) (by simp); have c4 := H.get (b := w.heap.size + 2) (o := 0) (v := .int .i64 0) (by simp); have c5 := H.get (b := w.heap.size + 2) (o := 1) (v := .int .i64 0) (by simp); have z0 := H.fz (b := w.heap.size + 2) (o := 0) (v := .int .i64 0) (by simp); have z1 := H.fz (b := w.heap.size + 2) (o := 1) (v := .int .i64 0) (by simp); have l0 := H.lt (b := w.heap.size) (o := 0) (v := .int .i64 x) (by simp); have l1 := H.lt (b := w.heap.size + 1) (o := 0) (v := .int .i64 x2) (by simp); have l2 := H.lt (b := w.heap.size + 2) (o := 0) (v := .int .i64 0) (by simp)))
  all_goals
    go_wp2_with fail
    obtain ⟨f0, f1, fb⟩ := H.fill (b := w.heap.size + 2) (x := .int .i64 0) (y := .int .i64 0) (by simp) (by simp) (by omega) (.int .i64 q.1) (.int .i64 q.2)
    refine bodyPost_ret (results_two rfl _ _ (w.heap.size + 2) (.int .i64 q.1) (.int .i64 q.2) _ rfl f0 f1 Tryd.underlying24 rfl (by kernel_rfl)) rfl ?_
    exact ⟨rfl, fb⟩
set_option maxRecDepth 100000 in
set_option maxHeartbeats 4000000 in
theorem mulR_xy (c : Nat) (wd x y x2 y2 : Int) (w : World) (hc : w.cell? ⟨c, 0, none⟩ = some (.int .i64 wd)) (hcl : c < w.heap.size) (q : T9)
    (hp : ∀ w1 : World, Calls Tryd.prog 135 #[.agg #[.int .i64 x, .int .i64 y], .agg #[.int .i64 x2, .int .i64 y2], .int .i64 wd] w1 fun e w' => e = .returned (.agg #[.int .i64 q.1, .int .i64 q.2]) ∧ Below w1.heap.size w1 w') :
    Calls Tryd.prog 134 #[.agg #[.int .i64 x, .int .i64 y], .agg #[.int .i64 x2, .int .i64 y2], .pointer (some ⟨c, 0, none⟩)] w fun e w' => e = .returned (.agg #[.int .i64 q.1, .int .i64 q.2]) ∧ Below w.heap.size w w' := by
  have hl1 : c < w.heap.size + 1 := by omega
  have hl2 : c < w.heap.size + 1 + 1 := by omega
  obtain ⟨W, hW, H⟩ := Hd.three w (.int .i64 x) (.int .i64 y) (.int .i64 x2) (.int .i64 y2) (.int .i64 0) (.int .i64 0) 24 24 24
  go_enter Tryd.func134, Tryd.ntmps134
  go_wp2_with (go_at_call 135; rw [← hW]; refine (hp _).mono ?_; rintro e w' ⟨rfl, hb⟩; replace H := H.call hb; have c0 := H.get (b := w.heap.size) (o := 0) (v := .int .i64 x) (by simp); have c1 := H.get (b := w.heap.size) (o := 1) (v := .int .i64 y) (by simp); have c2 := H.get (b := w.heap.size + 1) (o := 0) (v := .int .i64 x2) (by simp); have c3 := H.get (b := w.heap.size + 1) (o := 1) (v := .int .i64 y2) (by simp); have c4 := H.get (b := w.heap.size + 2) (o := 0) (v := .int .i64 0) (by simp); have c5 := H.get (b := w.heap.size + 2) (o := 1) (v := .int .i64 0) (by simp); have z0 := H.fz (b := w.heap.size + 2) (o := 0) (v := .int .i64 0) (by simp); have z1 := H.fz (b := w.heap.size + 2) (o := 1) (v := .int .i64 0) (by simp))
  obtain ⟨f0, f1, fb⟩ := H.fill (b := w.heap.size + 2) (x := .int .i64 0) (y := .int .i64 0) (by simp) (by simp) (by omega) (.int .i64 q.1) (.int .i64 q.2)
  refine bodyPost_ret (results_two rfl _ _ (w.heap.size + 2) (.int .i64 q.1) (.int .i64 q.2) _ rfl f0 f1 Tryd.underlying24 rfl (by kernel_rfl)) rfl ?_
  exact ⟨rfl, fb⟩
end Go.Proofs.YtjpiihjgbllieaaDoor.num
