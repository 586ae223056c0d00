/-
  The functions that restOperator tells of: sums, differences, remainders.
-/
import Derived.Test.YtjpiihjgbllieaaDoorVd
namespace Go.Proofs.YtjpiihjgbllieaaDoor.num
open Go.ChangeShapes Go.WideShapes Go.ChangeAt Go.RowKit
set_option linter.unusedVariables false

set_option maxRecDepth 100000 in
set_option maxHeartbeats 4000000 in
theorem addR_xy (c : Nat) (wd x y x2 y2 : Int) (w : World) (hc : w.cell? ⟨c, 0, none⟩ = some (.int .i64 wd)) (hcl : c < w.heap.size) (hwd : 0 ≤ wd ∧ wd ≤ 4294967296) (h : qOk (x, y) = true) (h2 : qOk (x2, y2) = true) :
    Calls Tryd.prog 132 #[.agg #[.int .i64 x, .int .i64 y], .agg #[.int .i64 x2, .int .i64 y2], .pointer (some ⟨c, 0, none⟩)] w fun e w' => e = .returned (.agg #[.int .i64 (make9 (gcd9 (gcd9 x x2) wd) (y + y2)).1, .int .i64 (make9 (gcd9 (gcd9 x x2) wd) (y + y2)).2]) ∧ Below w.heap.size w w' := by
  obtain ⟨W, hW, H⟩ := Hd.three w (.int .i64 x) (.int .i64 y) (.int .i64 x2) (.int .i64 y2) (.int .i64 0) (.int .i64 0) 24 24 24
  have hx := (qOk_iff _).1 h
  have hx2 := (qOk_iff _).1 h2
  simp only at hx hx2
  have b1 : -9223372036854775807 ≤ x ∧ x ≤ 9223372036854775807 := by omega
  have b2 : -9223372036854775807 ≤ x2 ∧ x2 ≤ 9223372036854775807 := by omega
  have bw : -9223372036854775807 ≤ wd ∧ wd ≤ 9223372036854775807 := by omega
  have g0 := gcd9_pos x x2
  have g1 := gcd9_bd x x2 65536 (by omega) (by omega)
  have hs : wrap64 (y + y2) = y + y2 := w64_id (by omega) (by omega)
  have hs2 : IntKind.i64.wrap (y + y2) = y + y2 := IntWalk.i64_in _ ⟨by omega, by omega⟩
  have kk0 : 0 ≤ gcd9 (gcd9 x x2) wd := gcd9_pos _ _
  have kk1 : gcd9 (gcd9 x x2) wd ≤ 4611686018427387904 := gcd9_bd _ _ _ (by omega) (by omega)
  clear g0 g1
  generalize h1 : gcd9 (gcd9 x x2) wd = k at *
  have hm3 : ∀ w1 : World, Calls Tryd.prog 74 #[.int .i64 (y + y2), .int .i64 k] w1 fun e w' => e = .returned (.agg #[.int .i64 (make9 k (y + y2)).1, .int .i64 (make9 k (y + y2)).2]) ∧ Below w1.heap.size w1 w' := fun w1 => restOf_any (y + y2) k kk0 kk1 w1
  generalize make9 k (y + y2) = q at *
  go_enter Tryd.func132, Tryd.ntmps132
  go_wp2_with fail
  rw [← hW]
  clear hW
  have c0 := H.get (b := w.heap.size) (o := 0) (v := .int .i64 x) (by simp)
  have c1 := H.get (b := w.heap.size) (o := 1) (v := .int .i64 y) (by simp)
  have c2 := H.get (b := w.heap.size + 1) (o := 0) (v := .int .i64 x2) (by simp)
  have c3 := H.get (b := w.heap.size + 1) (o := 1) (v := .int .i64 y2) (by simp)
  have c4 := H.get (b := w.heap.size + 2) (o := 0) (v := .int .i64 0) (by simp)
  have c5 := H.get (b := w.heap.size + 2) (o := 1) (v := .int .i64 0) (by simp)
  have z0 := H.fz (b := w.heap.size + 2) (o := 0) (v := .int .i64 0) (by simp)
  have z1 := H.fz (b := w.heap.size + 2) (o := 1) (v := .int .i64 0) (by simp)
  have l0 := H.lt (b := w.heap.size) (o := 0) (v := .int .i64 x) (by simp)
  have l1 := H.lt (b := w.heap.size + 1) (o := 0) (v := .int .i64 x2) (by simp)
  have l2 := H.lt (b := w.heap.size + 2) (o := 0) (v := .int .i64 0) (by simp)
  have cc := (H.below.cell (p := ⟨c, 0, none⟩) hcl).trans hc
  have cl := Nat.lt_of_lt_of_le hcl H.below.size
  go_region_held3 (fun w' => w'.cell? ⟨w.heap.size, 0, none⟩ = some (.int .i64 x) ∧ w'.cell? ⟨w.heap.size, 1, none⟩ = some (.int .i64 y) ∧ w'.cell? ⟨w.heap.size + 1, 0, none⟩ = some (.int .i64 x2) ∧ w'.cell? ⟨w.heap.size + 1, 1, none⟩ = some (.int .i64 y2) ∧ w'.cell? ⟨c, 0, none⟩ = some (.int .i64 wd)) (first | exact ⟨c0, c1, c2, c3, cc⟩ | (simp [go_sem, *]; done)) (first | (go_at_call 76; refine (iGcd_three _ x x2 wd _ (by simp [go_sem]) (by simp [go_sem]) (by simp [go_sem]) (by simp [go_sem]) b1 b2 bw).mono ?_; rintro e w' ⟨rfl, hb⟩; rw [h1]; (first | (replace H := H.call hb) | (replace H := (H.drewN 1).call hb) | (replace H := (H.alloc _).call hb) | (replace H := ((H.alloc _).drewN 1).call hb) | (replace H := ((H.drewN 1).alloc _).call hb)); clear hb; have c0 := H.get (b := w.heap.size) (o := 0) (v := .int .i64 x) (by simp); have c1 := H.get (b := w.heap.size) (o := 1) (v := .int .i64 y) (by simp); have c2 := H.get (b := w.heap.size + 1) (o := 0) (v := .int .i64 x2) (by simp); have c3 := H.get (b := w.heap.size + 1) (o := 1) (v := .int .i64 y2) (by simp); have c4 := H.get (b := w.heap.size + 2) (o := 0) (v := .int .i64 0) (by simp); have c5 := H.get (b := w.heap.size + 2) (o := 1) (v := .int .i64 0) (by simp); have z0 := H.fz (b := w.heap.size + 2) (o := 0) (v := .int .i64 0) (by simp); have z1 := H.fz (b := w.heap.size + 2) (o := 1) (v := .int .i64 0) (by simp); have l0 := H.lt (b := w.heap.size) (o := 0) (v := .int .i64 x) (by simp); have l1 := H.lt (b := w.heap.size + 1) (o := 0) (v := .int .i64 x2) (by simp); have l2 := H.lt (b := w.heap.size + 2) (o := 0) (v := .int .i64 0) (by simp); have cc := (H.below.cell (p := ⟨c, 0, none⟩) hcl).trans hc; have cl := Nat.lt_of_lt_of_le hcl H.below.size) | (go_at_call 74; refine (hm3 _).mono ?_; rintro e w' ⟨rfl, hb⟩; (first | (replace H := H.call hb) | (replace H := (H.drewN 1).call hb) | (replace H := (H.alloc _).call hb) | (replace H := ((H.alloc _).drewN 1).call hb) | (replace H := ((H.drewN 1).alloc _).call hb)); clear hb; have c0 := H.get (b := w.heap.size) (o := 0) (v := .int .i64 x) (by simp); have c1 := H.get (b := w.heap.size) (o := 1) (v := .int .i64 y) (by simp); have c2 := H.get (b := w.heap.size + 1) (o := 0) (v := .int .i64 x2) (by simp); have c3 := H.get (b := w.heap.size + 1) (o := 1) (v := .int .i64 y2) (by simp); have c4 := H.get (b := w.heap.size + 2) (o := 0) (v := .int .i64 0) (by simp); have c5 := H.get (b := w.heap.size + 2) (o := 1) (v := .int .i64 0) (by simp); have z0 := H.fz (b := w.heap.size + 2) (o := 0) (v := .int .i64 0) (by simp); have z1 := H.fz (b := w.heap.size + 2) (o := 1) (v := .int .i64 0) (by simp); have l0 := H.lt (b := w.heap.size) (o := 0) (v := .int .i64 x) (by simp); have l1 := H.lt (b := w.heap.size + 1) (o := 0) (v := .int .i64 x2) (by simp); have l2 := H.lt (b := w.heap.size + 2) (o := 0) (v := .int .i64 0) (by simp); have cc := (H.below.cell (p := ⟨c, 0, none⟩) hcl).trans hc; have cl := Nat.lt_of_lt_of_le hcl H.below.size))
  all_goals
    go_wp2_with fail
    obtain ⟨f0, f1, fb⟩ := H.fill (b := w.heap.size + 2) (x := .int .i64 0) (y := .int .i64 0) (by simp) (by simp) (by omega) (.int .i64 q.1) (.int .i64 q.2)
    refine bodyPost_ret (results_two rfl _ _ (w.heap.size + 2) (.int .i64 q.1) (.int .i64 q.2) _ rfl f0 f1 Tryd.underlying24 rfl (by kernel_rfl)) rfl ?_
    exact ⟨rfl, fb⟩
set_option maxRecDepth 100000 in
set_option maxHeartbeats 4000000 in
theorem subR_xy (c : Nat) (wd x y x2 y2 : Int) (w : World) (hc : w.cell? ⟨c, 0, none⟩ = some (.int .i64 wd)) (hcl : c < w.heap.size) (hwd : 0 ≤ wd ∧ wd ≤ 4294967296) (h : qOk (x, y) = true) (h2 : qOk (x2, y2) = true) :
    Calls Tryd.prog 133 #[.agg #[.int .i64 x, .int .i64 y], .agg #[.int .i64 x2, .int .i64 y2], .pointer (some ⟨c, 0, none⟩)] w fun e w' => e = .returned (.agg #[.int .i64 (make9 (gcd9 (gcd9 x x2) wd) (y - y2)).1, .int .i64 (make9 (gcd9 (gcd9 x x2) wd) (y - y2)).2]) ∧ Below w.heap.size w w' := by
  obtain ⟨W, hW, H⟩ := Hd.three w (.int .i64 x) (.int .i64 y) (.int .i64 x2) (.int .i64 y2) (.int .i64 0) (.int .i64 0) 24 24 24
  have hx := (qOk_iff _).1 h
  have hx2 := (qOk_iff _).1 h2
  simp only at hx hx2
  have b1 : -9223372036854775807 ≤ x ∧ x ≤ 9223372036854775807 := by omega
  have b2 : -9223372036854775807 ≤ x2 ∧ x2 ≤ 9223372036854775807 := by omega
  have bw : -9223372036854775807 ≤ wd ∧ wd ≤ 9223372036854775807 := by omega
  have g0 := gcd9_pos x x2
  have g1 := gcd9_bd x x2 65536 (by omega) (by omega)
  have hs : wrap64 (y - y2) = y - y2 := w64_id (by omega) (by omega)
  have hs2 : IntKind.i64.wrap (y - y2) = y - y2 := IntWalk.i64_in _ ⟨by omega, by omega⟩
  have kk0 : 0 ≤ gcd9 (gcd9 x x2) wd := gcd9_pos _ _
  have kk1 : gcd9 (gcd9 x x2) wd ≤ 4611686018427387904 := gcd9_bd _ _ _ (by omega) (by omega)
  clear g0 g1
  generalize h1 : gcd9 (gcd9 x x2) wd = k at *
  have hm3 : ∀ w1 : World, Calls Tryd.prog 74 #[.int .i64 (y - y2), .int .i64 k] w1 fun e w' => e = .returned (.agg #[.int .i64 (make9 k (y - y2)).1, .int .i64 (make9 k (y - y2)).2]) ∧ Below w1.heap.size w1 w' := fun w1 => restOf_any (y - y2) k kk0 kk1 w1
  generalize make9 k (y - y2) = q at *
  go_enter Tryd.func133, Tryd.ntmps133
  go_wp2_with fail
  rw [← hW]
  clear hW
  have c0 := H.get (b := w.heap.size) (o := 0) (v := .int .i64 x) (by simp)
  have c1 := H.get (b := w.heap.size) (o := 1) (v := .int .i64 y) (by simp)
  have c2 := H.get (b := w.heap.size + 1) (o := 0) (v := .int .i64 x2) (by simp)
  have c3 := H.get (b := w.heap.size + 1) (o := 1) (v := .int .i64 y2) (by simp)
  have c4 := H.get (b := w.heap.size + 2) (o := 0) (v := .int .i64 0) (by simp)
  have c5 := H.get (b := w.heap.size + 2) (o := 1) (v := .int .i64 0) (by simp)
  have z0 := H.fz (b := w.heap.size + 2) (o := 0) (v := .int .i64 0) (by simp)
  have z1 := H.fz (b := w.heap.size + 2) (o := 1) (v := .int .i64 0) (by simp)
  have l0 := H.lt (b := w.heap.size) (o := 0) (v := .int .i64 x) (by simp)
  have l1 := H.lt (b := w.heap.size + 1) (o := 0) (v := .int .i64 x2) (by simp)
  have l2 := H.lt (b := w.heap.size + 2) (o := 0) (v := .int .i64 0) (by simp)
  have cc := (H.below.cell (p := ⟨c, 0, none⟩) hcl).trans hc
  have cl := Nat.lt_of_lt_of_le hcl H.below.size
  go_region_held3 (fun w' => w'.cell? ⟨w.heap.size, 0, none⟩ = some (.int .i64 x) ∧ w'.cell? ⟨w.heap.size, 1, none⟩ = some (.int .i64 y) ∧ w'.cell? ⟨w.heap.size + 1, 0, none⟩ = some (.int .i64 x2) ∧ w'.cell? ⟨w.heap.size + 1, 1, none⟩ = some (.int .i64 y2) ∧ w'.cell? ⟨c, 0, none⟩ = some (.int .i64 wd)) (first | exact ⟨c0, c1, c2, c3, cc⟩ | (simp [go_sem, *]; done)) (first | (go_at_call 76; refine (iGcd_three _ x x2 wd _ (by simp [go_sem]) (by simp [go_sem]) (by simp [go_sem]) (by simp [go_sem]) b1 b2 bw).mono ?_; rintro e w' ⟨rfl, hb⟩; rw [h1]; (first | (replace H := H.call hb) | (replace H := (H.drewN 1).call hb) | (replace H := (H.alloc _).call hb) | (replace H := ((H.alloc _).drewN 1).call hb) | (replace H := ((H.drewN 1).alloc _).call hb)); clear hb; have c0 := H.get (b := w.heap.size) (o := 0) (v := .int .i64 x) (by simp); have c1 := H.get (b := w.heap.size) (o := 1) (v := .int .i64 y) (by simp); have c2 := H.get (b := w.heap.size + 1) (o := 0) (v := .int .i64 x2) (by simp); have c3 := H.get (b := w.heap.size + 1) (o := 1) (v := .int .i64 y2) (by simp); have c4 := H.get (b := w.heap.size + 2) (o := 0) (v := .int .i64 0) (by simp); have c5 := H.get (b := w.heap.size + 2) (o := 1) (v := .int .i64 0) (by simp); have z0 := H.fz (b := w.heap.size + 2) (o := 0) (v := .int .i64 0) (by simp); have z1 := H.fz (b := w.heap.size + 2) (o := 1) (v := .int .i64 0) (by simp); have l0 := H.lt (b := w.heap.size) (o := 0) (v := .int .i64 x) (by simp); have l1 := H.lt (b := w.heap.size + 1) (o := 0) (v := .int .i64 x2) (by simp); have l2 := H.lt (b := w.heap.size + 2) (o := 0) (v := .int .i64 0) (by simp); have cc := (H.below.cell (p := ⟨c, 0, none⟩) hcl).trans hc; have cl := Nat.lt_of_lt_of_le hcl H.below.size) | (go_at_call 74; refine (hm3 _).mono ?_; rintro e w' ⟨rfl, hb⟩; (first | (replace H := H.call hb) | (replace H := (H.drewN 1).call hb) | (replace H := (H.alloc _).call hb) | (replace H := ((H.alloc _).drewN 1).call hb) | (replace H := ((H.drewN 1).alloc _).call hb)); clear hb; have c0 := H.get (b := w.heap.size) (o := 0) (v := .int .i64 x) (by simp); have c1 := H.get (b := w.heap.size) (o := 1) (v := .int .i64 y) (by simp); have c2 := H.get (b := w.heap.size + 1) (o := 0) (v := .int .i64 x2) (by simp); have c3 := H.get (b := w.heap.size + 1) (o := 1) (v := .int .i64 y2) (by simp); have c4 := H.get (b := w.heap.size + 2) (o := 0) (v := .int .i64 0) (by simp); have c5 := H.get (b := w.heap.size + 2) (o := 1) (v := .int .i64 0) (by simp); have z0 := H.fz (b := w.heap.size + 2) (o := 0) (v := .int .i64 0) (by simp); have z1 := H.fz (b := w.heap.size + 2) (o := 1) (v := .int .i64 0) (by simp); have l0 := H.lt (b := w.heap.size) (o := 0) (v := .int .i64 x) (by simp); have l1 := H.lt (b := w.heap.size + 1) (o := 0) (v := .int .i64 x2) (by simp); have l2 := H.lt (b := w.heap.size + 2) (o := 0) (v := .int .i64 0) (by simp); have cc := (H.below.cell (p := ⟨c, 0, none⟩) hcl).trans hc; have cl := Nat.lt_of_lt_of_le hcl H.below.size))
  all_goals
    go_wp2_with fail
    obtain ⟨f0, f1, fb⟩ := H.fill (b := w.heap.size + 2) (x := .int .i64 0) (y := .int .i64 0) (by simp) (by simp) (by omega) (.int .i64 q.1) (.int .i64 q.2)
    refine bodyPost_ret (results_two rfl _ _ (w.heap.size + 2) (.int .i64 q.1) (.int .i64 q.2) _ rfl f0 f1 Tryd.underlying24 rfl (by kernel_rfl)) rfl ?_
    exact ⟨rfl, fb⟩
set_option maxRecDepth 100000 in
set_option maxHeartbeats 4000000 in
theorem remR_xy (x y x2 y2 : Int) (w : World) (h : qOk (x, y) = true) (h2 : qOk (x2, y2) = true) :
    Calls Tryd.prog 137 #[.agg #[.int .i64 x, .int .i64 y], .agg #[.int .i64 x2, .int .i64 y2]] w fun e w' => e = .returned (.agg #[.int .i64 (make9 (gcd9 (gcd9 x x2) y2) y).1, .int .i64 (make9 (gcd9 (gcd9 x x2) y2) y).2]) ∧ Below w.heap.size w w' := by
  obtain ⟨W, hW, H⟩ := Hd.three w (.int .i64 x) (.int .i64 y) (.int .i64 x2) (.int .i64 y2) (.int .i64 0) (.int .i64 0) 24 24 24
  have hx := (qOk_iff _).1 h
  have hx2 := (qOk_iff _).1 h2
  simp only at hx hx2
  have b1 : -9223372036854775807 ≤ x ∧ x ≤ 9223372036854775807 := by omega
  have b2 : -9223372036854775807 ≤ x2 ∧ x2 ≤ 9223372036854775807 := by omega
  have bw : -9223372036854775807 ≤ y2 ∧ y2 ≤ 9223372036854775807 := by omega
  have g0 := gcd9_pos x x2
  have g1 := gcd9_bd x x2 65536 (by omega) (by omega)
  have kk0 : 0 ≤ gcd9 (gcd9 x x2) y2 := gcd9_pos _ _
  have kk1 : gcd9 (gcd9 x x2) y2 ≤ 4611686018427387904 := gcd9_bd _ _ _ (by omega) (by omega)
  clear g0 g1
  generalize h1 : gcd9 (gcd9 x x2) y2 = k at *
  have hm3 : ∀ w1 : World, Calls Tryd.prog 74 #[.int .i64 y, .int .i64 k] w1 fun e w' => e = .returned (.agg #[.int .i64 (make9 k y).1, .int .i64 (make9 k y).2]) ∧ Below w1.heap.size w1 w' := fun w1 => restOf_any y k kk0 kk1 w1
  generalize make9 k y = q at *
  go_enter Tryd.func137, Tryd.ntmps137
  go_wp2_with fail
  rw [← hW]
  clear hW
  have c0 := H.get (b := w.heap.size) (o := 0) (v := .int .i64 x) (by simp)
  have c1 := H.get (b := w.heap.size) (o := 1) (v := .int .i64 y) (by simp)
  have c2 := H.get (b := w.heap.size + 1) (o := 0) (v := .int .i64 x2) (by simp)
  have c3 := H.get (b := w.heap.size + 1) (o := 1) (v := .int .i64 y2) (by simp)
  have c4 := H.get (b := w.heap.size + 2) (o := 0) (v := .int .i64 0) (by simp)
  have c5 := H.get (b := w.heap.size + 2) (o := 1) (v := .int .i64 0) (by simp)
  have z0 := H.fz (b := w.heap.size + 2) (o := 0) (v := .int .i64 0) (by simp)
  have z1 := H.fz (b := w.heap.size + 2) (o := 1) (v := .int .i64 0) (by simp)
  have l0 := H.lt (b := w.heap.size) (o := 0) (v := .int .i64 x) (by simp)
  have l1 := H.lt (b := w.heap.size + 1) (o := 0) (v := .int .i64 x2) (by simp)
  have l2 := H.lt (b := w.heap.size + 2) (o := 0) (v := .int .i64 0) (by simp)
  go_region_held3 (fun w' => w'.cell? ⟨w.heap.size, 0, none⟩ = some (.int .i64 x) ∧ w'.cell? ⟨w.heap.size, 1, none⟩ = some (.int .i64 y) ∧ w'.cell? ⟨w.heap.size + 1, 0, none⟩ = some (.int .i64 x2) ∧ w'.cell? ⟨w.heap.size + 1, 1, none⟩ = some (.int .i64 y2)) (first | exact ⟨c0, c1, c2, c3⟩ | (simp [go_sem, *]; done)) (first | (go_at_call 76; refine (iGcd_three _ x x2 y2 _ (by simp [go_sem]) (by simp [go_sem]) (by simp [go_sem]) (by simp [go_sem]) b1 b2 bw).mono ?_; rintro e w' ⟨rfl, hb⟩; rw [h1]; (first | (replace H := H.call hb) | (replace H := (H.drewN 1).call hb) | (replace H := (H.alloc _).call hb) | (replace H := ((H.alloc _).drewN 1).call hb) | (replace H := ((H.drewN 1).alloc _).call hb)); clear hb; have c0 := H.get (b := w.heap.size) (o := 0) (v := .int .i64 x) (by simp); have c1 := H.get (b := w.heap.size) (o := 1) (v := .int .i64 y) (by simp); have c2 := H.get (b := w.heap.size + 1) (o := 0) (v := .int .i64 x2) (by simp); have c3 := H.get (b := w.heap.size + 1) (o := 1) (v := .int .i64 y2) (by simp); have c4 := H.get (b := w.heap.size + 2) (o := 0) (v := .int .i64 0) (by simp); have c5 := H.get (b := w.heap.size + 2) (o := 1) (v := .int .i64 0) (by simp); have z0 := H.fz (b := w.heap.size + 2) (o := 0) (v := .int .i64 0) (by simp); have z1 := H.fz (b := w.heap.size + 2) (o := 1) (v := .int .i64 0) (by simp); have l0 := H.lt (b := w.heap.size) (o := 0) (v := .int .i64 x) (by simp); have l1 := H.lt (b := w.heap.size + 1) (o := 0) (v := .int .i64 x2) (by simp); have l2 := H.lt (b := w.heap.size + 2) (o := 0) (v := .int .i64 0) (by simp)) | (go_at_call 74; refine (hm3 _).mono ?_; rintro e w' ⟨rfl, hb⟩; (first | (replace H := H.call hb) | (replace H := (H.drewN 1).call hb) | (replace H := (H.alloc _).call hb) | (replace H := ((H.alloc _).drewN 1).call hb) | (replace H := ((H.drewN 1).alloc _).call hb)); clear hb; have c0 := H.get (b := w.heap.size) (o := 0) (v := .int .i64 x) (by simp); have c1 := H.get (b := w.heap.size) (o := 1) (v := .int .i64 y) (by simp); have c2 := H.get (b := w.heap.size + 1) (o := 0) (v := .int .i64 x2) (by simp); have c3 := H.get (b := w.heap.size + 1) (o := 1) (v := .int .i64 y2) (by simp); have c4 := H.get (b := w.heap.size + 2) (o := 0) (v := .int .i64 0) (by simp); have c5 := H.get (b := w.heap.size + 2) (o := 1) (v := .int .i64 0) (by simp); have z0 := H.fz (b := w.heap.size + 2) (o := 0) (v := .int .i64 0) (by simp); have z1 := H.fz (b := w.heap.size + 2) (o := 1) (v := .int .i64 0) (by simp); have l0 := H.lt (b := w.heap.size) (o := 0) (v := .int .i64 x) (by simp); have l1 := H.lt (b := w.heap.size + 1) (o := 0) (v := .int .i64 x2) (by simp); have l2 := H.lt (b := w.heap.size + 2) (o := 0) (v := .int .i64 0) (by simp)))
  all_goals
    go_wp2_with fail
    obtain ⟨f0, f1, fb⟩ := H.fill (b := w.heap.size + 2) (x := .int .i64 0) (y := .int .i64 0) (by simp) (by simp) (by omega) (.int .i64 q.1) (.int .i64 q.2)
    refine bodyPost_ret (results_two rfl _ _ (w.heap.size + 2) (.int .i64 q.1) (.int .i64 q.2) _ rfl f0 f1 Tryd.underlying24 rfl (by kernel_rfl)) rfl ?_
    exact ⟨rfl, fb⟩
end Go.Proofs.YtjpiihjgbllieaaDoor.num
