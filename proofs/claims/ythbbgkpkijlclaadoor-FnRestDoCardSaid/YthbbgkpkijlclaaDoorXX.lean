/-
  The program's RestDo.
-/
import Derived.Test.YthbbgkpkijlclaaDoorVd
import Derived.Test.YthbbgkpkijlclaaDoorTb
import Derived.Test.YthbbgkpkijlclaaDoorNc
import Derived.Test.YthbbgkpkijlclaaDoorGc
import Derived.Maps.OwnSet
import Derived.WalkSpells
namespace Go.Proofs.YthbbgkpkijlclaaDoor.num
open Go.ChangeShapes Go.WideShapes Go.ChangeAt Go.RowKit
set_option linter.unusedVariables false

set_option maxRecDepth 100000 in
set_option maxHeartbeats 4000000 in
theorem addR_xy (c : Nat) (wd x y x2 y2 : Int) (w : World) (hc : w.cell? ⟨c, 0, none⟩ = some (.int .i64 wd)) (hcl : c < w.heap.size) (hwd : 0 ≤ wd ∧ wd ≤ 4294967296) (h : qOk (x, y) = true) (h2 : qOk (x2, y2) = true) :
    Calls Tryd.prog 204 #[.agg #[.int .i64 x, .int .i64 y], .agg #[.int .i64 x2, .int .i64 y2], .pointer (some ⟨c, 0, none⟩)] w fun e w' => e = .returned (.agg #[.int .i64 (make9 (gcd9 (gcd9 x x2) wd) (y + y2)).1, .int .i64 (make9 (gcd9 (gcd9 x x2) wd) (y + y2)).2]) ∧ Below w.heap.size w w' := by
  obtain ⟨W, hW, H⟩ := Hd.three w (.int .i64 x) (.int .i64 y) (.int .i64 x2) (.int .i64 y2) (.int .i64 0) (.int .i64 0) 26 26 26
  have hx := (qOk_iff _).1 h
  have hx2 := (qOk_iff _).1 h2
  simp only at hx hx2
  have b1 : -9223372036854775807 ≤ x ∧ x ≤ 9223372036854775807 := by omega
  have b2 : -9223372036854775807 ≤ x2 ∧ x2 ≤ 9223372036854775807 := by omega
  have bw : -9223372036854775807 ≤ wd ∧ wd ≤ 9223372036854775807 := by omega
  have g0 := gcd9_pos x x2
  have g1 := gcd9_bd x x2 65536 (by omega) (by omega)
  have hs : wrap64 (y + y2) = y + y2 := w64_id (by omega) (by omega)
  have hs2 : IntKind.i64.wrap (y + y2) = y + y2 := IntWalk.i64_in _ ⟨by omega, by omega⟩
  have kk0 : 0 ≤ gcd9 (gcd9 x x2) wd := gcd9_pos _ _
  have kk1 : gcd9 (gcd9 x x2) wd ≤ 4611686018427387904 := gcd9_bd _ _ _ (by omega) (by omega)
  clear g0 g1
  generalize h1 : gcd9 (gcd9 x x2) wd = k at *
  have hm3 : ∀ w1 : World, Calls Tryd.prog 147 #[.int .i64 (y + y2), .int .i64 k] w1 fun e w' => e = .returned (.agg #[.int .i64 (make9 k (y + y2)).1, .int .i64 (make9 k (y + y2)).2]) ∧ Below w1.heap.size w1 w' := fun w1 => restOf_any (y + y2) k kk0 kk1 w1
  generalize make9 k (y + y2) = q at *
  go_enter Tryd.func204, Tryd.ntmps204
  go_wp2_with fail
  rw [← hW]
  clear hW
  have c0 := H.get (b := w.heap.size) (o := 0) (v := .int .i64 x) (by simp)
  have c1 := H.get (b := w.heap.size) (o := 1) (v := .int .i64 y) (by simp)
  have c2 := H.get (b := w.heap.size + 1) (o := 0) (v := .int .i64 x2) (by simp)
  have c3 := H.get (b := w.heap.size + 1) (o := 1) (v := .int .i64 y2) (by simp)
  have c4 := H.get (b := w.heap.size + 2) (o := 0) (v := .int .i64 0) (by simp)
  have c5 := H.get (b := w.heap.size + 2) (o := 1) (v := .int .i64 0) (by simp)
  have z0 := H.fz (b := w.heap.size + 2) (o := 0) (v := .int .i64 0) (by simp)
  have z1 := H.fz (b := w.heap.size + 2) (o := 1) (v := .int .i64 0) (by simp)
  have l0 := H.lt (b := w.heap.size) (o := 0) (v := .int .i64 x) (by simp)
  have l1 := H.lt (b := w.heap.size + 1) (o := 0) (v := .int .i64 x2) (by simp)
  have l2 := H.lt (b := w.heap.size + 2) (o := 0) (v := .int .i64 0) (by simp)
  have cc := (H.below.cell (p := ⟨c, 0, none⟩) hcl).trans hc
  have cl := Nat.lt_of_lt_of_le hcl H.below.size
  go_region_held3 (fun w' => w'.cell? ⟨w.heap.size, 0, none⟩ = some (.int .i64 x) ∧ w'.cell? ⟨w.heap.size, 1, none⟩ = some (.int .i64 y) ∧ w'.cell? ⟨w.heap.size + 1, 0, none⟩ = some (.int .i64 x2) ∧ w'.cell? ⟨w.heap.size + 1, 1, none⟩ = some (.int .i64 y2) ∧ w'.cell? ⟨c, 0, none⟩ = some (.int .i64 wd)) (first | exact ⟨c0, c1, c2, c3, cc⟩ | (simp [go_sem, *]; done)) (first | (go_at_call 148; refine (iGcd_three _ x x2 wd _ (by simp [go_sem]) (by simp [go_sem]) (by simp [go_sem]) (by simp [go_sem]) b1 b2 bw).mono ?_; rintro e w' ⟨rfl, hb⟩; rw [h1]; (first | (replace H := H.call hb) | (replace H := (H.drewN 1).call hb) | (replace H := (H.alloc _).call hb) | (replace H := ((H.alloc _).drewN 1).call hb) | (replace H := ((H.drewN 1).alloc _).call hb)); clear hb; have c0 := H.get (b := w.heap.size) (o := 0) (v := .int .i64 x) (by simp); have c1 := H.get (b := w.heap.size) (o := 1) (v := .int .i64 y) (by simp); have c2 := H.get (b := w.heap.size + 1) (o := 0) (v := .int .i64 x2) (by simp); have c3 := H.get (b := w.heap.size + 1) (o := 1) (v := .int .i64 y2) (by simp); have c4 := H.get (b := w.heap.size + 2) (o := 0) (v := .int .i64 0) (by simp); have c5 := H.get (b := w.heap.size + 2) (o := 1) (v := .int .i64 0) (by simp); have z0 := H.fz (b := w.heap.size + 2) (o := 0) (v := .int .i64 0) (by simp); have z1 := H.fz (b := w.heap.size + 2) (o := 1) (v := .int .i64 0) (by simp); have l0 := H.lt (b := w.heap.size) (o := 0) (v := .int .i64 x) (by simp); have l1 := H.lt (b := w.heap.size + 1) (o := 0) (v := .int .i64 x2) (by simp); have l2 := H.lt (b := w.heap.size + 2) (o := 0) (v := .int .i64 0) (by simp); have cc := (H.below.cell (p := ⟨c, 0, none⟩) hcl).trans hc; have cl := Nat.lt_of_lt_of_le hcl H.below.size) | (go_at_call 147; refine (hm3 _).mono ?_; rintro e w' ⟨rfl, hb⟩; (first | (replace H := H.call hb) | (replace H := (H.drewN 1).call hb) | (replace H := (H.alloc _).call hb) | (replace H := ((H.alloc _).drewN 1).call hb) | (replace H := ((H.drewN 1).alloc _).call hb)); clear hb; have c0 := H.get (b := w.heap.size) (o := 0) (v := .int .i64 x) (by simp); have c1 := H.get (b := w.heap.size) (o := 1) (v := .int .i64 y) (by simp); have c2 := H.get (b := w.heap.size + 1) (o := 0) (v := .int .i64 x2) (by simp); have c3 := H.get (b := w.heap.size + 1) (o := 1) (v := .int .i64 y2) (by simp); have c4 := H.get (b := w.heap.size + 2) (o := 0) (v := .int .i64 0) (by simp); have c5 := H.get (b := w.heap.size + 2) (o := 1) (v := .int .i64 0) (by simp); have z0 := H.fz (b := w.heap.size + 2) (o := 0) (v := .int .i64 0) (by simp); have z1 := H.fz (b := w.heap.size + 2) (o := 1) (v := .int .i64 0) (by simp); have l0 := H.lt (b := w.heap.size) (o := 0) (v := .int .i64 x) (by simp); have l1 := H.lt (b := w.heap.size + 1) (o := 0) (v := .int .i64 x2) (by simp); have l2 := H.lt (b := w.heap.size + 2) (o := 0) (v := .int .i64 0) (by simp); have cc := (H.below.cell (p := ⟨c, 0, none⟩) hcl).trans hc; have cl := Nat.lt_of_lt_of_le hcl H.below.size))
  all_goals
    go_wp2_with fail
    obtain ⟨f0, f1, fb⟩ := H.fill (b := w.heap.size + 2) (x := .int .i64 0) (y := .int .i64 0) (by simp) (by simp) (by omega) (.int .i64 q.1) (.int .i64 q.2)
    refine bodyPost_ret (results_two rfl _ _ (w.heap.size + 2) (.int .i64 q.1) (.int .i64 q.2) _ rfl f0 f1 Tryd.underlying26 rfl (by kernel_rfl)) rfl ?_
    exact ⟨rfl, fb⟩
set_option maxRecDepth 100000 in
set_option maxHeartbeats 4000000 in
theorem subR_xy (c : Nat) (wd x y x2 y2 : Int) (w : World) (hc : w.cell? ⟨c, 0, none⟩ = some (.int .i64 wd)) (hcl : c < w.heap.size) (hwd : 0 ≤ wd ∧ wd ≤ 4294967296) (h : qOk (x, y) = true) (h2 : qOk (x2, y2) = true) :
    Calls Tryd.prog 205 #[.agg #[.int .i64 x, .int .i64 y], .agg #[.int .i64 x2, .int .i64 y2], .pointer (some ⟨c, 0, none⟩)] w fun e w' => e = .returned (.agg #[.int .i64 (make9 (gcd9 (gcd9 x x2) wd) (y - y2)).1, .int .i64 (make9 (gcd9 (gcd9 x x2) wd) (y - y2)).2]) ∧ Below w.heap.size w w' := by
  obtain ⟨W, hW, H⟩ := Hd.three w (.int .i64 x) (.int .i64 y) (.int .i64 x2) (.int .i64 y2) (.int .i64 0) (.int .i64 0) 26 26 26
  have hx := (qOk_iff _).1 h
  have hx2 := (qOk_iff _).1 h2
  simp only at hx hx2
  have b1 : -9223372036854775807 ≤ x ∧ x ≤ 9223372036854775807 := by omega
  have b2 : -9223372036854775807 ≤ x2 ∧ x2 ≤ 9223372036854775807 := by omega
  have bw : -9223372036854775807 ≤ wd ∧ wd ≤ 9223372036854775807 := by omega
  have g0 := gcd9_pos x x2
  have g1 := gcd9_bd x x2 65536 (by omega) (by omega)
  have hs : wrap64 (y - y2) = y - y2 := w64_id (by omega) (by omega)
  have hs2 : IntKind.i64.wrap (y - y2) = y - y2 := IntWalk.i64_in _ ⟨by omega, by omega⟩
  have kk0 : 0 ≤ gcd9 (gcd9 x x2) wd := gcd9_pos _ _
  have kk1 : gcd9 (gcd9 x x2) wd ≤ 4611686018427387904 := gcd9_bd _ _ _ (by omega) (by omega)
  clear g0 g1
  generalize h1 : gcd9 (gcd9 x x2) wd = k at *
  have hm3 : ∀ w1 : World, Calls Tryd.prog 147 #[.int .i64 (y - y2), .int .i64 k] w1 fun e w' => e = .returned (.agg #[.int .i64 (make9 k (y - y2)).1, .int .i64 (make9 k (y - y2)).2]) ∧ Below w1.heap.size w1 w' := fun w1 => restOf_any (y - y2) k kk0 kk1 w1
  generalize make9 k (y - y2) = q at *
  go_enter Tryd.func205, Tryd.ntmps205
  go_wp2_with fail
  rw [← hW]
  clear hW
  have c0 := H.get (b := w.heap.size) (o := 0) (v := .int .i64 x) (by simp)
  have c1 := H.get (b := w.heap.size) (o := 1) (v := .int .i64 y) (by simp)
  have c2 := H.get (b := w.heap.size + 1) (o := 0) (v := .int .i64 x2) (by simp)
  have c3 := H.get (b := w.heap.size + 1) (o := 1) (v := .int .i64 y2) (by simp)
  have c4 := H.get (b := w.heap.size + 2) (o := 0) (v := .int .i64 0) (by simp)
  have c5 := H.get (b := w.heap.size + 2) (o := 1) (v := .int .i64 0) (by simp)
  have z0 := H.fz (b := w.heap.size + 2) (o := 0) (v := .int .i64 0) (by simp)
  have z1 := H.fz (b := w.heap.size + 2) (o := 1) (v := .int .i64 0) (by simp)
  have l0 := H.lt (b := w.heap.size) (o := 0) (v := .int .i64 x) (by simp)
  have l1 := H.lt (b := w.heap.size + 1) (o := 0) (v := .int .i64 x2) (by simp)
  have l2 := H.lt (b := w.heap.size + 2) (o := 0) (v := .int .i64 0) (by simp)
  have cc := (H.below.cell (p := ⟨c, 0, none⟩) hcl).trans hc
  have cl := Nat.lt_of_lt_of_le hcl H.below.size
  go_region_held3 (fun w' => w'.cell? ⟨w.heap.size, 0, none⟩ = some (.int .i64 x) ∧ w'.cell? ⟨w.heap.size, 1, none⟩ = some (.int .i64 y) ∧ w'.cell? ⟨w.heap.size + 1, 0, none⟩ = some (.int .i64 x2) ∧ w'.cell? ⟨w.heap.size + 1, 1, none⟩ = some (.int .i64 y2) ∧ w'.cell? ⟨c, 0, none⟩ = some (.int .i64 wd)) (first | exact ⟨c0, c1, c2, c3, cc⟩ | (simp [go_sem, *]; done)) (first | (go_at_call 148; refine (iGcd_three _ x x2 wd _ (by simp [go_sem]) (by simp [go_sem]) (by simp [go_sem]) (by simp [go_sem]) b1 b2 bw).mono ?_; rintro e w' ⟨rfl, hb⟩; rw [h1]; (first | (replace H := H.call hb) | (replace H := (H.drewN 1).call hb) | (replace H := (H.alloc _).call hb) | (replace H := ((H.alloc _).drewN 1).call hb) | (replace H := ((H.drewN 1).alloc _).call hb)); clear hb; have c0 := H.get (b := w.heap.size) (o := 0) (v := .int .i64 x) (by simp); have c1 := H.get (b := w.heap.size) (o := 1) (v := .int .i64 y) (by simp); have c2 := H.get (b := w.heap.size + 1) (o := 0) (v := .int .i64 x2) (by simp); have c3 := H.get (b := w.heap.size + 1) (o := 1) (v := .int .i64 y2) (by simp); have c4 := H.get (b := w.heap.size + 2) (o := 0) (v := .int .i64 0) (by simp); have c5 := H.get (b := w.heap.size + 2) (o := 1) (v := .int .i64 0) (by simp); have z0 := H.fz (b := w.heap.size + 2) (o := 0) (v := .int .i64 0) (by simp); have z1 := H.fz (b := w.heap.size + 2) (o := 1) (v := .int .i64 0) (by simp); have l0 := H.lt (b := w.heap.size) (o := 0) (v := .int .i64 x) (by simp); have l1 := H.lt (b := w.heap.size + 1) (o := 0) (v := .int .i64 x2) (by simp); have l2 := H.lt (b := w.heap.size + 2) (o := 0) (v := .int .i64 0) (by simp); have cc := (H.below.cell (p := ⟨c, 0, none⟩) hcl).trans hc; have cl := Nat.lt_of_lt_of_le hcl H.below.size) | (go_at_call 147; refine (hm3 _).mono ?_; rintro e w' ⟨rfl, hb⟩; (first | (replace H := H.call hb) | (replace H := (H.drewN 1).call hb) | (replace H := (H.alloc _).call hb) | (replace H := ((H.alloc _).drewN 1).call hb) | (replace H := ((H.drewN 1).alloc _).call hb)); clear hb; have c0 := H.get (b := w.heap.size) (o := 0) (v := .int .i64 x) (by simp); have c1 := H.get (b := w.heap.size) (o := 1) (v := .int .i64 y) (by simp); have c2 := H.get (b := w.heap.size + 1) (o := 0) (v := .int .i64 x2) (by simp); have c3 := H.get (b := w.heap.size + 1) (o := 1) (v := .int .i64 y2) (by simp); have c4 := H.get (b := w.heap.size + 2) (o := 0) (v := .int .i64 0) (by simp); have c5 := H.get (b := w.heap.size + 2) (o := 1) (v := .int .i64 0) (by simp); have z0 := H.fz (b := w.heap.size + 2) (o := 0) (v := .int .i64 0) (by simp); have z1 := H.fz (b := w.heap.size + 2) (o := 1) (v := .int .i64 0) (by simp); have l0 := H.lt (b := w.heap.size) (o := 0) (v := .int .i64 x) (by simp); have l1 := H.lt (b := w.heap.size + 1) (o := 0) (v := .int .i64 x2) (by simp); have l2 := H.lt (b := w.heap.size + 2) (o := 0) (v := .int .i64 0) (by simp); have cc := (H.below.cell (p := ⟨c, 0, none⟩) hcl).trans hc; have cl := Nat.lt_of_lt_of_le hcl H.below.size))
  all_goals
    go_wp2_with fail
    obtain ⟨f0, f1, fb⟩ := H.fill (b := w.heap.size + 2) (x := .int .i64 0) (y := .int .i64 0) (by simp) (by simp) (by omega) (.int .i64 q.1) (.int .i64 q.2)
    refine bodyPost_ret (results_two rfl _ _ (w.heap.size + 2) (.int .i64 q.1) (.int .i64 q.2) _ rfl f0 f1 Tryd.underlying26 rfl (by kernel_rfl)) rfl ?_
    exact ⟨rfl, fb⟩
set_option maxRecDepth 100000 in
set_option maxHeartbeats 4000000 in
theorem remR_xy (x y x2 y2 : Int) (w : World) (h : qOk (x, y) = true) (h2 : qOk (x2, y2) = true) :
    Calls Tryd.prog 209 #[.agg #[.int .i64 x, .int .i64 y], .agg #[.int .i64 x2, .int .i64 y2]] w fun e w' => e = .returned (.agg #[.int .i64 (make9 (gcd9 (gcd9 x x2) y2) y).1, .int .i64 (make9 (gcd9 (gcd9 x x2) y2) y).2]) ∧ Below w.heap.size w w' := by
  obtain ⟨W, hW, H⟩ := Hd.three w (.int .i64 x) (.int .i64 y) (.int .i64 x2) (.int .i64 y2) (.int .i64 0) (.int .i64 0) 26 26 26
  have hx := (qOk_iff _).1 h
  have hx2 := (qOk_iff _).1 h2
  simp only at hx hx2
  have b1 : -9223372036854775807 ≤ x ∧ x ≤ 9223372036854775807 := by omega
  have b2 : -9223372036854775807 ≤ x2 ∧ x2 ≤ 9223372036854775807 := by omega
  have bw : -9223372036854775807 ≤ y2 ∧ y2 ≤ 9223372036854775807 := by omega
  have g0 := gcd9_pos x x2
  have g1 := gcd9_bd x x2 65536 (by omega) (by omega)
  have kk0 : 0 ≤ gcd9 (gcd9 x x2) y2 := gcd9_pos _ _
  have kk1 : gcd9 (gcd9 x x2) y2 ≤ 4611686018427387904 := gcd9_bd _ _ _ (by omega) (by omega)
  clear g0 g1
  generalize h1 : gcd9 (gcd9 x x2) y2 = k at *
  have hm3 : ∀ w1 : World, Calls Tryd.prog 147 #[.int .i64 y, .int .i64 k] w1 fun e w' => e = .returned (.agg #[.int .i64 (make9 k y).1, .int .i64 (make9 k y).2]) ∧ Below w1.heap.size w1 w' := fun w1 => restOf_any y k kk0 kk1 w1
  generalize make9 k y = q at *
  go_enter Tryd.func209, Tryd.ntmps209
  go_wp2_with fail
  rw [← hW]
  clear hW
  have c0 := H.get (b := w.heap.size) (o := 0) (v := .int .i64 x) (by simp)
  have c1 := H.get (b := w.heap.size) (o := 1) (v := .int .i64 y) (by simp)
  have c2 := H.get (b := w.heap.size + 1) (o := 0) (v := .int .i64 x2) (by simp)
  have c3 := H.get (b := w.heap.size + 1) (o := 1) (v := .int .i64 y2) (by simp)
  have c4 := H.get (b := w.heap.size + 2) (o := 0) (v := .int .i64 0) (by simp)
  have c5 := H.get (b := w.heap.size + 2) (o := 1) (v := .int .i64 0) (by simp)
  have z0 := H.fz (b := w.heap.size + 2) (o := 0) (v := .int .i64 0) (by simp)
  have z1 := H.fz (b := w.heap.size + 2) (o := 1) (v := .int .i64 0) (by simp)
  have l0 := H.lt (b := w.heap.size) (o := 0) (v := .int .i64 x) (by simp)
  have l1 := H.lt (b := w.heap.size + 1) (o := 0) (v := .int .i64 x2) (by simp)
  have l2 := H.lt (b := w.heap.size + 2) (o := 0) (v := .int .i64 0) (by simp)
  go_region_held3 (fun w' => w'.cell? ⟨w.heap.size, 0, none⟩ = some (.int .i64 x) ∧ w'.cell? ⟨w.heap.size, 1, none⟩ = some (.int .i64 y) ∧ w'.cell? ⟨w.heap.size + 1, 0, none⟩ = some (.int .i64 x2) ∧ w'.cell? ⟨w.heap.size + 1, 1, none⟩ = some (.int .i64 y2)) (first | exact ⟨c0, c1, c2, c3⟩ | (simp [go_sem, *]; done)) (first | (go_at_call 148; refine (iGcd_three _ x x2 y2 _ (by simp [go_sem]) (by simp [go_sem]) (by simp [go_sem]) (by simp [go_sem]) b1 b2 bw).mono ?_; rintro e w' ⟨rfl, hb⟩; rw [h1]; (first | (replace H := H.call hb) | (replace H := (H.drewN 1).call hb) | (replace H := (H.alloc _).call hb) | (replace H := ((H.alloc _).drewN 1).call hb) | (replace H := ((H.drewN 1).alloc _).call hb)); clear hb; have c0 := H.get (b := w.heap.size) (o := 0) (v := .int .i64 x) (by simp); have c1 := H.get (b := w.heap.size) (o := 1) (v := .int .i64 y) (by simp); have c2 := H.get (b := w.heap.size + 1) (o := 0) (v := .int .i64 x2) (by simp); have c3 := H.get (b := w.heap.size + 1) (o := 1) (v := .int .i64 y2) (by simp); have c4 := H.get (b := w.heap.size + 2) (o := 0) (v := .int .i64 0) (by simp); have c5 := H.get (b := w.heap.size + 2) (o := 1) (v := .int .i64 0) (by simp); have z0 := H.fz (b := w.heap.size + 2) (o := 0) (v := .int .i64 0) (by simp); have z1 := H.fz (b := w.heap.size + 2) (o := 1) (v := .int .i64 0) (by simp); have l0 := H.lt (b := w.heap.size) (o := 0) (v := .int .i64 x) (by simp); have l1 := H.lt (b := w.heap.size + 1) (o := 0) (v := .int .i64 x2) (by simp); have l2 := H.lt (b := w.heap.size + 2) (o := 0) (v := .int .i64 0) (by simp)) | (go_at_call 147; refine (hm3 _).mono ?_; rintro e w' ⟨rfl, hb⟩; (first | (replace H := H.call hb) | (replace H := (H.drewN 1).call hb) | (replace H := (H.alloc _).call hb) | (replace H := ((H.alloc _).drewN 1).call hb) | (replace H := ((H.drewN 1).alloc _).call hb)); clear hb; have c0 := H.get (b := w.heap.size) (o := 0) (v := .int .i64 x) (by simp); have c1 := H.get (b := w.heap.size) (o := 1) (v := .int .i64 y) (by simp); have c2 := H.get (b := w.heap.size + 1) (o := 0) (v := .int .i64 x2) (by simp); have c3 := H.get (b := w.heap.size + 1) (o := 1) (v := .int .i64 y2) (by simp); have c4 := H.get (b := w.heap.size + 2) (o := 0) (v := .int .i64 0) (by simp); have c5 := H.get (b := w.heap.size + 2) (o := 1) (v := .int .i64 0) (by simp); have z0 := H.fz (b := w.heap.size + 2) (o := 0) (v := .int .i64 0) (by simp); have z1 := H.fz (b := w.heap.size + 2) (o := 1) (v := .int .i64 0) (by simp); have l0 := H.lt (b := w.heap.size) (o := 0) (v := .int .i64 x) (by simp); have l1 := H.lt (b := w.heap.size + 1) (o := 0) (v := .int .i64 x2) (by simp); have l2 := H.lt (b := w.heap.size + 2) (o := 0) (v := .int .i64 0) (by simp)))
  all_goals
    go_wp2_with fail
    obtain ⟨f0, f1, fb⟩ := H.fill (b := w.heap.size + 2) (x := .int .i64 0) (y := .int .i64 0) (by simp) (by simp) (by omega) (.int .i64 q.1) (.int .i64 q.2)
    refine bodyPost_ret (results_two rfl _ _ (w.heap.size + 2) (.int .i64 q.1) (.int .i64 q.2) _ rfl f0 f1 Tryd.underlying26 rfl (by kernel_rfl)) rfl ?_
    exact ⟨rfl, fb⟩
end Go.Proofs.YthbbgkpkijlclaaDoor.num
namespace Go.Proofs.YthbbgkpkijlclaaDoor.num
open Go.ChangeShapes Go.WideShapes Go.ChangeAt Go.RowKit
set_option linter.unusedVariables false

set_option maxRecDepth 100000 in
set_option maxHeartbeats 4000000 in
theorem prodR_zero (wd x y x2 y2 : Int) (w : World) (h : qOk (x, y) = true) (h2 : qOk (x2, y2) = true) (hz : apart9 (x, y) (x2, y2) = 0) :
    Calls Tryd.prog 207 #[.agg #[.int .i64 x, .int .i64 y], .agg #[.int .i64 x2, .int .i64 y2], .int .i64 wd] w fun e w' => e = .returned (.agg #[.int .i64 0, .int .i64 0]) ∧ Below w.heap.size w w' := by
  obtain ⟨W, hW, H⟩ := Hd.three w (.int .i64 x) (.int .i64 y) (.int .i64 x2) (.int .i64 y2) (.int .i64 0) (.int .i64 0) 26 26 26
  have hx := (qOk_iff _).1 h
  have hx2 := (qOk_iff _).1 h2
  simp only at hx hx2
  obtain ⟨a1, a2⟩ := mul_bd x x2 ⟨by omega, by omega⟩ ⟨by omega, by omega⟩
  obtain ⟨a3, a4⟩ := mul_bd x y2 ⟨by omega, by omega⟩ ⟨by omega, by omega⟩
  obtain ⟨a5, a6⟩ := mul_bd x2 y ⟨by omega, by omega⟩ ⟨by omega, by omega⟩
  obtain ⟨a7, a8⟩ := mul_bd y y2 ⟨by omega, by omega⟩ ⟨by omega, by omega⟩
  have w1 : wrap64 (x * x2) = x * x2 := w64_id (by omega) (by omega)
  have w2 : wrap64 (x * y2) = x * y2 := w64_id (by omega) (by omega)
  have w3 : wrap64 (x2 * y) = x2 * y := w64_id (by omega) (by omega)
  have w4 : wrap64 (y * y2) = y * y2 := w64_id (by omega) (by omega)
  have w5 : IntKind.i64.wrap (y * y2) = y * y2 := IntWalk.i64_in _ ⟨by omega, by omega⟩
  have g2 := gcd9_pos (gcd9 (x * x2) (x * y2)) (x2 * y)
  have g3 := gcd9_bd (gcd9 (x * x2) (x * y2)) (x2 * y) 4611686018427387904 (by have := gcd9_pos (x * x2) (x * y2); have := gcd9_bd (x * x2) (x * y2) 4611686018427387904 (by omega) (by omega); omega) (by omega)
  unfold apart9 at hz
  simp only at hz
  generalize h3 : gcd9 (gcd9 (x * x2) (x * y2)) (x2 * y) = k at *
  subst hz
  go_enter Tryd.func207, Tryd.ntmps207
  go_wp2_with fail
  rw [← hW]
  have hWs : W.heap.size = w.heap.size + 1 + 1 + 1 := by rw [hW]; simp
  clear hW
  have c0 := H.get (b := w.heap.size) (o := 0) (v := .int .i64 x) (by simp)
  have c1 := H.get (b := w.heap.size) (o := 1) (v := .int .i64 y) (by simp)
  have c2 := H.get (b := w.heap.size + 1) (o := 0) (v := .int .i64 x2) (by simp)
  have c3 := H.get (b := w.heap.size + 1) (o := 1) (v := .int .i64 y2) (by simp)
  have c4 := H.get (b := w.heap.size + 2) (o := 0) (v := .int .i64 0) (by simp)
  have c5 := H.get (b := w.heap.size + 2) (o := 1) (v := .int .i64 0) (by simp)
  have z0 := H.fz (b := w.heap.size + 2) (o := 0) (v := .int .i64 0) (by simp)
  have z1 := H.fz (b := w.heap.size + 2) (o := 1) (v := .int .i64 0) (by simp)
  go_wp2_with (first | (go_at_call 148; refine (iGcd_three (w.heap.size + 1 + 1 + 1) (x * x2) (x * y2) (x2 * y) _ (by rw [size_alloc1, hWs]; omega) (by rw [← hWs]; simp [go_sem]) (by rw [← hWs]; simp [go_sem]) (by rw [← hWs]; simp [go_sem]) (by omega) (by omega) (by omega)).mono ?_; rintro e w' ⟨rfl, hb⟩; rw [h3]; replace H := (H.alloc _).call hb; have c0 := H.get (b := w.heap.size) (o := 0) (v := .int .i64 x) (by simp); have c1 := H.get (b := w.heap.size) (o := 1) (v := .int .i64 y) (by simp); have c2 := H.get (b := w.heap.size + 1) (o := 0) (v := .int .i64 x2) (by simp); have c3 := H.get (b := w.heap.size + 1) (o := 1) (v := .int .i64 y2) (by simp); have c4 := H.get (b := w.heap.size + 2) (o := 0) (v := .int .i64 0) (by simp); have c5 := H.get (b := w.heap.size + 2) (o := 1) (v := .int .i64 0) (by simp); have z0 := H.fz (b := w.heap.size + 2) (o := 0) (v := .int .i64 0) (by simp); have z1 := H.fz (b := w.heap.size + 2) (o := 1) (v := .int .i64 0) (by simp)))
  obtain ⟨f0, f1, fb⟩ := H.fill (b := w.heap.size + 2) (x := .int .i64 0) (y := .int .i64 0) (by simp) (by simp) (by omega) (.int .i64 0) (.int .i64 0)
  refine bodyPost_ret (results_two rfl _ _ (w.heap.size + 2) (.int .i64 0) (.int .i64 0) _ rfl f0 f1 Tryd.underlying26 rfl (by kernel_rfl)) rfl ?_
  exact ⟨rfl, fb⟩
set_option maxRecDepth 100000 in
set_option maxHeartbeats 4000000 in
theorem prodR_some (wd x y x2 y2 : Int) (w : World) (hwd : 0 ≤ wd ∧ wd ≤ 4294967296) (h : qOk (x, y) = true) (h2 : qOk (x2, y2) = true) (hz : apart9 (x, y) (x2, y2) ≠ 0) :
    Calls Tryd.prog 207 #[.agg #[.int .i64 x, .int .i64 y], .agg #[.int .i64 x2, .int .i64 y2], .int .i64 wd] w fun e w' => e = .returned (.agg #[.int .i64 (make9 (gcd9 (apart9 (x, y) (x2, y2)) wd) (y * y2)).1, .int .i64 (make9 (gcd9 (apart9 (x, y) (x2, y2)) wd) (y * y2)).2]) ∧ Below w.heap.size w w' := by
  obtain ⟨W, hW, H⟩ := Hd.three w (.int .i64 x) (.int .i64 y) (.int .i64 x2) (.int .i64 y2) (.int .i64 0) (.int .i64 0) 26 26 26
  have hx := (qOk_iff _).1 h
  have hx2 := (qOk_iff _).1 h2
  simp only at hx hx2
  obtain ⟨a1, a2⟩ := mul_bd x x2 ⟨by omega, by omega⟩ ⟨by omega, by omega⟩
  obtain ⟨a3, a4⟩ := mul_bd x y2 ⟨by omega, by omega⟩ ⟨by omega, by omega⟩
  obtain ⟨a5, a6⟩ := mul_bd x2 y ⟨by omega, by omega⟩ ⟨by omega, by omega⟩
  obtain ⟨a7, a8⟩ := mul_bd y y2 ⟨by omega, by omega⟩ ⟨by omega, by omega⟩
  have w1 : wrap64 (x * x2) = x * x2 := w64_id (by omega) (by omega)
  have w2 : wrap64 (x * y2) = x * y2 := w64_id (by omega) (by omega)
  have w3 : wrap64 (x2 * y) = x2 * y := w64_id (by omega) (by omega)
  have w4 : wrap64 (y * y2) = y * y2 := w64_id (by omega) (by omega)
  have w5 : IntKind.i64.wrap (y * y2) = y * y2 := IntWalk.i64_in _ ⟨by omega, by omega⟩
  have g2 := gcd9_pos (gcd9 (x * x2) (x * y2)) (x2 * y)
  have g3 := gcd9_bd (gcd9 (x * x2) (x * y2)) (x2 * y) 4611686018427387904 (by have := gcd9_pos (x * x2) (x * y2); have := gcd9_bd (x * x2) (x * y2) 4611686018427387904 (by omega) (by omega); omega) (by omega)
  unfold apart9 at hz ⊢
  simp only at hz ⊢
  generalize h3 : gcd9 (gcd9 (x * x2) (x * y2)) (x2 * y) = k at *
  have kk0 : 0 ≤ gcd9 k wd := gcd9_pos _ _
  have kk1 : gcd9 k wd ≤ 4611686018427387904 := gcd9_bd _ _ _ (by omega) (by omega)
  have hk1 : (k == 0) = false := by simp [hz]
  generalize h5 : gcd9 k wd = m at *
  have hm3 : ∀ w1 : World, Calls Tryd.prog 147 #[.int .i64 (y * y2), .int .i64 m] w1 fun e w' => e = .returned (.agg #[.int .i64 (make9 m (y * y2)).1, .int .i64 (make9 m (y * y2)).2]) ∧ Below w1.heap.size w1 w' := fun w1 => restOf_any (y * y2) m kk0 kk1 w1
  generalize make9 m (y * y2) = q at *
  go_enter Tryd.func207, Tryd.ntmps207
  go_wp2_with fail
  rw [← hW]
  have hWs : W.heap.size = w.heap.size + 1 + 1 + 1 := by rw [hW]; simp
  clear hW
  have c0 := H.get (b := w.heap.size) (o := 0) (v := .int .i64 x) (by simp)
  have c1 := H.get (b := w.heap.size) (o := 1) (v := .int .i64 y) (by simp)
  have c2 := H.get (b := w.heap.size + 1) (o := 0) (v := .int .i64 x2) (by simp)
  have c3 := H.get (b := w.heap.size + 1) (o := 1) (v := .int .i64 y2) (by simp)
  have c4 := H.get (b := w.heap.size + 2) (o := 0) (v := .int .i64 0) (by simp)
  have c5 := H.get (b := w.heap.size + 2) (o := 1) (v := .int .i64 0) (by simp)
  have z0 := H.fz (b := w.heap.size + 2) (o := 0) (v := .int .i64 0) (by simp)
  have z1 := H.fz (b := w.heap.size + 2) (o := 1) (v := .int .i64 0) (by simp)
  go_wp2_with (first | (go_at_call 148; refine (iGcd_three (w.heap.size + 1 + 1 + 1) (x * x2) (x * y2) (x2 * y) _ (by rw [size_alloc1, hWs]; omega) (by rw [← hWs]; simp [go_sem]) (by rw [← hWs]; simp [go_sem]) (by rw [← hWs]; simp [go_sem]) (by omega) (by omega) (by omega)).mono ?_; rintro e w' ⟨rfl, hb⟩; rw [h3]; replace H := (H.alloc _).call hb; have c0 := H.get (b := w.heap.size) (o := 0) (v := .int .i64 x) (by simp); have c1 := H.get (b := w.heap.size) (o := 1) (v := .int .i64 y) (by simp); have c2 := H.get (b := w.heap.size + 1) (o := 0) (v := .int .i64 x2) (by simp); have c3 := H.get (b := w.heap.size + 1) (o := 1) (v := .int .i64 y2) (by simp); have c4 := H.get (b := w.heap.size + 2) (o := 0) (v := .int .i64 0) (by simp); have c5 := H.get (b := w.heap.size + 2) (o := 1) (v := .int .i64 0) (by simp); have z0 := H.fz (b := w.heap.size + 2) (o := 0) (v := .int .i64 0) (by simp); have z1 := H.fz (b := w.heap.size + 2) (o := 1) (v := .int .i64 0) (by simp)))
  have l0 := H.lt (b := w.heap.size) (o := 0) (v := .int .i64 x) (by simp)
  have l1 := H.lt (b := w.heap.size + 1) (o := 0) (v := .int .i64 x2) (by simp)
  have l2 := H.lt (b := w.heap.size + 2) (o := 0) (v := .int .i64 0) (by simp)
  go_region_held3 (fun w' => w'.cell? ⟨w.heap.size, 0, none⟩ = some (.int .i64 x) ∧ w'.cell? ⟨w.heap.size, 1, none⟩ = some (.int .i64 y) ∧ w'.cell? ⟨w.heap.size + 1, 0, none⟩ = some (.int .i64 x2) ∧ w'.cell? ⟨w.heap.size + 1, 1, none⟩ = some (.int .i64 y2)) (first | exact ⟨c0, c1, c2, c3⟩ | (simp [go_sem, *]; done)) (first | (go_at_call 148; refine (iGcd_two _ k wd _ (by simp [go_sem]) (by simp [go_sem]) (by simp [go_sem]) (by omega) (by omega)).mono ?_; rintro e w' ⟨rfl, hb⟩; rw [h5]; (first | (replace H := H.call hb) | (replace H := (H.drewN 1).call hb) | (replace H := (H.alloc _).call hb) | (replace H := ((H.alloc _).drewN 1).call hb) | (replace H := ((H.drewN 1).alloc _).call hb)); clear hb; have c0 := H.get (b := w.heap.size) (o := 0) (v := .int .i64 x) (by simp); have c1 := H.get (b := w.heap.size) (o := 1) (v := .int .i64 y) (by simp); have c2 := H.get (b := w.heap.size + 1) (o := 0) (v := .int .i64 x2) (by simp); have c3 := H.get (b := w.heap.size + 1) (o := 1) (v := .int .i64 y2) (by simp); have c4 := H.get (b := w.heap.size + 2) (o := 0) (v := .int .i64 0) (by simp); have c5 := H.get (b := w.heap.size + 2) (o := 1) (v := .int .i64 0) (by simp); have z0 := H.fz (b := w.heap.size + 2) (o := 0) (v := .int .i64 0) (by simp); have z1 := H.fz (b := w.heap.size + 2) (o := 1) (v := .int .i64 0) (by simp); have l0 := H.lt (b := w.heap.size) (o := 0) (v := .int .i64 x) (by simp); have l1 := H.lt (b := w.heap.size + 1) (o := 0) (v := .int .i64 x2) (by simp); have l2 := H.lt (b := w.heap.size + 2) (o := 0) (v := .int .i64 0) (by simp)) | (go_at_call 147; refine (hm3 _).mono ?_; rintro e w' ⟨rfl, hb⟩; (first | (replace H := H.call hb) | (replace H := (H.drewN 1).call hb) | (replace H := (H.alloc _).call hb) | (replace H := ((H.alloc _).drewN 1).call hb) | (replace H := ((H.drewN 1).alloc _).call hb)); clear hb; have c0 := H.get (b := w.heap.size) (o := 0) (v := .int .i64 x) (by simp); have c1 := H.get (b := w.heap.size) (o := 1) (v := .int .i64 y) (by simp); have c2 := H.get (b := w.heap.size + 1) (o := 0) (v := .int .i64 x2) (by simp); have c3 := H.get (b := w.heap.size + 1) (o := 1) (v := .int .i64 y2) (by simp); have c4 := H.get (b := w.heap.size + 2) (o := 0) (v := .int .i64 0) (by simp); have c5 := H.get (b := w.heap.size + 2) (o := 1) (v := .int .i64 0) (by simp); have z0 := H.fz (b := w.heap.size + 2) (o := 0) (v := .int .i64 0) (by simp); have z1 := H.fz (b := w.heap.size + 2) (o := 1) (v := .int .i64 0) (by simp); have l0 := H.lt (b := w.heap.size) (o := 0) (v := .int .i64 x) (by simp); have l1 := H.lt (b := w.heap.size + 1) (o := 0) (v := .int .i64 x2) (by simp); have l2 := H.lt (b := w.heap.size + 2) (o := 0) (v := .int .i64 0) (by simp)))
  all_goals
    go_wp2_with fail
    obtain ⟨f0, f1, fb⟩ := H.fill (b := w.heap.size + 2) (x := .int .i64 0) (y := .int .i64 0) (by simp) (by simp) (by omega) (.int .i64 q.1) (.int .i64 q.2)
    refine bodyPost_ret (results_two rfl _ _ (w.heap.size + 2) (.int .i64 q.1) (.int .i64 q.2) _ rfl f0 f1 Tryd.underlying26 rfl (by kernel_rfl)) rfl ?_
    exact ⟨rfl, fb⟩
set_option maxRecDepth 100000 in
set_option maxHeartbeats 4000000 in
theorem mulR_xy (c : Nat) (wd x y x2 y2 : Int) (w : World) (hc : w.cell? ⟨c, 0, none⟩ = some (.int .i64 wd)) (hcl : c < w.heap.size) (q : T9)
    (hp : ∀ w1 : World, Calls Tryd.prog 207 #[.agg #[.int .i64 x, .int .i64 y], .agg #[.int .i64 x2, .int .i64 y2], .int .i64 wd] w1 fun e w' => e = .returned (.agg #[.int .i64 q.1, .int .i64 q.2]) ∧ Below w1.heap.size w1 w') :
    Calls Tryd.prog 206 #[.agg #[.int .i64 x, .int .i64 y], .agg #[.int .i64 x2, .int .i64 y2], .pointer (some ⟨c, 0, none⟩)] w fun e w' => e = .returned (.agg #[.int .i64 q.1, .int .i64 q.2]) ∧ Below w.heap.size w w' := by
  have hl1 : c < w.heap.size + 1 := by omega
  have hl2 : c < w.heap.size + 1 + 1 := by omega
  obtain ⟨W, hW, H⟩ := Hd.three w (.int .i64 x) (.int .i64 y) (.int .i64 x2) (.int .i64 y2) (.int .i64 0) (.int .i64 0) 26 26 26
  go_enter Tryd.func206, Tryd.ntmps206
  go_wp2_with (go_at_call 207; rw [← hW]; refine (hp _).mono ?_; rintro e w' ⟨rfl, hb⟩; replace H := H.call hb; have c0 := H.get (b := w.heap.size) (o := 0) (v := .int .i64 x) (by simp); have c1 := H.get (b := w.heap.size) (o := 1) (v := .int .i64 y) (by simp); have c2 := H.get (b := w.heap.size + 1) (o := 0) (v := .int .i64 x2) (by simp); have c3 := H.get (b := w.heap.size + 1) (o := 1) (v := .int .i64 y2) (by simp); have c4 := H.get (b := w.heap.size + 2) (o := 0) (v := .int .i64 0) (by simp); have c5 := H.get (b := w.heap.size + 2) (o := 1) (v := .int .i64 0) (by simp); have z0 := H.fz (b := w.heap.size + 2) (o := 0) (v := .int .i64 0) (by simp); have z1 := H.fz (b := w.heap.size + 2) (o := 1) (v := .int .i64 0) (by simp))
  obtain ⟨f0, f1, fb⟩ := H.fill (b := w.heap.size + 2) (x := .int .i64 0) (y := .int .i64 0) (by simp) (by simp) (by omega) (.int .i64 q.1) (.int .i64 q.2)
  refine bodyPost_ret (results_two rfl _ _ (w.heap.size + 2) (.int .i64 q.1) (.int .i64 q.2) _ rfl f0 f1 Tryd.underlying26 rfl (by kernel_rfl)) rfl ?_
  exact ⟨rfl, fb⟩
end Go.Proofs.YthbbgkpkijlclaaDoor.num
namespace Go.Proofs.YthbbgkpkijlclaaDoor.num
open Go.ChangeShapes Go.WideShapes Go.ChangeAt Go.RowKit
set_option linter.unusedVariables false

theorem gv_shifts {w : World} (h : Gv w 4 (0, 31)) : 4 < w.heap.size ∧ w.cell? ⟨4, 0, none⟩ = some (.int .i64 0) ∧ w.cell? ⟨4, 1, none⟩ = some (.int .i64 31) ∧ 0 < w.heap.size ∧ 1 < w.heap.size ∧ 2 < w.heap.size := ⟨h.1, h.2.1, h.2.2, by have := h.1; omega, by have := h.1; omega, by have := h.1; omega⟩
set_option maxRecDepth 100000 in
set_option maxHeartbeats 4000000 in
theorem shiftR_rest (x y x2 y2 : Int) (w : World) (hG : Gq w) (hS : Gv w 4 (0, 31)) (hx2 : x2 ≠ 0) :
    Calls Tryd.prog 208 #[.agg #[.int .i64 x, .int .i64 y], .agg #[.int .i64 x2, .int .i64 y2]] w fun e w' => e = .returned (.agg #[.int .i64 1, .int .i64 0]) ∧ Below w.heap.size w w' := by
  obtain ⟨W, hW, H⟩ := Hd.three w (.int .i64 x) (.int .i64 y) (.int .i64 x2) (.int .i64 y2) (.int .i64 0) (.int .i64 0) 26 26 26
  have hd : decide (x2 = 0) = false := by simp [hx2]
  go_enter Tryd.func208, Tryd.ntmps208
  go_wp2_with fail
  rw [← hW]
  clear hW
  have c0 := H.get (b := w.heap.size) (o := 0) (v := .int .i64 x) (by simp)
  have c1 := H.get (b := w.heap.size) (o := 1) (v := .int .i64 y) (by simp)
  have c2 := H.get (b := w.heap.size + 1) (o := 0) (v := .int .i64 x2) (by simp)
  have c3 := H.get (b := w.heap.size + 1) (o := 1) (v := .int .i64 y2) (by simp)
  have c4 := H.get (b := w.heap.size + 2) (o := 0) (v := .int .i64 0) (by simp)
  have c5 := H.get (b := w.heap.size + 2) (o := 1) (v := .int .i64 0) (by simp)
  have z0 := H.fz (b := w.heap.size + 2) (o := 0) (v := .int .i64 0) (by simp)
  have z1 := H.fz (b := w.heap.size + 2) (o := 1) (v := .int .i64 0) (by simp)
  obtain ⟨gs, g0, g1, gz⟩ := Gq.all (Gv.below hG H.below); obtain ⟨ss, s0, s1, sa, sb, sc⟩ := gv_shifts (Gv.below hS H.below)
  go_wp2_with (first | (go_at_call 149; refine (single_xy _ _ _).mono ?_; rintro e w' ⟨rfl, hb⟩; rw [hd]; replace H := H.call hb; have c0 := H.get (b := w.heap.size) (o := 0) (v := .int .i64 x) (by simp); have c1 := H.get (b := w.heap.size) (o := 1) (v := .int .i64 y) (by simp); have c2 := H.get (b := w.heap.size + 1) (o := 0) (v := .int .i64 x2) (by simp); have c3 := H.get (b := w.heap.size + 1) (o := 1) (v := .int .i64 y2) (by simp); have c4 := H.get (b := w.heap.size + 2) (o := 0) (v := .int .i64 0) (by simp); have c5 := H.get (b := w.heap.size + 2) (o := 1) (v := .int .i64 0) (by simp); have z0 := H.fz (b := w.heap.size + 2) (o := 0) (v := .int .i64 0) (by simp); have z1 := H.fz (b := w.heap.size + 2) (o := 1) (v := .int .i64 0) (by simp); obtain ⟨gs, g0, g1, gz⟩ := Gq.all (Gv.below hG H.below); obtain ⟨ss, s0, s1, sa, sb, sc⟩ := gv_shifts (Gv.below hS H.below)))
  obtain ⟨f0, f1, fb⟩ := H.fill (b := w.heap.size + 2) (x := .int .i64 0) (y := .int .i64 0) (by simp) (by simp) (by omega) (.int .i64 1) (.int .i64 0)
  refine bodyPost_ret (results_two rfl _ _ (w.heap.size + 2) (.int .i64 1) (.int .i64 0) _ rfl f0 f1 Tryd.underlying26 rfl (by kernel_rfl)) rfl ?_
  exact ⟨rfl, fb⟩
set_option maxRecDepth 100000 in
set_option maxHeartbeats 4000000 in
theorem shiftR_out (x y y2 : Int) (w : World) (hG : Gq w) (hS : Gv w 4 (0, 31)) (hs : ¬ (0 ≤ y2 ∧ y2 ≤ 31)) :
    Calls Tryd.prog 208 #[.agg #[.int .i64 x, .int .i64 y], .agg #[.int .i64 0, .int .i64 y2]] w fun e w' => e = .returned (.agg #[.int .i64 1, .int .i64 0]) ∧ Below w.heap.size w w' := by
  obtain ⟨W, hW, H⟩ := Hd.three w (.int .i64 x) (.int .i64 y) (.int .i64 0) (.int .i64 y2) (.int .i64 0) (.int .i64 0) 26 26 26
  have hd : (decide ((0 : Int) ≤ y2) && decide (y2 ≤ 31)) = false := by rw [← Bool.not_eq_true, Bool.and_eq_true]; simpa using hs
  go_enter Tryd.func208, Tryd.ntmps208
  go_wp2_with fail
  rw [← hW]
  clear hW
  have c0 := H.get (b := w.heap.size) (o := 0) (v := .int .i64 x) (by simp)
  have c1 := H.get (b := w.heap.size) (o := 1) (v := .int .i64 y) (by simp)
  have c2 := H.get (b := w.heap.size + 1) (o := 0) (v := .int .i64 0) (by simp)
  have c3 := H.get (b := w.heap.size + 1) (o := 1) (v := .int .i64 y2) (by simp)
  have c4 := H.get (b := w.heap.size + 2) (o := 0) (v := .int .i64 0) (by simp)
  have c5 := H.get (b := w.heap.size + 2) (o := 1) (v := .int .i64 0) (by simp)
  have z0 := H.fz (b := w.heap.size + 2) (o := 0) (v := .int .i64 0) (by simp)
  have z1 := H.fz (b := w.heap.size + 2) (o := 1) (v := .int .i64 0) (by simp)
  obtain ⟨gs, g0, g1, gz⟩ := Gq.all (Gv.below hG H.below); obtain ⟨ss, s0, s1, sa, sb, sc⟩ := gv_shifts (Gv.below hS H.below)
  go_wp2_with (first | (go_at_call 149; refine (single_xy _ _ _).mono ?_; rintro e w' ⟨rfl, hb⟩; simp only [decide_true]; replace H := H.call hb; have c0 := H.get (b := w.heap.size) (o := 0) (v := .int .i64 x) (by simp); have c1 := H.get (b := w.heap.size) (o := 1) (v := .int .i64 y) (by simp); have c2 := H.get (b := w.heap.size + 1) (o := 0) (v := .int .i64 0) (by simp); have c3 := H.get (b := w.heap.size + 1) (o := 1) (v := .int .i64 y2) (by simp); have c4 := H.get (b := w.heap.size + 2) (o := 0) (v := .int .i64 0) (by simp); have c5 := H.get (b := w.heap.size + 2) (o := 1) (v := .int .i64 0) (by simp); have z0 := H.fz (b := w.heap.size + 2) (o := 0) (v := .int .i64 0) (by simp); have z1 := H.fz (b := w.heap.size + 2) (o := 1) (v := .int .i64 0) (by simp); obtain ⟨gs, g0, g1, gz⟩ := Gq.all (Gv.below hG H.below); obtain ⟨ss, s0, s1, sa, sb, sc⟩ := gv_shifts (Gv.below hS H.below)) | (go_at_call 137; refine (ihas_xy _ _ _ _).mono ?_; rintro e w' ⟨rfl, hb⟩; rw [hd]; replace H := H.call hb; have c0 := H.get (b := w.heap.size) (o := 0) (v := .int .i64 x) (by simp); have c1 := H.get (b := w.heap.size) (o := 1) (v := .int .i64 y) (by simp); have c2 := H.get (b := w.heap.size + 1) (o := 0) (v := .int .i64 0) (by simp); have c3 := H.get (b := w.heap.size + 1) (o := 1) (v := .int .i64 y2) (by simp); have c4 := H.get (b := w.heap.size + 2) (o := 0) (v := .int .i64 0) (by simp); have c5 := H.get (b := w.heap.size + 2) (o := 1) (v := .int .i64 0) (by simp); have z0 := H.fz (b := w.heap.size + 2) (o := 0) (v := .int .i64 0) (by simp); have z1 := H.fz (b := w.heap.size + 2) (o := 1) (v := .int .i64 0) (by simp); obtain ⟨gs, g0, g1, gz⟩ := Gq.all (Gv.below hG H.below); obtain ⟨ss, s0, s1, sa, sb, sc⟩ := gv_shifts (Gv.below hS H.below)))
  obtain ⟨f0, f1, fb⟩ := H.fill (b := w.heap.size + 2) (x := .int .i64 0) (y := .int .i64 0) (by simp) (by simp) (by omega) (.int .i64 1) (.int .i64 0)
  refine bodyPost_ret (results_two rfl _ _ (w.heap.size + 2) (.int .i64 1) (.int .i64 0) _ rfl f0 f1 Tryd.underlying26 rfl (by kernel_rfl)) rfl ?_
  exact ⟨rfl, fb⟩
set_option maxRecDepth 100000 in
set_option maxHeartbeats 4000000 in
theorem shiftR_in (x y y2 : Int) (w : World) (hG : Gq w) (hS : Gv w 4 (0, 31)) (hs : 0 ≤ y2 ∧ y2 ≤ 31) (h : qOk (x, y) = true) :
    Calls Tryd.prog 208 #[.agg #[.int .i64 x, .int .i64 y], .agg #[.int .i64 0, .int .i64 y2]] w fun e w' => e = .returned (.agg #[.int .i64 (make9 (x * 2 ^ y2.toNat) (y * 2 ^ y2.toNat)).1, .int .i64 (make9 (x * 2 ^ y2.toNat) (y * 2 ^ y2.toNat)).2]) ∧ Below w.heap.size w w' := by
  obtain ⟨W, hW, H⟩ := Hd.three w (.int .i64 x) (.int .i64 y) (.int .i64 0) (.int .i64 y2) (.int .i64 0) (.int .i64 0) 26 26 26
  have hd : (decide ((0 : Int) ≤ y2) && decide (y2 ≤ 31)) = true := by simp; exact hs
  have hx := (qOk_iff _).1 h
  simp only at hx
  have p1 := two_pow_pos y2.toNat
  have p2 := two_pow_le y2.toNat 31 (by omega)
  have e31 : (2 : Int) ^ 31 = 2147483648 := by decide
  obtain ⟨m2, m3⟩ := mul_bd x (2 ^ y2.toNat) ⟨by omega, by omega⟩ ⟨by omega, by omega⟩
  obtain ⟨m4, m5⟩ := mul_bd y (2 ^ y2.toNat) ⟨by omega, by omega⟩ ⟨by omega, by omega⟩
  have m6 : 0 ≤ x * 2 ^ y2.toNat := Int.mul_nonneg (by omega) (by omega)
  have hw0 : wrap64 (2 ^ y2.toNat) = 2 ^ y2.toNat := w64_id (by omega) (by omega)
  clear p2 e31
  have w1 : wrap64 (x * 2 ^ y2.toNat) = x * 2 ^ y2.toNat := w64_id (by omega) (by omega)
  have w2 : wrap64 (y * 2 ^ y2.toNat) = y * 2 ^ y2.toNat := w64_id (by omega) (by omega)
  have hm3 : ∀ w1 : World, Calls Tryd.prog 147 #[.int .i64 (y * 2 ^ y2.toNat), .int .i64 (x * 2 ^ y2.toNat)] w1 fun e w' => e = .returned (.agg #[.int .i64 (make9 (x * 2 ^ y2.toNat) (y * 2 ^ y2.toNat)).1, .int .i64 (make9 (x * 2 ^ y2.toNat) (y * 2 ^ y2.toNat)).2]) ∧ Below w1.heap.size w1 w' := fun w1 => restOf_any (y * 2 ^ y2.toNat) (x * 2 ^ y2.toNat) m6 (by omega) w1
  generalize make9 (x * 2 ^ y2.toNat) (y * 2 ^ y2.toNat) = q at *
  go_enter Tryd.func208, Tryd.ntmps208
  go_wp2_with fail
  rw [← hW]
  clear hW
  have c0 := H.get (b := w.heap.size) (o := 0) (v := .int .i64 x) (by simp)
  have c1 := H.get (b := w.heap.size) (o := 1) (v := .int .i64 y) (by simp)
  have c2 := H.get (b := w.heap.size + 1) (o := 0) (v := .int .i64 0) (by simp)
  have c3 := H.get (b := w.heap.size + 1) (o := 1) (v := .int .i64 y2) (by simp)
  have c4 := H.get (b := w.heap.size + 2) (o := 0) (v := .int .i64 0) (by simp)
  have c5 := H.get (b := w.heap.size + 2) (o := 1) (v := .int .i64 0) (by simp)
  have z0 := H.fz (b := w.heap.size + 2) (o := 0) (v := .int .i64 0) (by simp)
  have z1 := H.fz (b := w.heap.size + 2) (o := 1) (v := .int .i64 0) (by simp)
  obtain ⟨gs, g0, g1, gz⟩ := Gq.all (Gv.below hG H.below); obtain ⟨ss, s0, s1, sa, sb, sc⟩ := gv_shifts (Gv.below hS H.below)
  go_wp2_with (first | (go_at_call 149; refine (single_xy _ _ _).mono ?_; rintro e w' ⟨rfl, hb⟩; simp only [decide_true]; replace H := H.call hb; have c0 := H.get (b := w.heap.size) (o := 0) (v := .int .i64 x) (by simp); have c1 := H.get (b := w.heap.size) (o := 1) (v := .int .i64 y) (by simp); have c2 := H.get (b := w.heap.size + 1) (o := 0) (v := .int .i64 0) (by simp); have c3 := H.get (b := w.heap.size + 1) (o := 1) (v := .int .i64 y2) (by simp); have c4 := H.get (b := w.heap.size + 2) (o := 0) (v := .int .i64 0) (by simp); have c5 := H.get (b := w.heap.size + 2) (o := 1) (v := .int .i64 0) (by simp); have z0 := H.fz (b := w.heap.size + 2) (o := 0) (v := .int .i64 0) (by simp); have z1 := H.fz (b := w.heap.size + 2) (o := 1) (v := .int .i64 0) (by simp); obtain ⟨gs, g0, g1, gz⟩ := Gq.all (Gv.below hG H.below); obtain ⟨ss, s0, s1, sa, sb, sc⟩ := gv_shifts (Gv.below hS H.below)) | (go_at_call 137; refine (ihas_xy _ _ _ _).mono ?_; rintro e w' ⟨rfl, hb⟩; rw [hd]; replace H := H.call hb; have c0 := H.get (b := w.heap.size) (o := 0) (v := .int .i64 x) (by simp); have c1 := H.get (b := w.heap.size) (o := 1) (v := .int .i64 y) (by simp); have c2 := H.get (b := w.heap.size + 1) (o := 0) (v := .int .i64 0) (by simp); have c3 := H.get (b := w.heap.size + 1) (o := 1) (v := .int .i64 y2) (by simp); have c4 := H.get (b := w.heap.size + 2) (o := 0) (v := .int .i64 0) (by simp); have c5 := H.get (b := w.heap.size + 2) (o := 1) (v := .int .i64 0) (by simp); have z0 := H.fz (b := w.heap.size + 2) (o := 0) (v := .int .i64 0) (by simp); have z1 := H.fz (b := w.heap.size + 2) (o := 1) (v := .int .i64 0) (by simp); obtain ⟨gs, g0, g1, gz⟩ := Gq.all (Gv.below hG H.below); obtain ⟨ss, s0, s1, sa, sb, sc⟩ := gv_shifts (Gv.below hS H.below)) | (go_at_call 147; refine (hm3 _).mono ?_; rintro e w' ⟨rfl, hb⟩; replace H := H.call hb; have c0 := H.get (b := w.heap.size) (o := 0) (v := .int .i64 x) (by simp); have c1 := H.get (b := w.heap.size) (o := 1) (v := .int .i64 y) (by simp); have c2 := H.get (b := w.heap.size + 1) (o := 0) (v := .int .i64 0) (by simp); have c3 := H.get (b := w.heap.size + 1) (o := 1) (v := .int .i64 y2) (by simp); have c4 := H.get (b := w.heap.size + 2) (o := 0) (v := .int .i64 0) (by simp); have c5 := H.get (b := w.heap.size + 2) (o := 1) (v := .int .i64 0) (by simp); have z0 := H.fz (b := w.heap.size + 2) (o := 0) (v := .int .i64 0) (by simp); have z1 := H.fz (b := w.heap.size + 2) (o := 1) (v := .int .i64 0) (by simp)))
  obtain ⟨f0, f1, fb⟩ := H.fill (b := w.heap.size + 2) (x := .int .i64 0) (y := .int .i64 0) (by simp) (by simp) (by omega) (.int .i64 q.1) (.int .i64 q.2)
  refine bodyPost_ret (results_two rfl _ _ (w.heap.size + 2) (.int .i64 q.1) (.int .i64 q.2) _ rfl f0 f1 Tryd.underlying26 rfl (by kernel_rfl)) rfl ?_
  exact ⟨rfl, fb⟩
end Go.Proofs.YthbbgkpkijlclaaDoor.num
namespace Go.Proofs.YthbbgkpkijlclaaDoor.num
open Go.ChangeShapes Go.WideShapes Go.ChangeAt Go.RowKit Go.Maps
set_option linter.unusedVariables false

theorem intKey : Keyed Tryd.prog 3 := int_keyed Tryd.underlying3
/-- A function value as a datum: its number, and the block that it has caught, if any. -/
def fnD (K c : Nat) : DataW Unit := .agg [.lit (.int .i64 K), .lit (.int .i64 c)]
theorem fnD_inj {K c K' c' : Nat} (h : fnD K c = fnD K' c') : K = K' ∧ c = c' := by
  simp [fnD] at h
  omega
def fnElem : Value → Option (DataW Unit × List MemPlace)
  | .func (Fn.func K) f c => match f.toList, c.toList with
    | [], [] => some (fnD K 0, [])
    | [], [.pointer (some ⟨b, 0, none⟩)] => some (fnD K (b + 1), [])
    | _, _ => none
  | .nilFunc => some (.agg [], [])
  | _ => none
theorem fnElem_plain (K : Nat) : fnElem (.func (Fn.func K) #[] #[]) = some (fnD K 0, []) := rfl
theorem fnElem_held (K b : Nat) : fnElem (.func (Fn.func K) #[] #[.pointer (some ⟨b, 0, none⟩)]) = some (fnD K (b + 1), []) := rfl
theorem fnElem_nil : fnElem .nilFunc = some (.agg [], []) := rfl
/-- The value that reads so. -/
def fnV (K c : Nat) : Value := .func (Fn.func K) #[] (match c with | 0 => #[] | b + 1 => #[.pointer (some ⟨b, 0, none⟩)])
theorem fnElem_inv {v : Value} {K c : Nat} {ps : List MemPlace} (h : fnElem v = some (fnD K c, ps)) : v = fnV K c := by
  unfold fnElem at h
  split at h
  · rename_i K' f cc
    rcases f with ⟨f⟩
    rcases cc with ⟨cc⟩
    simp only at h
    split at h
    · simp at h
      obtain ⟨h1, h2⟩ := fnD_inj h.1
      subst h1 h2
      rfl
    · simp at h
      obtain ⟨h1, h2⟩ := fnD_inj h.1
      subst h1 h2
      rfl
    · cases h
  · simp [fnD] at h
  · cases h
theorem fnElem_inv_nil {v : Value} {ps : List MemPlace} (h : fnElem v = some (.agg [], ps)) : v = .nilFunc := by
  unfold fnElem at h
  split at h
  · split at h
    · simp [fnD] at h
    · simp [fnD] at h
    · cases h
  · rfl
  · cases h
section
variable {P : Program} (w : World) {ops : Array Oper} {rest : List Oper} {o : Oper} {a : Act} {Q : Exit → Act → World → Prop}
/-- A literal's entry. -/
theorem wpList_insert_fn (hg : o.guard = none) (m x v : Operand) (t : TypeId) (hop : o.op = Op.insert t m x v)
    (k e : TypeId) (K : Keyed P k) (ht : P.underlying t = some (.map k e)) (R : Value → Option (DataW Unit × List MemPlace)) (b n : Nat) (D : DataW Unit)
    (hm : a.eval m = .map (some b)) (hown : w.ownsMap P k R b n D) (hn : n < maxLen) (key val : Value) (kl : Lit) (hx : a.eval x = key) (hv : a.eval v = val) (hkey : keyOf P k key = some kl)
    (d : DataW Unit) (ps : List MemPlace) (hval : R val = some (d, ps))
    (hK : ∀ w', w'.ownsMap P k R b (n + 1) (D.put kl d) → w.mapTurned w' b → wpList P ops Q rest (a.put o.dst undef) w') :
    wpList P ops Q (o :: rest) a w := by
  refine wpList_plain hg fun K' hK' => ?_
  obtain ⟨w', hrun, r1, r2⟩ := hown.store K ht hn hkey hval
  unfold Oper.wp
  simp [execOp, hop, hm, hx, hv, hrun, Result.andThen]
  exact hK' _ _ (hK w' r1 r2)
/-- 'm[k]' at function values. -/
theorem wpList_lookup_fn (hg : o.guard = none) (m x : Operand) (t : TypeId) (hop : o.op = Op.lookup t m x false)
    (k e : TypeId) (K : Keyed P k) (ht : P.underlying t = some (.map k e)) (hz : (zeroValue e).run P w = .ok .nilFunc w) (b n : Nat) (D : DataW Unit)
    (hm : a.eval m = .map (some b)) (hown : w.ownsMap P k fnElem b n D) (key : Value) (kl : Lit) (hx : a.eval x = key) (hkey : keyOf P k key = some kl) (u : Value)
    (hu : (∃ Kf c, D.atKey kl (.agg []) = fnD Kf c ∧ u = fnV Kf c) ∨ (D.atKey kl (.agg []) = .agg [] ∧ u = .nilFunc))
    (hK : wpList P ops Q rest (a.put o.dst u) w) :
    wpList P ops Q (o :: rest) a w := by
  refine wpList_plain hg fun K' hK' => ?_
  obtain ⟨v, ps, hrun, hv⟩ := hown.lookup K ht hz fnElem_nil hkey
  have hvu : v = u := by
    rcases hu with ⟨Kf, c, h1, h2⟩ | ⟨h1, h2⟩
    · rw [h1] at hv
      rw [h2]; exact fnElem_inv hv
    · rw [h1] at hv
      rw [h2]; exact fnElem_inv_nil hv
  subst hvu
  unfold Oper.wp
  simp [execOp, hop, hm, hx, hrun, Result.andThen]
  exact hK' _ _ hK
end
theorem zeroFn (w : World) : (zeroValue 84).run Tryd.prog w = .ok .nilFunc w := by kernel_rfl
theorem keyInt (n : Int) (h : (Lit.int .i64 n).wf = true) : keyOf Tryd.prog 3 (.int .i64 n) = some (.int .i64 n) := by
  exact keyOf_int_mk Tryd.underlying3 h
end Go.Proofs.YthbbgkpkijlclaaDoor.num
namespace Go.Proofs.YthbbgkpkijlclaaDoor.num
open Go.ChangeShapes Go.WideShapes Go.ChangeAt Go.RowKit Go.Maps
set_option linter.unusedVariables false

def tabD (c : Nat) : DataW Unit := (((((((((DataW.map [] : DataW Unit).put (.int .i64 1) (fnD 204 (c + 1))).put (.int .i64 11) (fnD 204 (c + 1))).put (.int .i64 2) (fnD 205 (c + 1))).put (.int .i64 12) (fnD 205 (c + 1))).put (.int .i64 3) (fnD 206 (c + 1))).put (.int .i64 13) (fnD 206 (c + 1))).put (.int .i64 9) (fnD 208 0)).put (.int .i64 5) (fnD 209 0))
set_option maxRecDepth 100000 in
set_option maxHeartbeats 4000000 in
theorem restOper_1 (w : World) :
    Calls Tryd.prog 157 #[.int .i64 1] w fun e w' => e = .returned (fnV 204 (w.heap.size + 1)) ∧ w'.cell? ⟨w.heap.size, 0, none⟩ = some (.int .i64 0) ∧ w.heap.size < w'.heap.size ∧ Below w.heap.size w w' := by
  have hmm := @run_makeMap Tryd.prog
  have hmf : ∀ (fn : Fn) (first cap : Array Value) (w : World), (Instr.makeFunc fn first cap).run Tryd.prog w = .ok (.func fn first cap) w := fun _ _ _ _ => rfl
  obtain ⟨W, hW0⟩ : ∃ W, W = w.alloc (.cells #[.int .i64 0] 3) := ⟨_, rfl⟩
  have hWs : W.heap.size = w.heap.size + 1 := by rw [hW0]; simp
  have hWc : W.cell? ⟨w.heap.size, 0, none⟩ = some (.int .i64 0) := by rw [hW0]; simp [go_sem]
  have hWb : Below w.heap.size w W := by rw [hW0]; exact (Below.refl _ _).alloc (Nat.le_refl _) _
  have hown : (W.alloc (.map #[] 0)).ownsMap Tryd.prog 3 fnElem W.heap.size 0 (.map []) := World.ownsMap_made _ _ _ _
  have hb : Below (w.heap.size + 1) W (W.alloc (.map #[] 0)) := (Below.refl _ _).alloc (by omega) _
  rw [hWs] at hown
  have hW : w.heap.size + 1 ≤ w.heap.size + 1 := Nat.le_refl _
  have hu : (∃ Kf c, (tabD w.heap.size).atKey (.int .i64 1) (.agg []) = fnD Kf c ∧ fnV 204 (w.heap.size + 1) = fnV Kf c) ∨ ((tabD w.heap.size).atKey (.int .i64 1) (.agg []) = .agg [] ∧ fnV 204 (w.heap.size + 1) = .nilFunc) := .inl ⟨_, _, rfl, rfl⟩
  have hs : w.heap.size + 1 ≤ (W.alloc (.map #[] 0)).heap.size := by simp; omega
  subst hW0
  clear hWs
  go_enter Tryd.func157, Tryd.ntmps157
  go_wp2_with fail
  refine (opWraps_any _ _).mono ?_
  rintro e w' ⟨rfl, rfl⟩
  go_wp2_with (first | (guard_target =~ wpList _ _ _ (Oper.mk _ (Op.insert _ _ _ _) _ _ _ _ :: _) _ _; go_must (refine wpList_insert_fn _ rfl _ _ _ 171 rfl 3 84 intKey Tryd.underlying171 fnElem (w.heap.size + 1) _ _ rfl hown (by decide) _ _ _ rfl rfl (keyInt _ (by decide)) _ [] (by first | exact fnElem_held _ _ | exact fnElem_plain _) ?_); clear hown; intro w1 hown ht; replace hb := hb.grown ht.grown hs (fun j hj => by cases hj; exact hW); replace hs := Nat.le_trans hs ht.grown.size; clear ht) | (at_lookup; refine wpList_lookup_fn _ rfl _ _ 171 rfl 3 84 intKey Tryd.underlying171 (zeroFn _) (w.heap.size + 1) _ _ rfl hown _ _ rfl (keyInt _ (by decide)) _ hu ?_))
  go_ret
  refine ⟨rfl, ?_, hs, hWb.trans (hb.mono (Nat.le_succ _))⟩
  rw [hb.cell (p := ⟨w.heap.size, 0, none⟩) (Nat.lt_succ_self _)]
  exact hWc
set_option maxRecDepth 100000 in
set_option maxHeartbeats 4000000 in
theorem restOper_2 (w : World) :
    Calls Tryd.prog 157 #[.int .i64 2] w fun e w' => e = .returned (fnV 205 (w.heap.size + 1)) ∧ w'.cell? ⟨w.heap.size, 0, none⟩ = some (.int .i64 0) ∧ w.heap.size < w'.heap.size ∧ Below w.heap.size w w' := by
  have hmm := @run_makeMap Tryd.prog
  have hmf : ∀ (fn : Fn) (first cap : Array Value) (w : World), (Instr.makeFunc fn first cap).run Tryd.prog w = .ok (.func fn first cap) w := fun _ _ _ _ => rfl
  obtain ⟨W, hW0⟩ : ∃ W, W = w.alloc (.cells #[.int .i64 0] 3) := ⟨_, rfl⟩
  have hWs : W.heap.size = w.heap.size + 1 := by rw [hW0]; simp
  have hWc : W.cell? ⟨w.heap.size, 0, none⟩ = some (.int .i64 0) := by rw [hW0]; simp [go_sem]
  have hWb : Below w.heap.size w W := by rw [hW0]; exact (Below.refl _ _).alloc (Nat.le_refl _) _
  have hown : (W.alloc (.map #[] 0)).ownsMap Tryd.prog 3 fnElem W.heap.size 0 (.map []) := World.ownsMap_made _ _ _ _
  have hb : Below (w.heap.size + 1) W (W.alloc (.map #[] 0)) := (Below.refl _ _).alloc (by omega) _
  rw [hWs] at hown
  have hW : w.heap.size + 1 ≤ w.heap.size + 1 := Nat.le_refl _
  have hu : (∃ Kf c, (tabD w.heap.size).atKey (.int .i64 2) (.agg []) = fnD Kf c ∧ fnV 205 (w.heap.size + 1) = fnV Kf c) ∨ ((tabD w.heap.size).atKey (.int .i64 2) (.agg []) = .agg [] ∧ fnV 205 (w.heap.size + 1) = .nilFunc) := .inl ⟨_, _, rfl, rfl⟩
  have hs : w.heap.size + 1 ≤ (W.alloc (.map #[] 0)).heap.size := by simp; omega
  subst hW0
  clear hWs
  go_enter Tryd.func157, Tryd.ntmps157
  go_wp2_with fail
  refine (opWraps_any _ _).mono ?_
  rintro e w' ⟨rfl, rfl⟩
  go_wp2_with (first | (guard_target =~ wpList _ _ _ (Oper.mk _ (Op.insert _ _ _ _) _ _ _ _ :: _) _ _; go_must (refine wpList_insert_fn _ rfl _ _ _ 171 rfl 3 84 intKey Tryd.underlying171 fnElem (w.heap.size + 1) _ _ rfl hown (by decide) _ _ _ rfl rfl (keyInt _ (by decide)) _ [] (by first | exact fnElem_held _ _ | exact fnElem_plain _) ?_); clear hown; intro w1 hown ht; replace hb := hb.grown ht.grown hs (fun j hj => by cases hj; exact hW); replace hs := Nat.le_trans hs ht.grown.size; clear ht) | (at_lookup; refine wpList_lookup_fn _ rfl _ _ 171 rfl 3 84 intKey Tryd.underlying171 (zeroFn _) (w.heap.size + 1) _ _ rfl hown _ _ rfl (keyInt _ (by decide)) _ hu ?_))
  go_ret
  refine ⟨rfl, ?_, hs, hWb.trans (hb.mono (Nat.le_succ _))⟩
  rw [hb.cell (p := ⟨w.heap.size, 0, none⟩) (Nat.lt_succ_self _)]
  exact hWc
set_option maxRecDepth 100000 in
set_option maxHeartbeats 4000000 in
theorem restOper_3 (w : World) :
    Calls Tryd.prog 157 #[.int .i64 3] w fun e w' => e = .returned (fnV 206 (w.heap.size + 1)) ∧ w'.cell? ⟨w.heap.size, 0, none⟩ = some (.int .i64 0) ∧ w.heap.size < w'.heap.size ∧ Below w.heap.size w w' := by
  have hmm := @run_makeMap Tryd.prog
  have hmf : ∀ (fn : Fn) (first cap : Array Value) (w : World), (Instr.makeFunc fn first cap).run Tryd.prog w = .ok (.func fn first cap) w := fun _ _ _ _ => rfl
  obtain ⟨W, hW0⟩ : ∃ W, W = w.alloc (.cells #[.int .i64 0] 3) := ⟨_, rfl⟩
  have hWs : W.heap.size = w.heap.size + 1 := by rw [hW0]; simp
  have hWc : W.cell? ⟨w.heap.size, 0, none⟩ = some (.int .i64 0) := by rw [hW0]; simp [go_sem]
  have hWb : Below w.heap.size w W := by rw [hW0]; exact (Below.refl _ _).alloc (Nat.le_refl _) _
  have hown : (W.alloc (.map #[] 0)).ownsMap Tryd.prog 3 fnElem W.heap.size 0 (.map []) := World.ownsMap_made _ _ _ _
  have hb : Below (w.heap.size + 1) W (W.alloc (.map #[] 0)) := (Below.refl _ _).alloc (by omega) _
  rw [hWs] at hown
  have hW : w.heap.size + 1 ≤ w.heap.size + 1 := Nat.le_refl _
  have hu : (∃ Kf c, (tabD w.heap.size).atKey (.int .i64 3) (.agg []) = fnD Kf c ∧ fnV 206 (w.heap.size + 1) = fnV Kf c) ∨ ((tabD w.heap.size).atKey (.int .i64 3) (.agg []) = .agg [] ∧ fnV 206 (w.heap.size + 1) = .nilFunc) := .inl ⟨_, _, rfl, rfl⟩
  have hs : w.heap.size + 1 ≤ (W.alloc (.map #[] 0)).heap.size := by simp; omega
  subst hW0
  clear hWs
  go_enter Tryd.func157, Tryd.ntmps157
  go_wp2_with fail
  refine (opWraps_any _ _).mono ?_
  rintro e w' ⟨rfl, rfl⟩
  go_wp2_with (first | (guard_target =~ wpList _ _ _ (Oper.mk _ (Op.insert _ _ _ _) _ _ _ _ :: _) _ _; go_must (refine wpList_insert_fn _ rfl _ _ _ 171 rfl 3 84 intKey Tryd.underlying171 fnElem (w.heap.size + 1) _ _ rfl hown (by decide) _ _ _ rfl rfl (keyInt _ (by decide)) _ [] (by first | exact fnElem_held _ _ | exact fnElem_plain _) ?_); clear hown; intro w1 hown ht; replace hb := hb.grown ht.grown hs (fun j hj => by cases hj; exact hW); replace hs := Nat.le_trans hs ht.grown.size; clear ht) | (at_lookup; refine wpList_lookup_fn _ rfl _ _ 171 rfl 3 84 intKey Tryd.underlying171 (zeroFn _) (w.heap.size + 1) _ _ rfl hown _ _ rfl (keyInt _ (by decide)) _ hu ?_))
  go_ret
  refine ⟨rfl, ?_, hs, hWb.trans (hb.mono (Nat.le_succ _))⟩
  rw [hb.cell (p := ⟨w.heap.size, 0, none⟩) (Nat.lt_succ_self _)]
  exact hWc
set_option maxRecDepth 100000 in
set_option maxHeartbeats 4000000 in
theorem restOper_11 (w : World) :
    Calls Tryd.prog 157 #[.int .i64 11] w fun e w' => e = .returned (fnV 204 (w.heap.size + 1)) ∧ w'.cell? ⟨w.heap.size, 0, none⟩ = some (.int .i64 4294967296) ∧ w.heap.size < w'.heap.size ∧ Below w.heap.size w w' := by
  have hmm := @run_makeMap Tryd.prog
  have hmf : ∀ (fn : Fn) (first cap : Array Value) (w : World), (Instr.makeFunc fn first cap).run Tryd.prog w = .ok (.func fn first cap) w := fun _ _ _ _ => rfl
  obtain ⟨W, hW0⟩ : ∃ W, W = w.alloc (.cells #[.int .i64 4294967296] 3) := ⟨_, rfl⟩
  have hWs : W.heap.size = w.heap.size + 1 := by rw [hW0]; simp
  have hWc : W.cell? ⟨w.heap.size, 0, none⟩ = some (.int .i64 4294967296) := by rw [hW0]; simp [go_sem]
  have hWb : Below w.heap.size w W := by rw [hW0]; exact (Below.refl _ _).alloc (Nat.le_refl _) _
  have hown : (W.alloc (.map #[] 0)).ownsMap Tryd.prog 3 fnElem W.heap.size 0 (.map []) := World.ownsMap_made _ _ _ _
  have hb : Below (w.heap.size + 1) W (W.alloc (.map #[] 0)) := (Below.refl _ _).alloc (by omega) _
  rw [hWs] at hown
  have hW : w.heap.size + 1 ≤ w.heap.size + 1 := Nat.le_refl _
  have hu : (∃ Kf c, (tabD w.heap.size).atKey (.int .i64 11) (.agg []) = fnD Kf c ∧ fnV 204 (w.heap.size + 1) = fnV Kf c) ∨ ((tabD w.heap.size).atKey (.int .i64 11) (.agg []) = .agg [] ∧ fnV 204 (w.heap.size + 1) = .nilFunc) := .inl ⟨_, _, rfl, rfl⟩
  have hs : w.heap.size + 1 ≤ (W.alloc (.map #[] 0)).heap.size := by simp; omega
  subst hW0
  clear hWs
  go_enter Tryd.func157, Tryd.ntmps157
  go_wp2_with fail
  refine (opWraps_any _ _).mono ?_
  rintro e w' ⟨rfl, rfl⟩
  go_wp2_with (first | (guard_target =~ wpList _ _ _ (Oper.mk _ (Op.insert _ _ _ _) _ _ _ _ :: _) _ _; go_must (refine wpList_insert_fn _ rfl _ _ _ 171 rfl 3 84 intKey Tryd.underlying171 fnElem (w.heap.size + 1) _ _ rfl hown (by decide) _ _ _ rfl rfl (keyInt _ (by decide)) _ [] (by first | exact fnElem_held _ _ | exact fnElem_plain _) ?_); clear hown; intro w1 hown ht; replace hb := hb.grown ht.grown hs (fun j hj => by cases hj; exact hW); replace hs := Nat.le_trans hs ht.grown.size; clear ht) | (at_lookup; refine wpList_lookup_fn _ rfl _ _ 171 rfl 3 84 intKey Tryd.underlying171 (zeroFn _) (w.heap.size + 1) _ _ rfl hown _ _ rfl (keyInt _ (by decide)) _ hu ?_))
  go_ret
  refine ⟨rfl, ?_, hs, hWb.trans (hb.mono (Nat.le_succ _))⟩
  rw [hb.cell (p := ⟨w.heap.size, 0, none⟩) (Nat.lt_succ_self _)]
  exact hWc
set_option maxRecDepth 100000 in
set_option maxHeartbeats 4000000 in
theorem restOper_12 (w : World) :
    Calls Tryd.prog 157 #[.int .i64 12] w fun e w' => e = .returned (fnV 205 (w.heap.size + 1)) ∧ w'.cell? ⟨w.heap.size, 0, none⟩ = some (.int .i64 4294967296) ∧ w.heap.size < w'.heap.size ∧ Below w.heap.size w w' := by
  have hmm := @run_makeMap Tryd.prog
  have hmf : ∀ (fn : Fn) (first cap : Array Value) (w : World), (Instr.makeFunc fn first cap).run Tryd.prog w = .ok (.func fn first cap) w := fun _ _ _ _ => rfl
  obtain ⟨W, hW0⟩ : ∃ W, W = w.alloc (.cells #[.int .i64 4294967296] 3) := ⟨_, rfl⟩
  have hWs : W.heap.size = w.heap.size + 1 := by rw [hW0]; simp
  have hWc : W.cell? ⟨w.heap.size, 0, none⟩ = some (.int .i64 4294967296) := by rw [hW0]; simp [go_sem]
  have hWb : Below w.heap.size w W := by rw [hW0]; exact (Below.refl _ _).alloc (Nat.le_refl _) _
  have hown : (W.alloc (.map #[] 0)).ownsMap Tryd.prog 3 fnElem W.heap.size 0 (.map []) := World.ownsMap_made _ _ _ _
  have hb : Below (w.heap.size + 1) W (W.alloc (.map #[] 0)) := (Below.refl _ _).alloc (by omega) _
  rw [hWs] at hown
  have hW : w.heap.size + 1 ≤ w.heap.size + 1 := Nat.le_refl _
  have hu : (∃ Kf c, (tabD w.heap.size).atKey (.int .i64 12) (.agg []) = fnD Kf c ∧ fnV 205 (w.heap.size + 1) = fnV Kf c) ∨ ((tabD w.heap.size).atKey (.int .i64 12) (.agg []) = .agg [] ∧ fnV 205 (w.heap.size + 1) = .nilFunc) := .inl ⟨_, _, rfl, rfl⟩
  have hs : w.heap.size + 1 ≤ (W.alloc (.map #[] 0)).heap.size := by simp; omega
  subst hW0
  clear hWs
  go_enter Tryd.func157, Tryd.ntmps157
  go_wp2_with fail
  refine (opWraps_any _ _).mono ?_
  rintro e w' ⟨rfl, rfl⟩
  go_wp2_with (first | (guard_target =~ wpList _ _ _ (Oper.mk _ (Op.insert _ _ _ _) _ _ _ _ :: _) _ _; go_must (refine wpList_insert_fn _ rfl _ _ _ 171 rfl 3 84 intKey Tryd.underlying171 fnElem (w.heap.size + 1) _ _ rfl hown (by decide) _ _ _ rfl rfl (keyInt _ (by decide)) _ [] (by first | exact fnElem_held _ _ | exact fnElem_plain _) ?_); clear hown; intro w1 hown ht; replace hb := hb.grown ht.grown hs (fun j hj => by cases hj; exact hW); replace hs := Nat.le_trans hs ht.grown.size; clear ht) | (at_lookup; refine wpList_lookup_fn _ rfl _ _ 171 rfl 3 84 intKey Tryd.underlying171 (zeroFn _) (w.heap.size + 1) _ _ rfl hown _ _ rfl (keyInt _ (by decide)) _ hu ?_))
  go_ret
  refine ⟨rfl, ?_, hs, hWb.trans (hb.mono (Nat.le_succ _))⟩
  rw [hb.cell (p := ⟨w.heap.size, 0, none⟩) (Nat.lt_succ_self _)]
  exact hWc
set_option maxRecDepth 100000 in
set_option maxHeartbeats 4000000 in
theorem restOper_13 (w : World) :
    Calls Tryd.prog 157 #[.int .i64 13] w fun e w' => e = .returned (fnV 206 (w.heap.size + 1)) ∧ w'.cell? ⟨w.heap.size, 0, none⟩ = some (.int .i64 4294967296) ∧ w.heap.size < w'.heap.size ∧ Below w.heap.size w w' := by
  have hmm := @run_makeMap Tryd.prog
  have hmf : ∀ (fn : Fn) (first cap : Array Value) (w : World), (Instr.makeFunc fn first cap).run Tryd.prog w = .ok (.func fn first cap) w := fun _ _ _ _ => rfl
  obtain ⟨W, hW0⟩ : ∃ W, W = w.alloc (.cells #[.int .i64 4294967296] 3) := ⟨_, rfl⟩
  have hWs : W.heap.size = w.heap.size + 1 := by rw [hW0]; simp
  have hWc : W.cell? ⟨w.heap.size, 0, none⟩ = some (.int .i64 4294967296) := by rw [hW0]; simp [go_sem]
  have hWb : Below w.heap.size w W := by rw [hW0]; exact (Below.refl _ _).alloc (Nat.le_refl _) _
  have hown : (W.alloc (.map #[] 0)).ownsMap Tryd.prog 3 fnElem W.heap.size 0 (.map []) := World.ownsMap_made _ _ _ _
  have hb : Below (w.heap.size + 1) W (W.alloc (.map #[] 0)) := (Below.refl _ _).alloc (by omega) _
  rw [hWs] at hown
  have hW : w.heap.size + 1 ≤ w.heap.size + 1 := Nat.le_refl _
  have hu : (∃ Kf c, (tabD w.heap.size).atKey (.int .i64 13) (.agg []) = fnD Kf c ∧ fnV 206 (w.heap.size + 1) = fnV Kf c) ∨ ((tabD w.heap.size).atKey (.int .i64 13) (.agg []) = .agg [] ∧ fnV 206 (w.heap.size + 1) = .nilFunc) := .inl ⟨_, _, rfl, rfl⟩
  have hs : w.heap.size + 1 ≤ (W.alloc (.map #[] 0)).heap.size := by simp; omega
  subst hW0
  clear hWs
  go_enter Tryd.func157, Tryd.ntmps157
  go_wp2_with fail
  refine (opWraps_any _ _).mono ?_
  rintro e w' ⟨rfl, rfl⟩
  go_wp2_with (first | (guard_target =~ wpList _ _ _ (Oper.mk _ (Op.insert _ _ _ _) _ _ _ _ :: _) _ _; go_must (refine wpList_insert_fn _ rfl _ _ _ 171 rfl 3 84 intKey Tryd.underlying171 fnElem (w.heap.size + 1) _ _ rfl hown (by decide) _ _ _ rfl rfl (keyInt _ (by decide)) _ [] (by first | exact fnElem_held _ _ | exact fnElem_plain _) ?_); clear hown; intro w1 hown ht; replace hb := hb.grown ht.grown hs (fun j hj => by cases hj; exact hW); replace hs := Nat.le_trans hs ht.grown.size; clear ht) | (at_lookup; refine wpList_lookup_fn _ rfl _ _ 171 rfl 3 84 intKey Tryd.underlying171 (zeroFn _) (w.heap.size + 1) _ _ rfl hown _ _ rfl (keyInt _ (by decide)) _ hu ?_))
  go_ret
  refine ⟨rfl, ?_, hs, hWb.trans (hb.mono (Nat.le_succ _))⟩
  rw [hb.cell (p := ⟨w.heap.size, 0, none⟩) (Nat.lt_succ_self _)]
  exact hWc
set_option maxRecDepth 100000 in
set_option maxHeartbeats 4000000 in
theorem restOper_9 (w : World) :
    Calls Tryd.prog 157 #[.int .i64 9] w fun e w' => e = .returned (fnV 208 0) ∧ w'.cell? ⟨w.heap.size, 0, none⟩ = some (.int .i64 0) ∧ w.heap.size < w'.heap.size ∧ Below w.heap.size w w' := by
  have hmm := @run_makeMap Tryd.prog
  have hmf : ∀ (fn : Fn) (first cap : Array Value) (w : World), (Instr.makeFunc fn first cap).run Tryd.prog w = .ok (.func fn first cap) w := fun _ _ _ _ => rfl
  obtain ⟨W, hW0⟩ : ∃ W, W = w.alloc (.cells #[.int .i64 0] 3) := ⟨_, rfl⟩
  have hWs : W.heap.size = w.heap.size + 1 := by rw [hW0]; simp
  have hWc : W.cell? ⟨w.heap.size, 0, none⟩ = some (.int .i64 0) := by rw [hW0]; simp [go_sem]
  have hWb : Below w.heap.size w W := by rw [hW0]; exact (Below.refl _ _).alloc (Nat.le_refl _) _
  have hown : (W.alloc (.map #[] 0)).ownsMap Tryd.prog 3 fnElem W.heap.size 0 (.map []) := World.ownsMap_made _ _ _ _
  have hb : Below (w.heap.size + 1) W (W.alloc (.map #[] 0)) := (Below.refl _ _).alloc (by omega) _
  rw [hWs] at hown
  have hW : w.heap.size + 1 ≤ w.heap.size + 1 := Nat.le_refl _
  have hu : (∃ Kf c, (tabD w.heap.size).atKey (.int .i64 9) (.agg []) = fnD Kf c ∧ fnV 208 0 = fnV Kf c) ∨ ((tabD w.heap.size).atKey (.int .i64 9) (.agg []) = .agg [] ∧ fnV 208 0 = .nilFunc) := .inl ⟨_, _, rfl, rfl⟩
  have hs : w.heap.size + 1 ≤ (W.alloc (.map #[] 0)).heap.size := by simp; omega
  subst hW0
  clear hWs
  go_enter Tryd.func157, Tryd.ntmps157
  go_wp2_with fail
  refine (opWraps_any _ _).mono ?_
  rintro e w' ⟨rfl, rfl⟩
  go_wp2_with (first | (guard_target =~ wpList _ _ _ (Oper.mk _ (Op.insert _ _ _ _) _ _ _ _ :: _) _ _; go_must (refine wpList_insert_fn _ rfl _ _ _ 171 rfl 3 84 intKey Tryd.underlying171 fnElem (w.heap.size + 1) _ _ rfl hown (by decide) _ _ _ rfl rfl (keyInt _ (by decide)) _ [] (by first | exact fnElem_held _ _ | exact fnElem_plain _) ?_); clear hown; intro w1 hown ht; replace hb := hb.grown ht.grown hs (fun j hj => by cases hj; exact hW); replace hs := Nat.le_trans hs ht.grown.size; clear ht) | (at_lookup; refine wpList_lookup_fn _ rfl _ _ 171 rfl 3 84 intKey Tryd.underlying171 (zeroFn _) (w.heap.size + 1) _ _ rfl hown _ _ rfl (keyInt _ (by decide)) _ hu ?_))
  go_ret
  refine ⟨rfl, ?_, hs, hWb.trans (hb.mono (Nat.le_succ _))⟩
  rw [hb.cell (p := ⟨w.heap.size, 0, none⟩) (Nat.lt_succ_self _)]
  exact hWc
set_option maxRecDepth 100000 in
set_option maxHeartbeats 4000000 in
theorem restOper_5 (w : World) :
    Calls Tryd.prog 157 #[.int .i64 5] w fun e w' => e = .returned (fnV 209 0) ∧ w'.cell? ⟨w.heap.size, 0, none⟩ = some (.int .i64 0) ∧ w.heap.size < w'.heap.size ∧ Below w.heap.size w w' := by
  have hmm := @run_makeMap Tryd.prog
  have hmf : ∀ (fn : Fn) (first cap : Array Value) (w : World), (Instr.makeFunc fn first cap).run Tryd.prog w = .ok (.func fn first cap) w := fun _ _ _ _ => rfl
  obtain ⟨W, hW0⟩ : ∃ W, W = w.alloc (.cells #[.int .i64 0] 3) := ⟨_, rfl⟩
  have hWs : W.heap.size = w.heap.size + 1 := by rw [hW0]; simp
  have hWc : W.cell? ⟨w.heap.size, 0, none⟩ = some (.int .i64 0) := by rw [hW0]; simp [go_sem]
  have hWb : Below w.heap.size w W := by rw [hW0]; exact (Below.refl _ _).alloc (Nat.le_refl _) _
  have hown : (W.alloc (.map #[] 0)).ownsMap Tryd.prog 3 fnElem W.heap.size 0 (.map []) := World.ownsMap_made _ _ _ _
  have hb : Below (w.heap.size + 1) W (W.alloc (.map #[] 0)) := (Below.refl _ _).alloc (by omega) _
  rw [hWs] at hown
  have hW : w.heap.size + 1 ≤ w.heap.size + 1 := Nat.le_refl _
  have hu : (∃ Kf c, (tabD w.heap.size).atKey (.int .i64 5) (.agg []) = fnD Kf c ∧ fnV 209 0 = fnV Kf c) ∨ ((tabD w.heap.size).atKey (.int .i64 5) (.agg []) = .agg [] ∧ fnV 209 0 = .nilFunc) := .inl ⟨_, _, rfl, rfl⟩
  have hs : w.heap.size + 1 ≤ (W.alloc (.map #[] 0)).heap.size := by simp; omega
  subst hW0
  clear hWs
  go_enter Tryd.func157, Tryd.ntmps157
  go_wp2_with fail
  refine (opWraps_any _ _).mono ?_
  rintro e w' ⟨rfl, rfl⟩
  go_wp2_with (first | (guard_target =~ wpList _ _ _ (Oper.mk _ (Op.insert _ _ _ _) _ _ _ _ :: _) _ _; go_must (refine wpList_insert_fn _ rfl _ _ _ 171 rfl 3 84 intKey Tryd.underlying171 fnElem (w.heap.size + 1) _ _ rfl hown (by decide) _ _ _ rfl rfl (keyInt _ (by decide)) _ [] (by first | exact fnElem_held _ _ | exact fnElem_plain _) ?_); clear hown; intro w1 hown ht; replace hb := hb.grown ht.grown hs (fun j hj => by cases hj; exact hW); replace hs := Nat.le_trans hs ht.grown.size; clear ht) | (at_lookup; refine wpList_lookup_fn _ rfl _ _ 171 rfl 3 84 intKey Tryd.underlying171 (zeroFn _) (w.heap.size + 1) _ _ rfl hown _ _ rfl (keyInt _ (by decide)) _ hu ?_))
  go_ret
  refine ⟨rfl, ?_, hs, hWb.trans (hb.mono (Nat.le_succ _))⟩
  rw [hb.cell (p := ⟨w.heap.size, 0, none⟩) (Nat.lt_succ_self _)]
  exact hWc
end Go.Proofs.YthbbgkpkijlclaaDoor.num
namespace Go.Proofs.YthbbgkpkijlclaaDoor.num
open Go.ChangeShapes Go.WideShapes Go.ChangeAt Go.RowKit Go.Maps
set_option linter.unusedVariables false

set_option maxRecDepth 100000 in
set_option maxHeartbeats 4000000 in
theorem restOper_4 (w : World) :
    Calls Tryd.prog 157 #[.int .i64 4] w fun e w' => e = .returned (.nilFunc) ∧ w'.cell? ⟨w.heap.size, 0, none⟩ = some (.int .i64 0) ∧ w.heap.size < w'.heap.size ∧ Below w.heap.size w w' := by
  have hmm := @run_makeMap Tryd.prog
  have hmf : ∀ (fn : Fn) (first cap : Array Value) (w : World), (Instr.makeFunc fn first cap).run Tryd.prog w = .ok (.func fn first cap) w := fun _ _ _ _ => rfl
  obtain ⟨W, hW0⟩ : ∃ W, W = w.alloc (.cells #[.int .i64 0] 3) := ⟨_, rfl⟩
  have hWs : W.heap.size = w.heap.size + 1 := by rw [hW0]; simp
  have hWc : W.cell? ⟨w.heap.size, 0, none⟩ = some (.int .i64 0) := by rw [hW0]; simp [go_sem]
  have hWb : Below w.heap.size w W := by rw [hW0]; exact (Below.refl _ _).alloc (Nat.le_refl _) _
  have hown : (W.alloc (.map #[] 0)).ownsMap Tryd.prog 3 fnElem W.heap.size 0 (.map []) := World.ownsMap_made _ _ _ _
  have hb : Below (w.heap.size + 1) W (W.alloc (.map #[] 0)) := (Below.refl _ _).alloc (by omega) _
  rw [hWs] at hown
  have hW : w.heap.size + 1 ≤ w.heap.size + 1 := Nat.le_refl _
  have hu : (∃ Kf c, (tabD w.heap.size).atKey (.int .i64 4) (.agg []) = fnD Kf c ∧ Value.nilFunc = fnV Kf c) ∨ ((tabD w.heap.size).atKey (.int .i64 4) (.agg []) = .agg [] ∧ Value.nilFunc = .nilFunc) := .inr ⟨rfl, rfl⟩
  have hs : w.heap.size + 1 ≤ (W.alloc (.map #[] 0)).heap.size := by simp; omega
  subst hW0
  clear hWs
  go_enter Tryd.func157, Tryd.ntmps157
  go_wp2_with fail
  refine (opWraps_any _ _).mono ?_
  rintro e w' ⟨rfl, rfl⟩
  go_wp2_with (first | (guard_target =~ wpList _ _ _ (Oper.mk _ (Op.insert _ _ _ _) _ _ _ _ :: _) _ _; go_must (refine wpList_insert_fn _ rfl _ _ _ 171 rfl 3 84 intKey Tryd.underlying171 fnElem (w.heap.size + 1) _ _ rfl hown (by decide) _ _ _ rfl rfl (keyInt _ (by decide)) _ [] (by first | exact fnElem_held _ _ | exact fnElem_plain _) ?_); clear hown; intro w1 hown ht; replace hb := hb.grown ht.grown hs (fun j hj => by cases hj; exact hW); replace hs := Nat.le_trans hs ht.grown.size; clear ht) | (at_lookup; refine wpList_lookup_fn _ rfl _ _ 171 rfl 3 84 intKey Tryd.underlying171 (zeroFn _) (w.heap.size + 1) _ _ rfl hown _ _ rfl (keyInt _ (by decide)) Value.nilFunc (.inr ⟨rfl, rfl⟩) ?_))
  go_ret
  refine ⟨rfl, ?_, hs, hWb.trans (hb.mono (Nat.le_succ _))⟩
  rw [hb.cell (p := ⟨w.heap.size, 0, none⟩) (Nat.lt_succ_self _)]
  exact hWc
set_option maxRecDepth 100000 in
set_option maxHeartbeats 4000000 in
theorem restOper_6 (w : World) :
    Calls Tryd.prog 157 #[.int .i64 6] w fun e w' => e = .returned (.nilFunc) ∧ w'.cell? ⟨w.heap.size, 0, none⟩ = some (.int .i64 0) ∧ w.heap.size < w'.heap.size ∧ Below w.heap.size w w' := by
  have hmm := @run_makeMap Tryd.prog
  have hmf : ∀ (fn : Fn) (first cap : Array Value) (w : World), (Instr.makeFunc fn first cap).run Tryd.prog w = .ok (.func fn first cap) w := fun _ _ _ _ => rfl
  obtain ⟨W, hW0⟩ : ∃ W, W = w.alloc (.cells #[.int .i64 0] 3) := ⟨_, rfl⟩
  have hWs : W.heap.size = w.heap.size + 1 := by rw [hW0]; simp
  have hWc : W.cell? ⟨w.heap.size, 0, none⟩ = some (.int .i64 0) := by rw [hW0]; simp [go_sem]
  have hWb : Below w.heap.size w W := by rw [hW0]; exact (Below.refl _ _).alloc (Nat.le_refl _) _
  have hown : (W.alloc (.map #[] 0)).ownsMap Tryd.prog 3 fnElem W.heap.size 0 (.map []) := World.ownsMap_made _ _ _ _
  have hb : Below (w.heap.size + 1) W (W.alloc (.map #[] 0)) := (Below.refl _ _).alloc (by omega) _
  rw [hWs] at hown
  have hW : w.heap.size + 1 ≤ w.heap.size + 1 := Nat.le_refl _
  have hu : (∃ Kf c, (tabD w.heap.size).atKey (.int .i64 6) (.agg []) = fnD Kf c ∧ Value.nilFunc = fnV Kf c) ∨ ((tabD w.heap.size).atKey (.int .i64 6) (.agg []) = .agg [] ∧ Value.nilFunc = .nilFunc) := .inr ⟨rfl, rfl⟩
  have hs : w.heap.size + 1 ≤ (W.alloc (.map #[] 0)).heap.size := by simp; omega
  subst hW0
  clear hWs
  go_enter Tryd.func157, Tryd.ntmps157
  go_wp2_with fail
  refine (opWraps_any _ _).mono ?_
  rintro e w' ⟨rfl, rfl⟩
  go_wp2_with (first | (guard_target =~ wpList _ _ _ (Oper.mk _ (Op.insert _ _ _ _) _ _ _ _ :: _) _ _; go_must (refine wpList_insert_fn _ rfl _ _ _ 171 rfl 3 84 intKey Tryd.underlying171 fnElem (w.heap.size + 1) _ _ rfl hown (by decide) _ _ _ rfl rfl (keyInt _ (by decide)) _ [] (by first | exact fnElem_held _ _ | exact fnElem_plain _) ?_); clear hown; intro w1 hown ht; replace hb := hb.grown ht.grown hs (fun j hj => by cases hj; exact hW); replace hs := Nat.le_trans hs ht.grown.size; clear ht) | (at_lookup; refine wpList_lookup_fn _ rfl _ _ 171 rfl 3 84 intKey Tryd.underlying171 (zeroFn _) (w.heap.size + 1) _ _ rfl hown _ _ rfl (keyInt _ (by decide)) Value.nilFunc (.inr ⟨rfl, rfl⟩) ?_))
  go_ret
  refine ⟨rfl, ?_, hs, hWb.trans (hb.mono (Nat.le_succ _))⟩
  rw [hb.cell (p := ⟨w.heap.size, 0, none⟩) (Nat.lt_succ_self _)]
  exact hWc
set_option maxRecDepth 100000 in
set_option maxHeartbeats 4000000 in
theorem restOper_7 (w : World) :
    Calls Tryd.prog 157 #[.int .i64 7] w fun e w' => e = .returned (.nilFunc) ∧ w'.cell? ⟨w.heap.size, 0, none⟩ = some (.int .i64 0) ∧ w.heap.size < w'.heap.size ∧ Below w.heap.size w w' := by
  have hmm := @run_makeMap Tryd.prog
  have hmf : ∀ (fn : Fn) (first cap : Array Value) (w : World), (Instr.makeFunc fn first cap).run Tryd.prog w = .ok (.func fn first cap) w := fun _ _ _ _ => rfl
  obtain ⟨W, hW0⟩ : ∃ W, W = w.alloc (.cells #[.int .i64 0] 3) := ⟨_, rfl⟩
  have hWs : W.heap.size = w.heap.size + 1 := by rw [hW0]; simp
  have hWc : W.cell? ⟨w.heap.size, 0, none⟩ = some (.int .i64 0) := by rw [hW0]; simp [go_sem]
  have hWb : Below w.heap.size w W := by rw [hW0]; exact (Below.refl _ _).alloc (Nat.le_refl _) _
  have hown : (W.alloc (.map #[] 0)).ownsMap Tryd.prog 3 fnElem W.heap.size 0 (.map []) := World.ownsMap_made _ _ _ _
  have hb : Below (w.heap.size + 1) W (W.alloc (.map #[] 0)) := (Below.refl _ _).alloc (by omega) _
  rw [hWs] at hown
  have hW : w.heap.size + 1 ≤ w.heap.size + 1 := Nat.le_refl _
  have hu : (∃ Kf c, (tabD w.heap.size).atKey (.int .i64 7) (.agg []) = fnD Kf c ∧ Value.nilFunc = fnV Kf c) ∨ ((tabD w.heap.size).atKey (.int .i64 7) (.agg []) = .agg [] ∧ Value.nilFunc = .nilFunc) := .inr ⟨rfl, rfl⟩
  have hs : w.heap.size + 1 ≤ (W.alloc (.map #[] 0)).heap.size := by simp; omega
  subst hW0
  clear hWs
  go_enter Tryd.func157, Tryd.ntmps157
  go_wp2_with fail
  refine (opWraps_any _ _).mono ?_
  rintro e w' ⟨rfl, rfl⟩
  go_wp2_with (first | (guard_target =~ wpList _ _ _ (Oper.mk _ (Op.insert _ _ _ _) _ _ _ _ :: _) _ _; go_must (refine wpList_insert_fn _ rfl _ _ _ 171 rfl 3 84 intKey Tryd.underlying171 fnElem (w.heap.size + 1) _ _ rfl hown (by decide) _ _ _ rfl rfl (keyInt _ (by decide)) _ [] (by first | exact fnElem_held _ _ | exact fnElem_plain _) ?_); clear hown; intro w1 hown ht; replace hb := hb.grown ht.grown hs (fun j hj => by cases hj; exact hW); replace hs := Nat.le_trans hs ht.grown.size; clear ht) | (at_lookup; refine wpList_lookup_fn _ rfl _ _ 171 rfl 3 84 intKey Tryd.underlying171 (zeroFn _) (w.heap.size + 1) _ _ rfl hown _ _ rfl (keyInt _ (by decide)) Value.nilFunc (.inr ⟨rfl, rfl⟩) ?_))
  go_ret
  refine ⟨rfl, ?_, hs, hWb.trans (hb.mono (Nat.le_succ _))⟩
  rw [hb.cell (p := ⟨w.heap.size, 0, none⟩) (Nat.lt_succ_self _)]
  exact hWc
set_option maxRecDepth 100000 in
set_option maxHeartbeats 4000000 in
theorem restOper_8 (w : World) :
    Calls Tryd.prog 157 #[.int .i64 8] w fun e w' => e = .returned (.nilFunc) ∧ w'.cell? ⟨w.heap.size, 0, none⟩ = some (.int .i64 0) ∧ w.heap.size < w'.heap.size ∧ Below w.heap.size w w' := by
  have hmm := @run_makeMap Tryd.prog
  have hmf : ∀ (fn : Fn) (first cap : Array Value) (w : World), (Instr.makeFunc fn first cap).run Tryd.prog w = .ok (.func fn first cap) w := fun _ _ _ _ => rfl
  obtain ⟨W, hW0⟩ : ∃ W, W = w.alloc (.cells #[.int .i64 0] 3) := ⟨_, rfl⟩
  have hWs : W.heap.size = w.heap.size + 1 := by rw [hW0]; simp
  have hWc : W.cell? ⟨w.heap.size, 0, none⟩ = some (.int .i64 0) := by rw [hW0]; simp [go_sem]
  have hWb : Below w.heap.size w W := by rw [hW0]; exact (Below.refl _ _).alloc (Nat.le_refl _) _
  have hown : (W.alloc (.map #[] 0)).ownsMap Tryd.prog 3 fnElem W.heap.size 0 (.map []) := World.ownsMap_made _ _ _ _
  have hb : Below (w.heap.size + 1) W (W.alloc (.map #[] 0)) := (Below.refl _ _).alloc (by omega) _
  rw [hWs] at hown
  have hW : w.heap.size + 1 ≤ w.heap.size + 1 := Nat.le_refl _
  have hu : (∃ Kf c, (tabD w.heap.size).atKey (.int .i64 8) (.agg []) = fnD Kf c ∧ Value.nilFunc = fnV Kf c) ∨ ((tabD w.heap.size).atKey (.int .i64 8) (.agg []) = .agg [] ∧ Value.nilFunc = .nilFunc) := .inr ⟨rfl, rfl⟩
  have hs : w.heap.size + 1 ≤ (W.alloc (.map #[] 0)).heap.size := by simp; omega
  subst hW0
  clear hWs
  go_enter Tryd.func157, Tryd.ntmps157
  go_wp2_with fail
  refine (opWraps_any _ _).mono ?_
  rintro e w' ⟨rfl, rfl⟩
  go_wp2_with (first | (guard_target =~ wpList _ _ _ (Oper.mk _ (Op.insert _ _ _ _) _ _ _ _ :: _) _ _; go_must (refine wpList_insert_fn _ rfl _ _ _ 171 rfl 3 84 intKey Tryd.underlying171 fnElem (w.heap.size + 1) _ _ rfl hown (by decide) _ _ _ rfl rfl (keyInt _ (by decide)) _ [] (by first | exact fnElem_held _ _ | exact fnElem_plain _) ?_); clear hown; intro w1 hown ht; replace hb := hb.grown ht.grown hs (fun j hj => by cases hj; exact hW); replace hs := Nat.le_trans hs ht.grown.size; clear ht) | (at_lookup; refine wpList_lookup_fn _ rfl _ _ 171 rfl 3 84 intKey Tryd.underlying171 (zeroFn _) (w.heap.size + 1) _ _ rfl hown _ _ rfl (keyInt _ (by decide)) Value.nilFunc (.inr ⟨rfl, rfl⟩) ?_))
  go_ret
  refine ⟨rfl, ?_, hs, hWb.trans (hb.mono (Nat.le_succ _))⟩
  rw [hb.cell (p := ⟨w.heap.size, 0, none⟩) (Nat.lt_succ_self _)]
  exact hWc
set_option maxRecDepth 100000 in
set_option maxHeartbeats 4000000 in
theorem restOper_10 (w : World) :
    Calls Tryd.prog 157 #[.int .i64 10] w fun e w' => e = .returned (.nilFunc) ∧ w'.cell? ⟨w.heap.size, 0, none⟩ = some (.int .i64 0) ∧ w.heap.size < w'.heap.size ∧ Below w.heap.size w w' := by
  have hmm := @run_makeMap Tryd.prog
  have hmf : ∀ (fn : Fn) (first cap : Array Value) (w : World), (Instr.makeFunc fn first cap).run Tryd.prog w = .ok (.func fn first cap) w := fun _ _ _ _ => rfl
  obtain ⟨W, hW0⟩ : ∃ W, W = w.alloc (.cells #[.int .i64 0] 3) := ⟨_, rfl⟩
  have hWs : W.heap.size = w.heap.size + 1 := by rw [hW0]; simp
  have hWc : W.cell? ⟨w.heap.size, 0, none⟩ = some (.int .i64 0) := by rw [hW0]; simp [go_sem]
  have hWb : Below w.heap.size w W := by rw [hW0]; exact (Below.refl _ _).alloc (Nat.le_refl _) _
  have hown : (W.alloc (.map #[] 0)).ownsMap Tryd.prog 3 fnElem W.heap.size 0 (.map []) := World.ownsMap_made _ _ _ _
  have hb : Below (w.heap.size + 1) W (W.alloc (.map #[] 0)) := (Below.refl _ _).alloc (by omega) _
  rw [hWs] at hown
  have hW : w.heap.size + 1 ≤ w.heap.size + 1 := Nat.le_refl _
  have hu : (∃ Kf c, (tabD w.heap.size).atKey (.int .i64 10) (.agg []) = fnD Kf c ∧ Value.nilFunc = fnV Kf c) ∨ ((tabD w.heap.size).atKey (.int .i64 10) (.agg []) = .agg [] ∧ Value.nilFunc = .nilFunc) := .inr ⟨rfl, rfl⟩
  have hs : w.heap.size + 1 ≤ (W.alloc (.map #[] 0)).heap.size := by simp; omega
  subst hW0
  clear hWs
  go_enter Tryd.func157, Tryd.ntmps157
  go_wp2_with fail
  refine (opWraps_any _ _).mono ?_
  rintro e w' ⟨rfl, rfl⟩
  go_wp2_with (first | (guard_target =~ wpList _ _ _ (Oper.mk _ (Op.insert _ _ _ _) _ _ _ _ :: _) _ _; go_must (refine wpList_insert_fn _ rfl _ _ _ 171 rfl 3 84 intKey Tryd.underlying171 fnElem (w.heap.size + 1) _ _ rfl hown (by decide) _ _ _ rfl rfl (keyInt _ (by decide)) _ [] (by first | exact fnElem_held _ _ | exact fnElem_plain _) ?_); clear hown; intro w1 hown ht; replace hb := hb.grown ht.grown hs (fun j hj => by cases hj; exact hW); replace hs := Nat.le_trans hs ht.grown.size; clear ht) | (at_lookup; refine wpList_lookup_fn _ rfl _ _ 171 rfl 3 84 intKey Tryd.underlying171 (zeroFn _) (w.heap.size + 1) _ _ rfl hown _ _ rfl (keyInt _ (by decide)) Value.nilFunc (.inr ⟨rfl, rfl⟩) ?_))
  go_ret
  refine ⟨rfl, ?_, hs, hWb.trans (hb.mono (Nat.le_succ _))⟩
  rw [hb.cell (p := ⟨w.heap.size, 0, none⟩) (Nat.lt_succ_self _)]
  exact hWc
end Go.Proofs.YthbbgkpkijlclaaDoor.num
namespace Go.Proofs.YthbbgkpkijlclaaDoor.num
open Go.ChangeShapes Go.WideShapes Go.ChangeAt Go.RowKit
set_option linter.unusedVariables false

set_option maxRecDepth 100000 in
set_option maxHeartbeats 4000000 in
theorem restOfNums_any (op a b : Int) (w : World) (hG : Gq w) :
    Calls Tryd.prog 156 #[.int .i64 op, .int .i64 a, .int .i64 b] w fun e w' => e = .returned (.agg #[.int .i64 (if (numDo op a b).2 = 0 then 0 else 1), .int .i64 (if (numDo op a b).2 = 0 then (numDo op a b).1 else 0)]) ∧ Below w.heap.size w w' := by
  have hn : ∀ w1 : World, Calls Tryd.prog 60 #[.int .i64 op, .int .i64 a, .int .i64 b] w1 fun e w' => e = .returned (.tuple #[.int .i64 (numDo op a b).1, .int .i64 (numDo op a b).2]) ∧ Below w1.heap.size w1 w' := fun w1 => implDo_any op a b w1
  have hr : ∀ w1 : World, Calls Tryd.prog 147 #[.int .i64 (numDo op a b).1, .int .i64 0] w1 fun e w' => e = .returned (.agg #[.int .i64 0, .int .i64 (numDo op a b).1]) ∧ Below w1.heap.size w1 w' := fun w1 => by
    have := restOf_any (numDo op a b).1 0 (by omega) (by omega) w1
    rw [make9_zero] at this
    exact this
  generalize numDo op a b = q at *
  obtain ⟨v, f⟩ := q
  simp only at hn hr ⊢
  obtain ⟨W, hW, H⟩ := Hd.one w (.int .i64 0) (.int .i64 0) 26
  by_cases hf : f = 0
  · subst hf
    rw [if_pos rfl, if_pos rfl]
    go_enter Tryd.func156, Tryd.ntmps156
    go_wp2_with fail
    rw [← hW]
    clear hW
    go_wp2_with (first | (go_at_call 60; refine (hn _).mono ?_; rintro e w' ⟨rfl, hb⟩; replace H := H.call hb; have c0 := H.get (b := w.heap.size) (o := 0) (v := .int .i64 0) (by simp); have c1 := H.get (b := w.heap.size) (o := 1) (v := .int .i64 0) (by simp); have z0 := H.fz (b := w.heap.size) (o := 0) (v := .int .i64 0) (by simp); have z1 := H.fz (b := w.heap.size) (o := 1) (v := .int .i64 0) (by simp); obtain ⟨gs, g0, g1, gz⟩ := Gq.all (Gv.below hG H.below)) | (go_at_call 147; refine (hr _).mono ?_; rintro e w' ⟨rfl, hb⟩; replace H := H.call hb; have c0 := H.get (b := w.heap.size) (o := 0) (v := .int .i64 0) (by simp); have c1 := H.get (b := w.heap.size) (o := 1) (v := .int .i64 0) (by simp); have z0 := H.fz (b := w.heap.size) (o := 0) (v := .int .i64 0) (by simp); have z1 := H.fz (b := w.heap.size) (o := 1) (v := .int .i64 0) (by simp); obtain ⟨gs, g0, g1, gz⟩ := Gq.all (Gv.below hG H.below)))
    obtain ⟨f0, f1, fb⟩ := H.fill (b := w.heap.size) (x := .int .i64 0) (y := .int .i64 0) (by simp) (by simp) (by omega) (.int .i64 0) (.int .i64 v)
    refine bodyPost_ret (results_two rfl _ _ (w.heap.size) (.int .i64 0) (.int .i64 v) _ rfl f0 f1 Tryd.underlying26 rfl (by kernel_rfl)) rfl ?_
    exact ⟨rfl, fb⟩
  · rw [if_neg hf, if_neg hf]
    have hf' : (f != 0) = true := by simp [hf]
    go_enter Tryd.func156, Tryd.ntmps156
    go_wp2_with fail
    rw [← hW]
    clear hW
    go_wp2_with (first | (go_at_call 60; refine (hn _).mono ?_; rintro e w' ⟨rfl, hb⟩; replace H := H.call hb; have c0 := H.get (b := w.heap.size) (o := 0) (v := .int .i64 0) (by simp); have c1 := H.get (b := w.heap.size) (o := 1) (v := .int .i64 0) (by simp); have z0 := H.fz (b := w.heap.size) (o := 0) (v := .int .i64 0) (by simp); have z1 := H.fz (b := w.heap.size) (o := 1) (v := .int .i64 0) (by simp); obtain ⟨gs, g0, g1, gz⟩ := Gq.all (Gv.below hG H.below)) | (go_at_call 147; refine (hr _).mono ?_; rintro e w' ⟨rfl, hb⟩; replace H := H.call hb; have c0 := H.get (b := w.heap.size) (o := 0) (v := .int .i64 0) (by simp); have c1 := H.get (b := w.heap.size) (o := 1) (v := .int .i64 0) (by simp); have z0 := H.fz (b := w.heap.size) (o := 0) (v := .int .i64 0) (by simp); have z1 := H.fz (b := w.heap.size) (o := 1) (v := .int .i64 0) (by simp); obtain ⟨gs, g0, g1, gz⟩ := Gq.all (Gv.below hG H.below)))
    obtain ⟨f0, f1, fb⟩ := H.fill (b := w.heap.size) (x := .int .i64 0) (y := .int .i64 0) (by simp) (by simp) (by omega) (.int .i64 1) (.int .i64 0)
    refine bodyPost_ret (results_two rfl _ _ (w.heap.size) (.int .i64 1) (.int .i64 0) _ rfl f0 f1 Tryd.underlying26 rfl (by kernel_rfl)) rfl ?_
    exact ⟨rfl, fb⟩
end Go.Proofs.YthbbgkpkijlclaaDoor.num
namespace Go.Proofs.YthbbgkpkijlclaaDoor.num
open Go.ChangeShapes Go.WideShapes Go.ChangeAt Go.RowKit
set_option linter.unusedVariables false

set_option maxRecDepth 100000 in
set_option maxHeartbeats 4000000 in
theorem iDo_bad (op x y x2 y2 : Int) (h0 : inB op 1 13 = false ∨ qOk (x, y) = false ∨ qOk (x2, y2) = false) (w : World) (hG : Gq w) :
    Calls Tryd.prog 80 #[.int .i64 op, .agg #[.int .i64 x, .int .i64 y], .agg #[.int .i64 x2, .int .i64 y2]] w fun e w' => e = .returned (.agg #[.int .i64 (do9 op (x, y) (x2, y2)).1, .int .i64 (do9 op (x, y) (x2, y2)).2]) ∧ Below w.heap.size w w' := by
  have hef := eql_func
  have hen := eql_nil
  have e : do9 op (x, y) (x2, y2) = (1, 0) := by unfold do9; rw [if_pos h0]; rfl
  rw [e]
  obtain ⟨W, hW, H⟩ := Hd.three w (.int .i64 x) (.int .i64 y) (.int .i64 x2) (.int .i64 y2) (.int .i64 0) (.int .i64 0) 26 26 26
  cases ho : inB op 1 13
  · skip
    go_enter Tryd.func80, Tryd.ntmps80
    go_wp2_with fail
    rw [← hW]
    clear hW
    have c0 := H.get (b := w.heap.size) (o := 0) (v := .int .i64 x) (by simp)
    have c1 := H.get (b := w.heap.size) (o := 1) (v := .int .i64 y) (by simp)
    have c2 := H.get (b := w.heap.size + 1) (o := 0) (v := .int .i64 x2) (by simp)
    have c3 := H.get (b := w.heap.size + 1) (o := 1) (v := .int .i64 y2) (by simp)
    have c4 := H.get (b := w.heap.size + 2) (o := 0) (v := .int .i64 0) (by simp)
    have c5 := H.get (b := w.heap.size + 2) (o := 1) (v := .int .i64 0) (by simp)
    have z0 := H.fz (b := w.heap.size + 2) (o := 0) (v := .int .i64 0) (by simp)
    have z1 := H.fz (b := w.heap.size + 2) (o := 1) (v := .int .i64 0) (by simp)
    obtain ⟨gs, g0, g1, gz⟩ := Gq.all (Gv.below hG H.below)
    go_wp2_with (first | (go_at_call 119; refine (oper_none op ho _).mono ?_; rintro e w' ⟨rfl, hb⟩; replace H := H.call hb; have c0 := H.get (b := w.heap.size) (o := 0) (v := .int .i64 x) (by simp); have c1 := H.get (b := w.heap.size) (o := 1) (v := .int .i64 y) (by simp); have c2 := H.get (b := w.heap.size + 1) (o := 0) (v := .int .i64 x2) (by simp); have c3 := H.get (b := w.heap.size + 1) (o := 1) (v := .int .i64 y2) (by simp); have c4 := H.get (b := w.heap.size + 2) (o := 0) (v := .int .i64 0) (by simp); have c5 := H.get (b := w.heap.size + 2) (o := 1) (v := .int .i64 0) (by simp); have z0 := H.fz (b := w.heap.size + 2) (o := 0) (v := .int .i64 0) (by simp); have z1 := H.fz (b := w.heap.size + 2) (o := 1) (v := .int .i64 0) (by simp); obtain ⟨gs, g0, g1, gz⟩ := Gq.all (Gv.below hG H.below)))
    obtain ⟨f0, f1, fb⟩ := H.fill (b := w.heap.size + 2) (x := .int .i64 0) (y := .int .i64 0) (by simp) (by simp) (by omega) (.int .i64 1) (.int .i64 0)
    refine bodyPost_ret (results_two rfl _ _ (w.heap.size + 2) (.int .i64 1) (.int .i64 0) _ rfl f0 f1 Tryd.underlying26 rfl (by kernel_rfl)) rfl ?_
    exact ⟨rfl, fb⟩
  have hop : ∀ w1 : World, Calls Tryd.prog 119 #[.int .i64 op] w1 fun e w' => e = .returned (.func (Fn.func (kOf op)) #[] #[]) ∧ Below w1.heap.size w1 w' := fun w1 => oper_any op ho w1
  generalize kOf op = K at *
  cases h : qOk (x, y)
  · skip
    go_enter Tryd.func80, Tryd.ntmps80
    go_wp2_with fail
    rw [← hW]
    clear hW
    have c0 := H.get (b := w.heap.size) (o := 0) (v := .int .i64 x) (by simp)
    have c1 := H.get (b := w.heap.size) (o := 1) (v := .int .i64 y) (by simp)
    have c2 := H.get (b := w.heap.size + 1) (o := 0) (v := .int .i64 x2) (by simp)
    have c3 := H.get (b := w.heap.size + 1) (o := 1) (v := .int .i64 y2) (by simp)
    have c4 := H.get (b := w.heap.size + 2) (o := 0) (v := .int .i64 0) (by simp)
    have c5 := H.get (b := w.heap.size + 2) (o := 1) (v := .int .i64 0) (by simp)
    have z0 := H.fz (b := w.heap.size + 2) (o := 0) (v := .int .i64 0) (by simp)
    have z1 := H.fz (b := w.heap.size + 2) (o := 1) (v := .int .i64 0) (by simp)
    obtain ⟨gs, g0, g1, gz⟩ := Gq.all (Gv.below hG H.below)
    go_wp2_with (first | (go_at_call 119; refine (hop _).mono ?_; rintro e w' ⟨rfl, hb⟩; replace H := H.call hb; have c0 := H.get (b := w.heap.size) (o := 0) (v := .int .i64 x) (by simp); have c1 := H.get (b := w.heap.size) (o := 1) (v := .int .i64 y) (by simp); have c2 := H.get (b := w.heap.size + 1) (o := 0) (v := .int .i64 x2) (by simp); have c3 := H.get (b := w.heap.size + 1) (o := 1) (v := .int .i64 y2) (by simp); have c4 := H.get (b := w.heap.size + 2) (o := 0) (v := .int .i64 0) (by simp); have c5 := H.get (b := w.heap.size + 2) (o := 1) (v := .int .i64 0) (by simp); have z0 := H.fz (b := w.heap.size + 2) (o := 0) (v := .int .i64 0) (by simp); have z1 := H.fz (b := w.heap.size + 2) (o := 1) (v := .int .i64 0) (by simp); obtain ⟨gs, g0, g1, gz⟩ := Gq.all (Gv.below hG H.below)) | (go_at_call 77; refine (iRestOk_xy _ _ _).mono ?_; rintro e w' ⟨rfl, hb⟩; (first | rw [h] | rw [h2]); replace H := H.call hb; have c0 := H.get (b := w.heap.size) (o := 0) (v := .int .i64 x) (by simp); have c1 := H.get (b := w.heap.size) (o := 1) (v := .int .i64 y) (by simp); have c2 := H.get (b := w.heap.size + 1) (o := 0) (v := .int .i64 x2) (by simp); have c3 := H.get (b := w.heap.size + 1) (o := 1) (v := .int .i64 y2) (by simp); have c4 := H.get (b := w.heap.size + 2) (o := 0) (v := .int .i64 0) (by simp); have c5 := H.get (b := w.heap.size + 2) (o := 1) (v := .int .i64 0) (by simp); have z0 := H.fz (b := w.heap.size + 2) (o := 0) (v := .int .i64 0) (by simp); have z1 := H.fz (b := w.heap.size + 2) (o := 1) (v := .int .i64 0) (by simp); obtain ⟨gs, g0, g1, gz⟩ := Gq.all (Gv.below hG H.below)))
    obtain ⟨f0, f1, fb⟩ := H.fill (b := w.heap.size + 2) (x := .int .i64 0) (y := .int .i64 0) (by simp) (by simp) (by omega) (.int .i64 1) (.int .i64 0)
    refine bodyPost_ret (results_two rfl _ _ (w.heap.size + 2) (.int .i64 1) (.int .i64 0) _ rfl f0 f1 Tryd.underlying26 rfl (by kernel_rfl)) rfl ?_
    exact ⟨rfl, fb⟩
  have h2 : qOk (x2, y2) = false := by rcases h0 with h0 | h0 | h0; (rw [ho] at h0; cases h0); (rw [h] at h0; cases h0); exact h0
  go_enter Tryd.func80, Tryd.ntmps80
  go_wp2_with fail
  rw [← hW]
  clear hW
  have c0 := H.get (b := w.heap.size) (o := 0) (v := .int .i64 x) (by simp)
  have c1 := H.get (b := w.heap.size) (o := 1) (v := .int .i64 y) (by simp)
  have c2 := H.get (b := w.heap.size + 1) (o := 0) (v := .int .i64 x2) (by simp)
  have c3 := H.get (b := w.heap.size + 1) (o := 1) (v := .int .i64 y2) (by simp)
  have c4 := H.get (b := w.heap.size + 2) (o := 0) (v := .int .i64 0) (by simp)
  have c5 := H.get (b := w.heap.size + 2) (o := 1) (v := .int .i64 0) (by simp)
  have z0 := H.fz (b := w.heap.size + 2) (o := 0) (v := .int .i64 0) (by simp)
  have z1 := H.fz (b := w.heap.size + 2) (o := 1) (v := .int .i64 0) (by simp)
  obtain ⟨gs, g0, g1, gz⟩ := Gq.all (Gv.below hG H.below)
  go_wp2_with (first | (go_at_call 119; refine (hop _).mono ?_; rintro e w' ⟨rfl, hb⟩; replace H := H.call hb; have c0 := H.get (b := w.heap.size) (o := 0) (v := .int .i64 x) (by simp); have c1 := H.get (b := w.heap.size) (o := 1) (v := .int .i64 y) (by simp); have c2 := H.get (b := w.heap.size + 1) (o := 0) (v := .int .i64 x2) (by simp); have c3 := H.get (b := w.heap.size + 1) (o := 1) (v := .int .i64 y2) (by simp); have c4 := H.get (b := w.heap.size + 2) (o := 0) (v := .int .i64 0) (by simp); have c5 := H.get (b := w.heap.size + 2) (o := 1) (v := .int .i64 0) (by simp); have z0 := H.fz (b := w.heap.size + 2) (o := 0) (v := .int .i64 0) (by simp); have z1 := H.fz (b := w.heap.size + 2) (o := 1) (v := .int .i64 0) (by simp); obtain ⟨gs, g0, g1, gz⟩ := Gq.all (Gv.below hG H.below)) | (go_at_call 77; refine (iRestOk_xy _ _ _).mono ?_; rintro e w' ⟨rfl, hb⟩; (first | rw [h] | rw [h2]); replace H := H.call hb; have c0 := H.get (b := w.heap.size) (o := 0) (v := .int .i64 x) (by simp); have c1 := H.get (b := w.heap.size) (o := 1) (v := .int .i64 y) (by simp); have c2 := H.get (b := w.heap.size + 1) (o := 0) (v := .int .i64 x2) (by simp); have c3 := H.get (b := w.heap.size + 1) (o := 1) (v := .int .i64 y2) (by simp); have c4 := H.get (b := w.heap.size + 2) (o := 0) (v := .int .i64 0) (by simp); have c5 := H.get (b := w.heap.size + 2) (o := 1) (v := .int .i64 0) (by simp); have z0 := H.fz (b := w.heap.size + 2) (o := 0) (v := .int .i64 0) (by simp); have z1 := H.fz (b := w.heap.size + 2) (o := 1) (v := .int .i64 0) (by simp); obtain ⟨gs, g0, g1, gz⟩ := Gq.all (Gv.below hG H.below)))
  obtain ⟨f0, f1, fb⟩ := H.fill (b := w.heap.size + 2) (x := .int .i64 0) (y := .int .i64 0) (by simp) (by simp) (by omega) (.int .i64 1) (.int .i64 0)
  refine bodyPost_ret (results_two rfl _ _ (w.heap.size + 2) (.int .i64 1) (.int .i64 0) _ rfl f0 f1 Tryd.underlying26 rfl (by kernel_rfl)) rfl ?_
  exact ⟨rfl, fb⟩
set_option maxRecDepth 100000 in
set_option maxHeartbeats 4000000 in
theorem iDo_single (op y y2 : Int) (ho : inB op 1 13 = true) (h : qOk (0, y) = true) (h2 : qOk (0, y2) = true) (w : World) (hG : Gq w) :
    Calls Tryd.prog 80 #[.int .i64 op, .agg #[.int .i64 0, .int .i64 y], .agg #[.int .i64 0, .int .i64 y2]] w fun e w' => e = .returned (.agg #[.int .i64 (do9 op (0, y) (0, y2)).1, .int .i64 (do9 op (0, y) (0, y2)).2]) ∧ Below w.heap.size w w' := by
  have hef := eql_func
  have hen := eql_nil
  have e : do9 op (0, y) (0, y2) = (if (numDo op y y2).2 = 0 then 0 else 1, if (numDo op y y2).2 = 0 then (numDo op y y2).1 else 0) := by
    unfold do9; rw [if_neg (by simp [ho, h, h2]), if_pos ⟨rfl, rfl⟩]
    by_cases hf : (numDo op y y2).2 = 0
    · rw [if_pos hf, if_pos hf, if_pos hf]
    · rw [if_neg hf, if_neg hf, if_neg hf]; rfl
  rw [e]
  have hn : ∀ w1 : World, Gq w1 → Calls Tryd.prog 156 #[.int .i64 op, .int .i64 y, .int .i64 y2] w1 fun e w' => e = .returned (.agg #[.int .i64 (if (numDo op y y2).2 = 0 then 0 else 1), .int .i64 (if (numDo op y y2).2 = 0 then (numDo op y y2).1 else 0)]) ∧ Below w1.heap.size w1 w' := fun w1 hg => restOfNums_any op y y2 w1 hg
  generalize (if (numDo op y y2).2 = 0 then 0 else 1 : Int) = q1 at *
  generalize (if (numDo op y y2).2 = 0 then (numDo op y y2).1 else 0 : Int) = q2 at *
  obtain ⟨W, hW, H⟩ := Hd.three w (.int .i64 0) (.int .i64 y) (.int .i64 0) (.int .i64 y2) (.int .i64 0) (.int .i64 0) 26 26 26
  have hop : ∀ w1 : World, Calls Tryd.prog 119 #[.int .i64 op] w1 fun e w' => e = .returned (.func (Fn.func (kOf op)) #[] #[]) ∧ Below w1.heap.size w1 w' := fun w1 => oper_any op ho w1
  generalize kOf op = K at *
  go_enter Tryd.func80, Tryd.ntmps80
  go_wp2_with fail
  rw [← hW]
  clear hW
  have c0 := H.get (b := w.heap.size) (o := 0) (v := .int .i64 0) (by simp)
  have c1 := H.get (b := w.heap.size) (o := 1) (v := .int .i64 y) (by simp)
  have c2 := H.get (b := w.heap.size + 1) (o := 0) (v := .int .i64 0) (by simp)
  have c3 := H.get (b := w.heap.size + 1) (o := 1) (v := .int .i64 y2) (by simp)
  have c4 := H.get (b := w.heap.size + 2) (o := 0) (v := .int .i64 0) (by simp)
  have c5 := H.get (b := w.heap.size + 2) (o := 1) (v := .int .i64 0) (by simp)
  have z0 := H.fz (b := w.heap.size + 2) (o := 0) (v := .int .i64 0) (by simp)
  have z1 := H.fz (b := w.heap.size + 2) (o := 1) (v := .int .i64 0) (by simp)
  obtain ⟨gs, g0, g1, gz⟩ := Gq.all (Gv.below hG H.below)
  go_wp2_with (first | (go_at_call 119; refine (hop _).mono ?_; rintro e w' ⟨rfl, hb⟩; replace H := H.call hb; have c0 := H.get (b := w.heap.size) (o := 0) (v := .int .i64 0) (by simp); have c1 := H.get (b := w.heap.size) (o := 1) (v := .int .i64 y) (by simp); have c2 := H.get (b := w.heap.size + 1) (o := 0) (v := .int .i64 0) (by simp); have c3 := H.get (b := w.heap.size + 1) (o := 1) (v := .int .i64 y2) (by simp); have c4 := H.get (b := w.heap.size + 2) (o := 0) (v := .int .i64 0) (by simp); have c5 := H.get (b := w.heap.size + 2) (o := 1) (v := .int .i64 0) (by simp); have z0 := H.fz (b := w.heap.size + 2) (o := 0) (v := .int .i64 0) (by simp); have z1 := H.fz (b := w.heap.size + 2) (o := 1) (v := .int .i64 0) (by simp); obtain ⟨gs, g0, g1, gz⟩ := Gq.all (Gv.below hG H.below)) | (go_at_call 77; refine (iRestOk_xy _ _ _).mono ?_; rintro e w' ⟨rfl, hb⟩; (first | rw [h] | rw [h2]); replace H := H.call hb; have c0 := H.get (b := w.heap.size) (o := 0) (v := .int .i64 0) (by simp); have c1 := H.get (b := w.heap.size) (o := 1) (v := .int .i64 y) (by simp); have c2 := H.get (b := w.heap.size + 1) (o := 0) (v := .int .i64 0) (by simp); have c3 := H.get (b := w.heap.size + 1) (o := 1) (v := .int .i64 y2) (by simp); have c4 := H.get (b := w.heap.size + 2) (o := 0) (v := .int .i64 0) (by simp); have c5 := H.get (b := w.heap.size + 2) (o := 1) (v := .int .i64 0) (by simp); have z0 := H.fz (b := w.heap.size + 2) (o := 0) (v := .int .i64 0) (by simp); have z1 := H.fz (b := w.heap.size + 2) (o := 1) (v := .int .i64 0) (by simp); obtain ⟨gs, g0, g1, gz⟩ := Gq.all (Gv.below hG H.below)) | (go_at_call 149; refine (single_xy _ _ _).mono ?_; rintro e w' ⟨rfl, hb⟩; simp only [decide_true]; replace H := H.call hb; have c0 := H.get (b := w.heap.size) (o := 0) (v := .int .i64 0) (by simp); have c1 := H.get (b := w.heap.size) (o := 1) (v := .int .i64 y) (by simp); have c2 := H.get (b := w.heap.size + 1) (o := 0) (v := .int .i64 0) (by simp); have c3 := H.get (b := w.heap.size + 1) (o := 1) (v := .int .i64 y2) (by simp); have c4 := H.get (b := w.heap.size + 2) (o := 0) (v := .int .i64 0) (by simp); have c5 := H.get (b := w.heap.size + 2) (o := 1) (v := .int .i64 0) (by simp); have z0 := H.fz (b := w.heap.size + 2) (o := 0) (v := .int .i64 0) (by simp); have z1 := H.fz (b := w.heap.size + 2) (o := 1) (v := .int .i64 0) (by simp); obtain ⟨gs, g0, g1, gz⟩ := Gq.all (Gv.below hG H.below)) | (go_at_call 156; refine (hn _ (Gv.below hG H.below)).mono ?_; rintro e w' ⟨rfl, hb⟩; replace H := H.call hb; have c0 := H.get (b := w.heap.size) (o := 0) (v := .int .i64 0) (by simp); have c1 := H.get (b := w.heap.size) (o := 1) (v := .int .i64 y) (by simp); have c2 := H.get (b := w.heap.size + 1) (o := 0) (v := .int .i64 0) (by simp); have c3 := H.get (b := w.heap.size + 1) (o := 1) (v := .int .i64 y2) (by simp); have c4 := H.get (b := w.heap.size + 2) (o := 0) (v := .int .i64 0) (by simp); have c5 := H.get (b := w.heap.size + 2) (o := 1) (v := .int .i64 0) (by simp); have z0 := H.fz (b := w.heap.size + 2) (o := 0) (v := .int .i64 0) (by simp); have z1 := H.fz (b := w.heap.size + 2) (o := 1) (v := .int .i64 0) (by simp); obtain ⟨gs, g0, g1, gz⟩ := Gq.all (Gv.below hG H.below)))
  obtain ⟨f0, f1, fb⟩ := H.fill (b := w.heap.size + 2) (x := .int .i64 0) (y := .int .i64 0) (by simp) (by simp) (by omega) (.int .i64 q1) (.int .i64 q2)
  refine bodyPost_ret (results_two rfl _ _ (w.heap.size + 2) (.int .i64 q1) (.int .i64 q2) _ rfl f0 f1 Tryd.underlying26 rfl (by kernel_rfl)) rfl ?_
  exact ⟨rfl, fb⟩
end Go.Proofs.YthbbgkpkijlclaaDoor.num
namespace Go.Proofs.YthbbgkpkijlclaaDoor.num
open Go.ChangeShapes Go.WideShapes Go.ChangeAt Go.RowKit
set_option linter.unusedVariables false

theorem eqlR_func (K : Nat) (c : Array Value) (w : World) : (binOp BinOp.eql 84 (.func (Fn.func K) #[] c) .nilFunc).run Tryd.prog w = .ok (.bool false) w := by kernel_rfl
theorem eqlR_nil (w : World) : (binOp BinOp.eql 84 .nilFunc .nilFunc).run Tryd.prog w = .ok (.bool true) w := by kernel_rfl
set_option maxRecDepth 100000 in
set_option maxHeartbeats 4000000 in
theorem iDo_1 (x y x2 y2 : Int) (h : qOk (x, y) = true) (h2 : qOk (x2, y2) = true) (hab : ¬ (x = 0 ∧ x2 = 0)) (w : World) (hG : Gq w) :
    Calls Tryd.prog 80 #[.int .i64 1, .agg #[.int .i64 x, .int .i64 y], .agg #[.int .i64 x2, .int .i64 y2]] w fun e w' => e = .returned (.agg #[.int .i64 (do9 1 (x, y) (x2, y2)).1, .int .i64 (do9 1 (x, y) (x2, y2)).2]) ∧ Below w.heap.size w w' := by
  have hef := eql_func
  have hen := eql_nil
  have hrf := eqlR_func
  have hrn := eqlR_nil
  have e : do9 1 (x, y) (x2, y2) = make9 (gcd9 (gcd9 x x2) 0) (y + y2) := by
    unfold do9 word9
    rw [if_neg (by simp [h, h2]; decide), if_neg hab]
    simp
  rw [e]
  have hcall : ∀ (c : Nat) (w1 : World), w1.cell? ⟨c, 0, none⟩ = some (.int .i64 0) → c < w1.heap.size → Calls Tryd.prog 204 #[.agg #[.int .i64 x, .int .i64 y], .agg #[.int .i64 x2, .int .i64 y2], .pointer (some ⟨c, 0, none⟩)] w1 fun e w' => e = .returned (.agg #[.int .i64 (make9 (gcd9 (gcd9 x x2) 0) (y + y2)).1, .int .i64 (make9 (gcd9 (gcd9 x x2) 0) (y + y2)).2]) ∧ Below w1.heap.size w1 w' := fun c w1 hc hcl => addR_xy c 0 x y x2 y2 w1 hc hcl (by omega) h h2
  generalize make9 (gcd9 (gcd9 x x2) 0) (y + y2) = q at *
  have ho : inB 1 1 13 = true := by decide
  have hop : ∀ w1 : World, Calls Tryd.prog 119 #[.int .i64 1] w1 fun e w' => e = .returned (.func (Fn.func (kOf 1)) #[] #[]) ∧ Below w1.heap.size w1 w' := fun w1 => oper_any 1 ho w1
  have hro : ∀ w1 : World, Calls Tryd.prog 157 #[.int .i64 1] w1 fun e w' => e = .returned (.func (Fn.func 204) #[] #[.pointer (some ⟨w1.heap.size, 0, none⟩)]) ∧ w'.cell? ⟨w1.heap.size, 0, none⟩ = some (.int .i64 0) ∧ w1.heap.size < w'.heap.size ∧ Below w1.heap.size w1 w' := fun w1 => restOper_1 w1
  generalize kOf 1 = K at *
  obtain ⟨W, hW, H⟩ := Hd.three w (.int .i64 x) (.int .i64 y) (.int .i64 x2) (.int .i64 y2) (.int .i64 0) (.int .i64 0) 26 26 26
  have hdy : decide (x2 = 0) = decide (x2 = 0) := rfl
  by_cases hx0 : x = 0
  · subst hx0
    have hdx : decide ((0 : Int) = 0) = true := by simp
    have hdy : decide (x2 = 0) = false := by simp; omega
    go_enter Tryd.func80, Tryd.ntmps80
    go_wp2_with fail
    rw [← hW]
    clear hW
    have c0 := H.get (b := w.heap.size) (o := 0) (v := .int .i64 0) (by simp)
    have c1 := H.get (b := w.heap.size) (o := 1) (v := .int .i64 y) (by simp)
    have c2 := H.get (b := w.heap.size + 1) (o := 0) (v := .int .i64 x2) (by simp)
    have c3 := H.get (b := w.heap.size + 1) (o := 1) (v := .int .i64 y2) (by simp)
    have c4 := H.get (b := w.heap.size + 2) (o := 0) (v := .int .i64 0) (by simp)
    have c5 := H.get (b := w.heap.size + 2) (o := 1) (v := .int .i64 0) (by simp)
    have z0 := H.fz (b := w.heap.size + 2) (o := 0) (v := .int .i64 0) (by simp)
    have z1 := H.fz (b := w.heap.size + 2) (o := 1) (v := .int .i64 0) (by simp)
    obtain ⟨gs, g0, g1, gz⟩ := Gq.all (Gv.below hG H.below)
    go_wp2_with (first | (go_at_call 119; refine (hop _).mono ?_; rintro e w' ⟨rfl, hb⟩; replace H := H.call hb; have c0 := H.get (b := w.heap.size) (o := 0) (v := .int .i64 0) (by simp); have c1 := H.get (b := w.heap.size) (o := 1) (v := .int .i64 y) (by simp); have c2 := H.get (b := w.heap.size + 1) (o := 0) (v := .int .i64 x2) (by simp); have c3 := H.get (b := w.heap.size + 1) (o := 1) (v := .int .i64 y2) (by simp); have c4 := H.get (b := w.heap.size + 2) (o := 0) (v := .int .i64 0) (by simp); have c5 := H.get (b := w.heap.size + 2) (o := 1) (v := .int .i64 0) (by simp); have z0 := H.fz (b := w.heap.size + 2) (o := 0) (v := .int .i64 0) (by simp); have z1 := H.fz (b := w.heap.size + 2) (o := 1) (v := .int .i64 0) (by simp); obtain ⟨gs, g0, g1, gz⟩ := Gq.all (Gv.below hG H.below)) | (go_at_call 77; refine (iRestOk_xy _ _ _).mono ?_; rintro e w' ⟨rfl, hb⟩; (first | rw [h] | rw [h2]); replace H := H.call hb; have c0 := H.get (b := w.heap.size) (o := 0) (v := .int .i64 0) (by simp); have c1 := H.get (b := w.heap.size) (o := 1) (v := .int .i64 y) (by simp); have c2 := H.get (b := w.heap.size + 1) (o := 0) (v := .int .i64 x2) (by simp); have c3 := H.get (b := w.heap.size + 1) (o := 1) (v := .int .i64 y2) (by simp); have c4 := H.get (b := w.heap.size + 2) (o := 0) (v := .int .i64 0) (by simp); have c5 := H.get (b := w.heap.size + 2) (o := 1) (v := .int .i64 0) (by simp); have z0 := H.fz (b := w.heap.size + 2) (o := 0) (v := .int .i64 0) (by simp); have z1 := H.fz (b := w.heap.size + 2) (o := 1) (v := .int .i64 0) (by simp); obtain ⟨gs, g0, g1, gz⟩ := Gq.all (Gv.below hG H.below)) | (go_at_call 149; refine (single_xy _ _ _).mono ?_; rintro e w' ⟨rfl, hb⟩; (first | rw [hdx] | rw [hdy] | simp only [decide_true]); replace H := H.call hb; have c0 := H.get (b := w.heap.size) (o := 0) (v := .int .i64 0) (by simp); have c1 := H.get (b := w.heap.size) (o := 1) (v := .int .i64 y) (by simp); have c2 := H.get (b := w.heap.size + 1) (o := 0) (v := .int .i64 x2) (by simp); have c3 := H.get (b := w.heap.size + 1) (o := 1) (v := .int .i64 y2) (by simp); have c4 := H.get (b := w.heap.size + 2) (o := 0) (v := .int .i64 0) (by simp); have c5 := H.get (b := w.heap.size + 2) (o := 1) (v := .int .i64 0) (by simp); have z0 := H.fz (b := w.heap.size + 2) (o := 0) (v := .int .i64 0) (by simp); have z1 := H.fz (b := w.heap.size + 2) (o := 1) (v := .int .i64 0) (by simp); obtain ⟨gs, g0, g1, gz⟩ := Gq.all (Gv.below hG H.below)) | (go_at_call 157; refine (hro _).mono ?_; rintro e w' ⟨rfl, hcc, hcl, hb⟩; replace H := H.call hb; have c0 := H.get (b := w.heap.size) (o := 0) (v := .int .i64 0) (by simp); have c1 := H.get (b := w.heap.size) (o := 1) (v := .int .i64 y) (by simp); have c2 := H.get (b := w.heap.size + 1) (o := 0) (v := .int .i64 x2) (by simp); have c3 := H.get (b := w.heap.size + 1) (o := 1) (v := .int .i64 y2) (by simp); have c4 := H.get (b := w.heap.size + 2) (o := 0) (v := .int .i64 0) (by simp); have c5 := H.get (b := w.heap.size + 2) (o := 1) (v := .int .i64 0) (by simp); have z0 := H.fz (b := w.heap.size + 2) (o := 0) (v := .int .i64 0) (by simp); have z1 := H.fz (b := w.heap.size + 2) (o := 1) (v := .int .i64 0) (by simp); obtain ⟨gs, g0, g1, gz⟩ := Gq.all (Gv.below hG H.below)) | (go_at_call 204; refine (hcall _ _ hcc hcl).mono ?_; rintro e w' ⟨rfl, hb⟩; replace H := H.call hb; have c0 := H.get (b := w.heap.size) (o := 0) (v := .int .i64 0) (by simp); have c1 := H.get (b := w.heap.size) (o := 1) (v := .int .i64 y) (by simp); have c2 := H.get (b := w.heap.size + 1) (o := 0) (v := .int .i64 x2) (by simp); have c3 := H.get (b := w.heap.size + 1) (o := 1) (v := .int .i64 y2) (by simp); have c4 := H.get (b := w.heap.size + 2) (o := 0) (v := .int .i64 0) (by simp); have c5 := H.get (b := w.heap.size + 2) (o := 1) (v := .int .i64 0) (by simp); have z0 := H.fz (b := w.heap.size + 2) (o := 0) (v := .int .i64 0) (by simp); have z1 := H.fz (b := w.heap.size + 2) (o := 1) (v := .int .i64 0) (by simp)))
    obtain ⟨f0, f1, fb⟩ := H.fill (b := w.heap.size + 2) (x := .int .i64 0) (y := .int .i64 0) (by simp) (by simp) (by omega) (.int .i64 q.1) (.int .i64 q.2)
    refine bodyPost_ret (results_two rfl _ _ (w.heap.size + 2) (.int .i64 q.1) (.int .i64 q.2) _ rfl f0 f1 Tryd.underlying26 rfl (by kernel_rfl)) rfl ?_
    exact ⟨rfl, fb⟩
  · have hdx : decide (x = 0) = false := by simp [hx0]
    go_enter Tryd.func80, Tryd.ntmps80
    go_wp2_with fail
    rw [← hW]
    clear hW
    have c0 := H.get (b := w.heap.size) (o := 0) (v := .int .i64 x) (by simp)
    have c1 := H.get (b := w.heap.size) (o := 1) (v := .int .i64 y) (by simp)
    have c2 := H.get (b := w.heap.size + 1) (o := 0) (v := .int .i64 x2) (by simp)
    have c3 := H.get (b := w.heap.size + 1) (o := 1) (v := .int .i64 y2) (by simp)
    have c4 := H.get (b := w.heap.size + 2) (o := 0) (v := .int .i64 0) (by simp)
    have c5 := H.get (b := w.heap.size + 2) (o := 1) (v := .int .i64 0) (by simp)
    have z0 := H.fz (b := w.heap.size + 2) (o := 0) (v := .int .i64 0) (by simp)
    have z1 := H.fz (b := w.heap.size + 2) (o := 1) (v := .int .i64 0) (by simp)
    obtain ⟨gs, g0, g1, gz⟩ := Gq.all (Gv.below hG H.below)
    go_wp2_with (first | (go_at_call 119; refine (hop _).mono ?_; rintro e w' ⟨rfl, hb⟩; replace H := H.call hb; have c0 := H.get (b := w.heap.size) (o := 0) (v := .int .i64 x) (by simp); have c1 := H.get (b := w.heap.size) (o := 1) (v := .int .i64 y) (by simp); have c2 := H.get (b := w.heap.size + 1) (o := 0) (v := .int .i64 x2) (by simp); have c3 := H.get (b := w.heap.size + 1) (o := 1) (v := .int .i64 y2) (by simp); have c4 := H.get (b := w.heap.size + 2) (o := 0) (v := .int .i64 0) (by simp); have c5 := H.get (b := w.heap.size + 2) (o := 1) (v := .int .i64 0) (by simp); have z0 := H.fz (b := w.heap.size + 2) (o := 0) (v := .int .i64 0) (by simp); have z1 := H.fz (b := w.heap.size + 2) (o := 1) (v := .int .i64 0) (by simp); obtain ⟨gs, g0, g1, gz⟩ := Gq.all (Gv.below hG H.below)) | (go_at_call 77; refine (iRestOk_xy _ _ _).mono ?_; rintro e w' ⟨rfl, hb⟩; (first | rw [h] | rw [h2]); replace H := H.call hb; have c0 := H.get (b := w.heap.size) (o := 0) (v := .int .i64 x) (by simp); have c1 := H.get (b := w.heap.size) (o := 1) (v := .int .i64 y) (by simp); have c2 := H.get (b := w.heap.size + 1) (o := 0) (v := .int .i64 x2) (by simp); have c3 := H.get (b := w.heap.size + 1) (o := 1) (v := .int .i64 y2) (by simp); have c4 := H.get (b := w.heap.size + 2) (o := 0) (v := .int .i64 0) (by simp); have c5 := H.get (b := w.heap.size + 2) (o := 1) (v := .int .i64 0) (by simp); have z0 := H.fz (b := w.heap.size + 2) (o := 0) (v := .int .i64 0) (by simp); have z1 := H.fz (b := w.heap.size + 2) (o := 1) (v := .int .i64 0) (by simp); obtain ⟨gs, g0, g1, gz⟩ := Gq.all (Gv.below hG H.below)) | (go_at_call 149; refine (single_xy _ _ _).mono ?_; rintro e w' ⟨rfl, hb⟩; (first | rw [hdx] | rw [hdy] | simp only [decide_true]); replace H := H.call hb; have c0 := H.get (b := w.heap.size) (o := 0) (v := .int .i64 x) (by simp); have c1 := H.get (b := w.heap.size) (o := 1) (v := .int .i64 y) (by simp); have c2 := H.get (b := w.heap.size + 1) (o := 0) (v := .int .i64 x2) (by simp); have c3 := H.get (b := w.heap.size + 1) (o := 1) (v := .int .i64 y2) (by simp); have c4 := H.get (b := w.heap.size + 2) (o := 0) (v := .int .i64 0) (by simp); have c5 := H.get (b := w.heap.size + 2) (o := 1) (v := .int .i64 0) (by simp); have z0 := H.fz (b := w.heap.size + 2) (o := 0) (v := .int .i64 0) (by simp); have z1 := H.fz (b := w.heap.size + 2) (o := 1) (v := .int .i64 0) (by simp); obtain ⟨gs, g0, g1, gz⟩ := Gq.all (Gv.below hG H.below)) | (go_at_call 157; refine (hro _).mono ?_; rintro e w' ⟨rfl, hcc, hcl, hb⟩; replace H := H.call hb; have c0 := H.get (b := w.heap.size) (o := 0) (v := .int .i64 x) (by simp); have c1 := H.get (b := w.heap.size) (o := 1) (v := .int .i64 y) (by simp); have c2 := H.get (b := w.heap.size + 1) (o := 0) (v := .int .i64 x2) (by simp); have c3 := H.get (b := w.heap.size + 1) (o := 1) (v := .int .i64 y2) (by simp); have c4 := H.get (b := w.heap.size + 2) (o := 0) (v := .int .i64 0) (by simp); have c5 := H.get (b := w.heap.size + 2) (o := 1) (v := .int .i64 0) (by simp); have z0 := H.fz (b := w.heap.size + 2) (o := 0) (v := .int .i64 0) (by simp); have z1 := H.fz (b := w.heap.size + 2) (o := 1) (v := .int .i64 0) (by simp); obtain ⟨gs, g0, g1, gz⟩ := Gq.all (Gv.below hG H.below)) | (go_at_call 204; refine (hcall _ _ hcc hcl).mono ?_; rintro e w' ⟨rfl, hb⟩; replace H := H.call hb; have c0 := H.get (b := w.heap.size) (o := 0) (v := .int .i64 x) (by simp); have c1 := H.get (b := w.heap.size) (o := 1) (v := .int .i64 y) (by simp); have c2 := H.get (b := w.heap.size + 1) (o := 0) (v := .int .i64 x2) (by simp); have c3 := H.get (b := w.heap.size + 1) (o := 1) (v := .int .i64 y2) (by simp); have c4 := H.get (b := w.heap.size + 2) (o := 0) (v := .int .i64 0) (by simp); have c5 := H.get (b := w.heap.size + 2) (o := 1) (v := .int .i64 0) (by simp); have z0 := H.fz (b := w.heap.size + 2) (o := 0) (v := .int .i64 0) (by simp); have z1 := H.fz (b := w.heap.size + 2) (o := 1) (v := .int .i64 0) (by simp)))
    obtain ⟨f0, f1, fb⟩ := H.fill (b := w.heap.size + 2) (x := .int .i64 0) (y := .int .i64 0) (by simp) (by simp) (by omega) (.int .i64 q.1) (.int .i64 q.2)
    refine bodyPost_ret (results_two rfl _ _ (w.heap.size + 2) (.int .i64 q.1) (.int .i64 q.2) _ rfl f0 f1 Tryd.underlying26 rfl (by kernel_rfl)) rfl ?_
    exact ⟨rfl, fb⟩
set_option maxRecDepth 100000 in
set_option maxHeartbeats 4000000 in
theorem iDo_11 (x y x2 y2 : Int) (h : qOk (x, y) = true) (h2 : qOk (x2, y2) = true) (hab : ¬ (x = 0 ∧ x2 = 0)) (w : World) (hG : Gq w) :
    Calls Tryd.prog 80 #[.int .i64 11, .agg #[.int .i64 x, .int .i64 y], .agg #[.int .i64 x2, .int .i64 y2]] w fun e w' => e = .returned (.agg #[.int .i64 (do9 11 (x, y) (x2, y2)).1, .int .i64 (do9 11 (x, y) (x2, y2)).2]) ∧ Below w.heap.size w w' := by
  have hef := eql_func
  have hen := eql_nil
  have hrf := eqlR_func
  have hrn := eqlR_nil
  have e : do9 11 (x, y) (x2, y2) = make9 (gcd9 (gcd9 x x2) 4294967296) (y + y2) := by
    unfold do9 word9
    rw [if_neg (by simp [h, h2]; decide), if_neg hab]
    simp
  rw [e]
  have hcall : ∀ (c : Nat) (w1 : World), w1.cell? ⟨c, 0, none⟩ = some (.int .i64 4294967296) → c < w1.heap.size → Calls Tryd.prog 204 #[.agg #[.int .i64 x, .int .i64 y], .agg #[.int .i64 x2, .int .i64 y2], .pointer (some ⟨c, 0, none⟩)] w1 fun e w' => e = .returned (.agg #[.int .i64 (make9 (gcd9 (gcd9 x x2) 4294967296) (y + y2)).1, .int .i64 (make9 (gcd9 (gcd9 x x2) 4294967296) (y + y2)).2]) ∧ Below w1.heap.size w1 w' := fun c w1 hc hcl => addR_xy c 4294967296 x y x2 y2 w1 hc hcl (by omega) h h2
  generalize make9 (gcd9 (gcd9 x x2) 4294967296) (y + y2) = q at *
  have ho : inB 11 1 13 = true := by decide
  have hop : ∀ w1 : World, Calls Tryd.prog 119 #[.int .i64 11] w1 fun e w' => e = .returned (.func (Fn.func (kOf 11)) #[] #[]) ∧ Below w1.heap.size w1 w' := fun w1 => oper_any 11 ho w1
  have hro : ∀ w1 : World, Calls Tryd.prog 157 #[.int .i64 11] w1 fun e w' => e = .returned (.func (Fn.func 204) #[] #[.pointer (some ⟨w1.heap.size, 0, none⟩)]) ∧ w'.cell? ⟨w1.heap.size, 0, none⟩ = some (.int .i64 4294967296) ∧ w1.heap.size < w'.heap.size ∧ Below w1.heap.size w1 w' := fun w1 => restOper_11 w1
  generalize kOf 11 = K at *
  obtain ⟨W, hW, H⟩ := Hd.three w (.int .i64 x) (.int .i64 y) (.int .i64 x2) (.int .i64 y2) (.int .i64 0) (.int .i64 0) 26 26 26
  have hdy : decide (x2 = 0) = decide (x2 = 0) := rfl
  by_cases hx0 : x = 0
  · subst hx0
    have hdx : decide ((0 : Int) = 0) = true := by simp
    have hdy : decide (x2 = 0) = false := by simp; omega
    go_enter Tryd.func80, Tryd.ntmps80
    go_wp2_with fail
    rw [← hW]
    clear hW
    have c0 := H.get (b := w.heap.size) (o := 0) (v := .int .i64 0) (by simp)
    have c1 := H.get (b := w.heap.size) (o := 1) (v := .int .i64 y) (by simp)
    have c2 := H.get (b := w.heap.size + 1) (o := 0) (v := .int .i64 x2) (by simp)
    have c3 := H.get (b := w.heap.size + 1) (o := 1) (v := .int .i64 y2) (by simp)
    have c4 := H.get (b := w.heap.size + 2) (o := 0) (v := .int .i64 0) (by simp)
    have c5 := H.get (b := w.heap.size + 2) (o := 1) (v := .int .i64 0) (by simp)
    have z0 := H.fz (b := w.heap.size + 2) (o := 0) (v := .int .i64 0) (by simp)
    have z1 := H.fz (b := w.heap.size + 2) (o := 1) (v := .int .i64 0) (by simp)
    obtain ⟨gs, g0, g1, gz⟩ := Gq.all (Gv.below hG H.below)
    go_wp2_with (first | (go_at_call 119; refine (hop _).mono ?_; rintro e w' ⟨rfl, hb⟩; replace H := H.call hb; have c0 := H.get (b := w.heap.size) (o := 0) (v := .int .i64 0) (by simp); have c1 := H.get (b := w.heap.size) (o := 1) (v := .int .i64 y) (by simp); have c2 := H.get (b := w.heap.size + 1) (o := 0) (v := .int .i64 x2) (by simp); have c3 := H.get (b := w.heap.size + 1) (o := 1) (v := .int .i64 y2) (by simp); have c4 := H.get (b := w.heap.size + 2) (o := 0) (v := .int .i64 0) (by simp); have c5 := H.get (b := w.heap.size + 2) (o := 1) (v := .int .i64 0) (by simp); have z0 := H.fz (b := w.heap.size + 2) (o := 0) (v := .int .i64 0) (by simp); have z1 := H.fz (b := w.heap.size + 2) (o := 1) (v := .int .i64 0) (by simp); obtain ⟨gs, g0, g1, gz⟩ := Gq.all (Gv.below hG H.below)) | (go_at_call 77; refine (iRestOk_xy _ _ _).mono ?_; rintro e w' ⟨rfl, hb⟩; (first | rw [h] | rw [h2]); replace H := H.call hb; have c0 := H.get (b := w.heap.size) (o := 0) (v := .int .i64 0) (by simp); have c1 := H.get (b := w.heap.size) (o := 1) (v := .int .i64 y) (by simp); have c2 := H.get (b := w.heap.size + 1) (o := 0) (v := .int .i64 x2) (by simp); have c3 := H.get (b := w.heap.size + 1) (o := 1) (v := .int .i64 y2) (by simp); have c4 := H.get (b := w.heap.size + 2) (o := 0) (v := .int .i64 0) (by simp); have c5 := H.get (b := w.heap.size + 2) (o := 1) (v := .int .i64 0) (by simp); have z0 := H.fz (b := w.heap.size + 2) (o := 0) (v := .int .i64 0) (by simp); have z1 := H.fz (b := w.heap.size + 2) (o := 1) (v := .int .i64 0) (by simp); obtain ⟨gs, g0, g1, gz⟩ := Gq.all (Gv.below hG H.below)) | (go_at_call 149; refine (single_xy _ _ _).mono ?_; rintro e w' ⟨rfl, hb⟩; (first | rw [hdx] | rw [hdy] | simp only [decide_true]); replace H := H.call hb; have c0 := H.get (b := w.heap.size) (o := 0) (v := .int .i64 0) (by simp); have c1 := H.get (b := w.heap.size) (o := 1) (v := .int .i64 y) (by simp); have c2 := H.get (b := w.heap.size + 1) (o := 0) (v := .int .i64 x2) (by simp); have c3 := H.get (b := w.heap.size + 1) (o := 1) (v := .int .i64 y2) (by simp); have c4 := H.get (b := w.heap.size + 2) (o := 0) (v := .int .i64 0) (by simp); have c5 := H.get (b := w.heap.size + 2) (o := 1) (v := .int .i64 0) (by simp); have z0 := H.fz (b := w.heap.size + 2) (o := 0) (v := .int .i64 0) (by simp); have z1 := H.fz (b := w.heap.size + 2) (o := 1) (v := .int .i64 0) (by simp); obtain ⟨gs, g0, g1, gz⟩ := Gq.all (Gv.below hG H.below)) | (go_at_call 157; refine (hro _).mono ?_; rintro e w' ⟨rfl, hcc, hcl, hb⟩; replace H := H.call hb; have c0 := H.get (b := w.heap.size) (o := 0) (v := .int .i64 0) (by simp); have c1 := H.get (b := w.heap.size) (o := 1) (v := .int .i64 y) (by simp); have c2 := H.get (b := w.heap.size + 1) (o := 0) (v := .int .i64 x2) (by simp); have c3 := H.get (b := w.heap.size + 1) (o := 1) (v := .int .i64 y2) (by simp); have c4 := H.get (b := w.heap.size + 2) (o := 0) (v := .int .i64 0) (by simp); have c5 := H.get (b := w.heap.size + 2) (o := 1) (v := .int .i64 0) (by simp); have z0 := H.fz (b := w.heap.size + 2) (o := 0) (v := .int .i64 0) (by simp); have z1 := H.fz (b := w.heap.size + 2) (o := 1) (v := .int .i64 0) (by simp); obtain ⟨gs, g0, g1, gz⟩ := Gq.all (Gv.below hG H.below)) | (go_at_call 204; refine (hcall _ _ hcc hcl).mono ?_; rintro e w' ⟨rfl, hb⟩; replace H := H.call hb; have c0 := H.get (b := w.heap.size) (o := 0) (v := .int .i64 0) (by simp); have c1 := H.get (b := w.heap.size) (o := 1) (v := .int .i64 y) (by simp); have c2 := H.get (b := w.heap.size + 1) (o := 0) (v := .int .i64 x2) (by simp); have c3 := H.get (b := w.heap.size + 1) (o := 1) (v := .int .i64 y2) (by simp); have c4 := H.get (b := w.heap.size + 2) (o := 0) (v := .int .i64 0) (by simp); have c5 := H.get (b := w.heap.size + 2) (o := 1) (v := .int .i64 0) (by simp); have z0 := H.fz (b := w.heap.size + 2) (o := 0) (v := .int .i64 0) (by simp); have z1 := H.fz (b := w.heap.size + 2) (o := 1) (v := .int .i64 0) (by simp)))
    obtain ⟨f0, f1, fb⟩ := H.fill (b := w.heap.size + 2) (x := .int .i64 0) (y := .int .i64 0) (by simp) (by simp) (by omega) (.int .i64 q.1) (.int .i64 q.2)
    refine bodyPost_ret (results_two rfl _ _ (w.heap.size + 2) (.int .i64 q.1) (.int .i64 q.2) _ rfl f0 f1 Tryd.underlying26 rfl (by kernel_rfl)) rfl ?_
    exact ⟨rfl, fb⟩
  · have hdx : decide (x = 0) = false := by simp [hx0]
    go_enter Tryd.func80, Tryd.ntmps80
    go_wp2_with fail
    rw [← hW]
    clear hW
    have c0 := H.get (b := w.heap.size) (o := 0) (v := .int .i64 x) (by simp)
    have c1 := H.get (b := w.heap.size) (o := 1) (v := .int .i64 y) (by simp)
    have c2 := H.get (b := w.heap.size + 1) (o := 0) (v := .int .i64 x2) (by simp)
    have c3 := H.get (b := w.heap.size + 1) (o := 1) (v := .int .i64 y2) (by simp)
    have c4 := H.get (b := w.heap.size + 2) (o := 0) (v := .int .i64 0) (by simp)
    have c5 := H.get (b := w.heap.size + 2) (o := 1) (v := .int .i64 0) (by simp)
    have z0 := H.fz (b := w.heap.size + 2) (o := 0) (v := .int .i64 0) (by simp)
    have z1 := H.fz (b := w.heap.size + 2) (o := 1) (v := .int .i64 0) (by simp)
    obtain ⟨gs, g0, g1, gz⟩ := Gq.all (Gv.below hG H.below)
    go_wp2_with (first | (go_at_call 119; refine (hop _).mono ?_; rintro e w' ⟨rfl, hb⟩; replace H := H.call hb; have c0 := H.get (b := w.heap.size) (o := 0) (v := .int .i64 x) (by simp); have c1 := H.get (b := w.heap.size) (o := 1) (v := .int .i64 y) (by simp); have c2 := H.get (b := w.heap.size + 1) (o := 0) (v := .int .i64 x2) (by simp); have c3 := H.get (b := w.heap.size + 1) (o := 1) (v := .int .i64 y2) (by simp); have c4 := H.get (b := w.heap.size + 2) (o := 0) (v := .int .i64 0) (by simp); have c5 := H.get (b := w.heap.size + 2) (o := 1) (v := .int .i64 0) (by simp); have z0 := H.fz (b := w.heap.size + 2) (o := 0) (v := .int .i64 0) (by simp); have z1 := H.fz (b := w.heap.size + 2) (o := 1) (v := .int .i64 0) (by simp); obtain ⟨gs, g0, g1, gz⟩ := Gq.all (Gv.below hG H.below)) | (go_at_call 77; refine (iRestOk_xy _ _ _).mono ?_; rintro e w' ⟨rfl, hb⟩; (first | rw [h] | rw [h2]); replace H := H.call hb; have c0 := H.get (b := w.heap.size) (o := 0) (v := .int .i64 x) (by simp); have c1 := H.get (b := w.heap.size) (o := 1) (v := .int .i64 y) (by simp); have c2 := H.get (b := w.heap.size + 1) (o := 0) (v := .int .i64 x2) (by simp); have c3 := H.get (b := w.heap.size + 1) (o := 1) (v := .int .i64 y2) (by simp); have c4 := H.get (b := w.heap.size + 2) (o := 0) (v := .int .i64 0) (by simp); have c5 := H.get (b := w.heap.size + 2) (o := 1) (v := .int .i64 0) (by simp); have z0 := H.fz (b := w.heap.size + 2) (o := 0) (v := .int .i64 0) (by simp); have z1 := H.fz (b := w.heap.size + 2) (o := 1) (v := .int .i64 0) (by simp); obtain ⟨gs, g0, g1, gz⟩ := Gq.all (Gv.below hG H.below)) | (go_at_call 149; refine (single_xy _ _ _).mono ?_; rintro e w' ⟨rfl, hb⟩; (first | rw [hdx] | rw [hdy] | simp only [decide_true]); replace H := H.call hb; have c0 := H.get (b := w.heap.size) (o := 0) (v := .int .i64 x) (by simp); have c1 := H.get (b := w.heap.size) (o := 1) (v := .int .i64 y) (by simp); have c2 := H.get (b := w.heap.size + 1) (o := 0) (v := .int .i64 x2) (by simp); have c3 := H.get (b := w.heap.size + 1) (o := 1) (v := .int .i64 y2) (by simp); have c4 := H.get (b := w.heap.size + 2) (o := 0) (v := .int .i64 0) (by simp); have c5 := H.get (b := w.heap.size + 2) (o := 1) (v := .int .i64 0) (by simp); have z0 := H.fz (b := w.heap.size + 2) (o := 0) (v := .int .i64 0) (by simp); have z1 := H.fz (b := w.heap.size + 2) (o := 1) (v := .int .i64 0) (by simp); obtain ⟨gs, g0, g1, gz⟩ := Gq.all (Gv.below hG H.below)) | (go_at_call 157; refine (hro _).mono ?_; rintro e w' ⟨rfl, hcc, hcl, hb⟩; replace H := H.call hb; have c0 := H.get (b := w.heap.size) (o := 0) (v := .int .i64 x) (by simp); have c1 := H.get (b := w.heap.size) (o := 1) (v := .int .i64 y) (by simp); have c2 := H.get (b := w.heap.size + 1) (o := 0) (v := .int .i64 x2) (by simp); have c3 := H.get (b := w.heap.size + 1) (o := 1) (v := .int .i64 y2) (by simp); have c4 := H.get (b := w.heap.size + 2) (o := 0) (v := .int .i64 0) (by simp); have c5 := H.get (b := w.heap.size + 2) (o := 1) (v := .int .i64 0) (by simp); have z0 := H.fz (b := w.heap.size + 2) (o := 0) (v := .int .i64 0) (by simp); have z1 := H.fz (b := w.heap.size + 2) (o := 1) (v := .int .i64 0) (by simp); obtain ⟨gs, g0, g1, gz⟩ := Gq.all (Gv.below hG H.below)) | (go_at_call 204; refine (hcall _ _ hcc hcl).mono ?_; rintro e w' ⟨rfl, hb⟩; replace H := H.call hb; have c0 := H.get (b := w.heap.size) (o := 0) (v := .int .i64 x) (by simp); have c1 := H.get (b := w.heap.size) (o := 1) (v := .int .i64 y) (by simp); have c2 := H.get (b := w.heap.size + 1) (o := 0) (v := .int .i64 x2) (by simp); have c3 := H.get (b := w.heap.size + 1) (o := 1) (v := .int .i64 y2) (by simp); have c4 := H.get (b := w.heap.size + 2) (o := 0) (v := .int .i64 0) (by simp); have c5 := H.get (b := w.heap.size + 2) (o := 1) (v := .int .i64 0) (by simp); have z0 := H.fz (b := w.heap.size + 2) (o := 0) (v := .int .i64 0) (by simp); have z1 := H.fz (b := w.heap.size + 2) (o := 1) (v := .int .i64 0) (by simp)))
    obtain ⟨f0, f1, fb⟩ := H.fill (b := w.heap.size + 2) (x := .int .i64 0) (y := .int .i64 0) (by simp) (by simp) (by omega) (.int .i64 q.1) (.int .i64 q.2)
    refine bodyPost_ret (results_two rfl _ _ (w.heap.size + 2) (.int .i64 q.1) (.int .i64 q.2) _ rfl f0 f1 Tryd.underlying26 rfl (by kernel_rfl)) rfl ?_
    exact ⟨rfl, fb⟩
set_option maxRecDepth 100000 in
set_option maxHeartbeats 4000000 in
theorem iDo_2 (x y x2 y2 : Int) (h : qOk (x, y) = true) (h2 : qOk (x2, y2) = true) (hab : ¬ (x = 0 ∧ x2 = 0)) (w : World) (hG : Gq w) :
    Calls Tryd.prog 80 #[.int .i64 2, .agg #[.int .i64 x, .int .i64 y], .agg #[.int .i64 x2, .int .i64 y2]] w fun e w' => e = .returned (.agg #[.int .i64 (do9 2 (x, y) (x2, y2)).1, .int .i64 (do9 2 (x, y) (x2, y2)).2]) ∧ Below w.heap.size w w' := by
  have hef := eql_func
  have hen := eql_nil
  have hrf := eqlR_func
  have hrn := eqlR_nil
  have e : do9 2 (x, y) (x2, y2) = make9 (gcd9 (gcd9 x x2) 0) (y - y2) := by
    unfold do9 word9
    rw [if_neg (by simp [h, h2]; decide), if_neg hab]
    simp
  rw [e]
  have hcall : ∀ (c : Nat) (w1 : World), w1.cell? ⟨c, 0, none⟩ = some (.int .i64 0) → c < w1.heap.size → Calls Tryd.prog 205 #[.agg #[.int .i64 x, .int .i64 y], .agg #[.int .i64 x2, .int .i64 y2], .pointer (some ⟨c, 0, none⟩)] w1 fun e w' => e = .returned (.agg #[.int .i64 (make9 (gcd9 (gcd9 x x2) 0) (y - y2)).1, .int .i64 (make9 (gcd9 (gcd9 x x2) 0) (y - y2)).2]) ∧ Below w1.heap.size w1 w' := fun c w1 hc hcl => subR_xy c 0 x y x2 y2 w1 hc hcl (by omega) h h2
  generalize make9 (gcd9 (gcd9 x x2) 0) (y - y2) = q at *
  have ho : inB 2 1 13 = true := by decide
  have hop : ∀ w1 : World, Calls Tryd.prog 119 #[.int .i64 2] w1 fun e w' => e = .returned (.func (Fn.func (kOf 2)) #[] #[]) ∧ Below w1.heap.size w1 w' := fun w1 => oper_any 2 ho w1
  have hro : ∀ w1 : World, Calls Tryd.prog 157 #[.int .i64 2] w1 fun e w' => e = .returned (.func (Fn.func 205) #[] #[.pointer (some ⟨w1.heap.size, 0, none⟩)]) ∧ w'.cell? ⟨w1.heap.size, 0, none⟩ = some (.int .i64 0) ∧ w1.heap.size < w'.heap.size ∧ Below w1.heap.size w1 w' := fun w1 => restOper_2 w1
  generalize kOf 2 = K at *
  obtain ⟨W, hW, H⟩ := Hd.three w (.int .i64 x) (.int .i64 y) (.int .i64 x2) (.int .i64 y2) (.int .i64 0) (.int .i64 0) 26 26 26
  have hdy : decide (x2 = 0) = decide (x2 = 0) := rfl
  by_cases hx0 : x = 0
  · subst hx0
    have hdx : decide ((0 : Int) = 0) = true := by simp
    have hdy : decide (x2 = 0) = false := by simp; omega
    go_enter Tryd.func80, Tryd.ntmps80
    go_wp2_with fail
    rw [← hW]
    clear hW
    have c0 := H.get (b := w.heap.size) (o := 0) (v := .int .i64 0) (by simp)
    have c1 := H.get (b := w.heap.size) (o := 1) (v := .int .i64 y) (by simp)
    have c2 := H.get (b := w.heap.size + 1) (o := 0) (v := .int .i64 x2) (by simp)
    have c3 := H.get (b := w.heap.size + 1) (o := 1) (v := .int .i64 y2) (by simp)
    have c4 := H.get (b := w.heap.size + 2) (o := 0) (v := .int .i64 0) (by simp)
    have c5 := H.get (b := w.heap.size + 2) (o := 1) (v := .int .i64 0) (by simp)
    have z0 := H.fz (b := w.heap.size + 2) (o := 0) (v := .int .i64 0) (by simp)
    have z1 := H.fz (b := w.heap.size + 2) (o := 1) (v := .int .i64 0) (by simp)
    obtain ⟨gs, g0, g1, gz⟩ := Gq.all (Gv.below hG H.below)
    go_wp2_with (first | (go_at_call 119; refine (hop _).mono ?_; rintro e w' ⟨rfl, hb⟩; replace H := H.call hb; have c0 := H.get (b := w.heap.size) (o := 0) (v := .int .i64 0) (by simp); have c1 := H.get (b := w.heap.size) (o := 1) (v := .int .i64 y) (by simp); have c2 := H.get (b := w.heap.size + 1) (o := 0) (v := .int .i64 x2) (by simp); have c3 := H.get (b := w.heap.size + 1) (o := 1) (v := .int .i64 y2) (by simp); have c4 := H.get (b := w.heap.size + 2) (o := 0) (v := .int .i64 0) (by simp); have c5 := H.get (b := w.heap.size + 2) (o := 1) (v := .int .i64 0) (by simp); have z0 := H.fz (b := w.heap.size + 2) (o := 0) (v := .int .i64 0) (by simp); have z1 := H.fz (b := w.heap.size + 2) (o := 1) (v := .int .i64 0) (by simp); obtain ⟨gs, g0, g1, gz⟩ := Gq.all (Gv.below hG H.below)) | (go_at_call 77; refine (iRestOk_xy _ _ _).mono ?_; rintro e w' ⟨rfl, hb⟩; (first | rw [h] | rw [h2]); replace H := H.call hb; have c0 := H.get (b := w.heap.size) (o := 0) (v := .int .i64 0) (by simp); have c1 := H.get (b := w.heap.size) (o := 1) (v := .int .i64 y) (by simp); have c2 := H.get (b := w.heap.size + 1) (o := 0) (v := .int .i64 x2) (by simp); have c3 := H.get (b := w.heap.size + 1) (o := 1) (v := .int .i64 y2) (by simp); have c4 := H.get (b := w.heap.size + 2) (o := 0) (v := .int .i64 0) (by simp); have c5 := H.get (b := w.heap.size + 2) (o := 1) (v := .int .i64 0) (by simp); have z0 := H.fz (b := w.heap.size + 2) (o := 0) (v := .int .i64 0) (by simp); have z1 := H.fz (b := w.heap.size + 2) (o := 1) (v := .int .i64 0) (by simp); obtain ⟨gs, g0, g1, gz⟩ := Gq.all (Gv.below hG H.below)) | (go_at_call 149; refine (single_xy _ _ _).mono ?_; rintro e w' ⟨rfl, hb⟩; (first | rw [hdx] | rw [hdy] | simp only [decide_true]); replace H := H.call hb; have c0 := H.get (b := w.heap.size) (o := 0) (v := .int .i64 0) (by simp); have c1 := H.get (b := w.heap.size) (o := 1) (v := .int .i64 y) (by simp); have c2 := H.get (b := w.heap.size + 1) (o := 0) (v := .int .i64 x2) (by simp); have c3 := H.get (b := w.heap.size + 1) (o := 1) (v := .int .i64 y2) (by simp); have c4 := H.get (b := w.heap.size + 2) (o := 0) (v := .int .i64 0) (by simp); have c5 := H.get (b := w.heap.size + 2) (o := 1) (v := .int .i64 0) (by simp); have z0 := H.fz (b := w.heap.size + 2) (o := 0) (v := .int .i64 0) (by simp); have z1 := H.fz (b := w.heap.size + 2) (o := 1) (v := .int .i64 0) (by simp); obtain ⟨gs, g0, g1, gz⟩ := Gq.all (Gv.below hG H.below)) | (go_at_call 157; refine (hro _).mono ?_; rintro e w' ⟨rfl, hcc, hcl, hb⟩; replace H := H.call hb; have c0 := H.get (b := w.heap.size) (o := 0) (v := .int .i64 0) (by simp); have c1 := H.get (b := w.heap.size) (o := 1) (v := .int .i64 y) (by simp); have c2 := H.get (b := w.heap.size + 1) (o := 0) (v := .int .i64 x2) (by simp); have c3 := H.get (b := w.heap.size + 1) (o := 1) (v := .int .i64 y2) (by simp); have c4 := H.get (b := w.heap.size + 2) (o := 0) (v := .int .i64 0) (by simp); have c5 := H.get (b := w.heap.size + 2) (o := 1) (v := .int .i64 0) (by simp); have z0 := H.fz (b := w.heap.size + 2) (o := 0) (v := .int .i64 0) (by simp); have z1 := H.fz (b := w.heap.size + 2) (o := 1) (v := .int .i64 0) (by simp); obtain ⟨gs, g0, g1, gz⟩ := Gq.all (Gv.below hG H.below)) | (go_at_call 205; refine (hcall _ _ hcc hcl).mono ?_; rintro e w' ⟨rfl, hb⟩; replace H := H.call hb; have c0 := H.get (b := w.heap.size) (o := 0) (v := .int .i64 0) (by simp); have c1 := H.get (b := w.heap.size) (o := 1) (v := .int .i64 y) (by simp); have c2 := H.get (b := w.heap.size + 1) (o := 0) (v := .int .i64 x2) (by simp); have c3 := H.get (b := w.heap.size + 1) (o := 1) (v := .int .i64 y2) (by simp); have c4 := H.get (b := w.heap.size + 2) (o := 0) (v := .int .i64 0) (by simp); have c5 := H.get (b := w.heap.size + 2) (o := 1) (v := .int .i64 0) (by simp); have z0 := H.fz (b := w.heap.size + 2) (o := 0) (v := .int .i64 0) (by simp); have z1 := H.fz (b := w.heap.size + 2) (o := 1) (v := .int .i64 0) (by simp)))
    obtain ⟨f0, f1, fb⟩ := H.fill (b := w.heap.size + 2) (x := .int .i64 0) (y := .int .i64 0) (by simp) (by simp) (by omega) (.int .i64 q.1) (.int .i64 q.2)
    refine bodyPost_ret (results_two rfl _ _ (w.heap.size + 2) (.int .i64 q.1) (.int .i64 q.2) _ rfl f0 f1 Tryd.underlying26 rfl (by kernel_rfl)) rfl ?_
    exact ⟨rfl, fb⟩
  · have hdx : decide (x = 0) = false := by simp [hx0]
    go_enter Tryd.func80, Tryd.ntmps80
    go_wp2_with fail
    rw [← hW]
    clear hW
    have c0 := H.get (b := w.heap.size) (o := 0) (v := .int .i64 x) (by simp)
    have c1 := H.get (b := w.heap.size) (o := 1) (v := .int .i64 y) (by simp)
    have c2 := H.get (b := w.heap.size + 1) (o := 0) (v := .int .i64 x2) (by simp)
    have c3 := H.get (b := w.heap.size + 1) (o := 1) (v := .int .i64 y2) (by simp)
    have c4 := H.get (b := w.heap.size + 2) (o := 0) (v := .int .i64 0) (by simp)
    have c5 := H.get (b := w.heap.size + 2) (o := 1) (v := .int .i64 0) (by simp)
    have z0 := H.fz (b := w.heap.size + 2) (o := 0) (v := .int .i64 0) (by simp)
    have z1 := H.fz (b := w.heap.size + 2) (o := 1) (v := .int .i64 0) (by simp)
    obtain ⟨gs, g0, g1, gz⟩ := Gq.all (Gv.below hG H.below)
    go_wp2_with (first | (go_at_call 119; refine (hop _).mono ?_; rintro e w' ⟨rfl, hb⟩; replace H := H.call hb; have c0 := H.get (b := w.heap.size) (o := 0) (v := .int .i64 x) (by simp); have c1 := H.get (b := w.heap.size) (o := 1) (v := .int .i64 y) (by simp); have c2 := H.get (b := w.heap.size + 1) (o := 0) (v := .int .i64 x2) (by simp); have c3 := H.get (b := w.heap.size + 1) (o := 1) (v := .int .i64 y2) (by simp); have c4 := H.get (b := w.heap.size + 2) (o := 0) (v := .int .i64 0) (by simp); have c5 := H.get (b := w.heap.size + 2) (o := 1) (v := .int .i64 0) (by simp); have z0 := H.fz (b := w.heap.size + 2) (o := 0) (v := .int .i64 0) (by simp); have z1 := H.fz (b := w.heap.size + 2) (o := 1) (v := .int .i64 0) (by simp); obtain ⟨gs, g0, g1, gz⟩ := Gq.all (Gv.below hG H.below)) | (go_at_call 77; refine (iRestOk_xy _ _ _).mono ?_; rintro e w' ⟨rfl, hb⟩; (first | rw [h] | rw [h2]); replace H := H.call hb; have c0 := H.get (b := w.heap.size) (o := 0) (v := .int .i64 x) (by simp); have c1 := H.get (b := w.heap.size) (o := 1) (v := .int .i64 y) (by simp); have c2 := H.get (b := w.heap.size + 1) (o := 0) (v := .int .i64 x2) (by simp); have c3 := H.get (b := w.heap.size + 1) (o := 1) (v := .int .i64 y2) (by simp); have c4 := H.get (b := w.heap.size + 2) (o := 0) (v := .int .i64 0) (by simp); have c5 := H.get (b := w.heap.size + 2) (o := 1) (v := .int .i64 0) (by simp); have z0 := H.fz (b := w.heap.size + 2) (o := 0) (v := .int .i64 0) (by simp); have z1 := H.fz (b := w.heap.size + 2) (o := 1) (v := .int .i64 0) (by simp); obtain ⟨gs, g0, g1, gz⟩ := Gq.all (Gv.below hG H.below)) | (go_at_call 149; refine (single_xy _ _ _).mono ?_; rintro e w' ⟨rfl, hb⟩; (first | rw [hdx] | rw [hdy] | simp only [decide_true]); replace H := H.call hb; have c0 := H.get (b := w.heap.size) (o := 0) (v := .int .i64 x) (by simp); have c1 := H.get (b := w.heap.size) (o := 1) (v := .int .i64 y) (by simp); have c2 := H.get (b := w.heap.size + 1) (o := 0) (v := .int .i64 x2) (by simp); have c3 := H.get (b := w.heap.size + 1) (o := 1) (v := .int .i64 y2) (by simp); have c4 := H.get (b := w.heap.size + 2) (o := 0) (v := .int .i64 0) (by simp); have c5 := H.get (b := w.heap.size + 2) (o := 1) (v := .int .i64 0) (by simp); have z0 := H.fz (b := w.heap.size + 2) (o := 0) (v := .int .i64 0) (by simp); have z1 := H.fz (b := w.heap.size + 2) (o := 1) (v := .int .i64 0) (by simp); obtain ⟨gs, g0, g1, gz⟩ := Gq.all (Gv.below hG H.below)) | (go_at_call 157; refine (hro _).mono ?_; rintro e w' ⟨rfl, hcc, hcl, hb⟩; replace H := H.call hb; have c0 := H.get (b := w.heap.size) (o := 0) (v := .int .i64 x) (by simp); have c1 := H.get (b := w.heap.size) (o := 1) (v := .int .i64 y) (by simp); have c2 := H.get (b := w.heap.size + 1) (o := 0) (v := .int .i64 x2) (by simp); have c3 := H.get (b := w.heap.size + 1) (o := 1) (v := .int .i64 y2) (by simp); have c4 := H.get (b := w.heap.size + 2) (o := 0) (v := .int .i64 0) (by simp); have c5 := H.get (b := w.heap.size + 2) (o := 1) (v := .int .i64 0) (by simp); have z0 := H.fz (b := w.heap.size + 2) (o := 0) (v := .int .i64 0) (by simp); have z1 := H.fz (b := w.heap.size + 2) (o := 1) (v := .int .i64 0) (by simp); obtain ⟨gs, g0, g1, gz⟩ := Gq.all (Gv.below hG H.below)) | (go_at_call 205; refine (hcall _ _ hcc hcl).mono ?_; rintro e w' ⟨rfl, hb⟩; replace H := H.call hb; have c0 := H.get (b := w.heap.size) (o := 0) (v := .int .i64 x) (by simp); have c1 := H.get (b := w.heap.size) (o := 1) (v := .int .i64 y) (by simp); have c2 := H.get (b := w.heap.size + 1) (o := 0) (v := .int .i64 x2) (by simp); have c3 := H.get (b := w.heap.size + 1) (o := 1) (v := .int .i64 y2) (by simp); have c4 := H.get (b := w.heap.size + 2) (o := 0) (v := .int .i64 0) (by simp); have c5 := H.get (b := w.heap.size + 2) (o := 1) (v := .int .i64 0) (by simp); have z0 := H.fz (b := w.heap.size + 2) (o := 0) (v := .int .i64 0) (by simp); have z1 := H.fz (b := w.heap.size + 2) (o := 1) (v := .int .i64 0) (by simp)))
    obtain ⟨f0, f1, fb⟩ := H.fill (b := w.heap.size + 2) (x := .int .i64 0) (y := .int .i64 0) (by simp) (by simp) (by omega) (.int .i64 q.1) (.int .i64 q.2)
    refine bodyPost_ret (results_two rfl _ _ (w.heap.size + 2) (.int .i64 q.1) (.int .i64 q.2) _ rfl f0 f1 Tryd.underlying26 rfl (by kernel_rfl)) rfl ?_
    exact ⟨rfl, fb⟩
set_option maxRecDepth 100000 in
set_option maxHeartbeats 4000000 in
theorem iDo_12 (x y x2 y2 : Int) (h : qOk (x, y) = true) (h2 : qOk (x2, y2) = true) (hab : ¬ (x = 0 ∧ x2 = 0)) (w : World) (hG : Gq w) :
    Calls Tryd.prog 80 #[.int .i64 12, .agg #[.int .i64 x, .int .i64 y], .agg #[.int .i64 x2, .int .i64 y2]] w fun e w' => e = .returned (.agg #[.int .i64 (do9 12 (x, y) (x2, y2)).1, .int .i64 (do9 12 (x, y) (x2, y2)).2]) ∧ Below w.heap.size w w' := by
  have hef := eql_func
  have hen := eql_nil
  have hrf := eqlR_func
  have hrn := eqlR_nil
  have e : do9 12 (x, y) (x2, y2) = make9 (gcd9 (gcd9 x x2) 4294967296) (y - y2) := by
    unfold do9 word9
    rw [if_neg (by simp [h, h2]; decide), if_neg hab]
    simp
  rw [e]
  have hcall : ∀ (c : Nat) (w1 : World), w1.cell? ⟨c, 0, none⟩ = some (.int .i64 4294967296) → c < w1.heap.size → Calls Tryd.prog 205 #[.agg #[.int .i64 x, .int .i64 y], .agg #[.int .i64 x2, .int .i64 y2], .pointer (some ⟨c, 0, none⟩)] w1 fun e w' => e = .returned (.agg #[.int .i64 (make9 (gcd9 (gcd9 x x2) 4294967296) (y - y2)).1, .int .i64 (make9 (gcd9 (gcd9 x x2) 4294967296) (y - y2)).2]) ∧ Below w1.heap.size w1 w' := fun c w1 hc hcl => subR_xy c 4294967296 x y x2 y2 w1 hc hcl (by omega) h h2
  generalize make9 (gcd9 (gcd9 x x2) 4294967296) (y - y2) = q at *
  have ho : inB 12 1 13 = true := by decide
  have hop : ∀ w1 : World, Calls Tryd.prog 119 #[.int .i64 12] w1 fun e w' => e = .returned (.func (Fn.func (kOf 12)) #[] #[]) ∧ Below w1.heap.size w1 w' := fun w1 => oper_any 12 ho w1
  have hro : ∀ w1 : World, Calls Tryd.prog 157 #[.int .i64 12] w1 fun e w' => e = .returned (.func (Fn.func 205) #[] #[.pointer (some ⟨w1.heap.size, 0, none⟩)]) ∧ w'.cell? ⟨w1.heap.size, 0, none⟩ = some (.int .i64 4294967296) ∧ w1.heap.size < w'.heap.size ∧ Below w1.heap.size w1 w' := fun w1 => restOper_12 w1
  generalize kOf 12 = K at *
  obtain ⟨W, hW, H⟩ := Hd.three w (.int .i64 x) (.int .i64 y) (.int .i64 x2) (.int .i64 y2) (.int .i64 0) (.int .i64 0) 26 26 26
  have hdy : decide (x2 = 0) = decide (x2 = 0) := rfl
  by_cases hx0 : x = 0
  · subst hx0
    have hdx : decide ((0 : Int) = 0) = true := by simp
    have hdy : decide (x2 = 0) = false := by simp; omega
    go_enter Tryd.func80, Tryd.ntmps80
    go_wp2_with fail
    rw [← hW]
    clear hW
    have c0 := H.get (b := w.heap.size) (o := 0) (v := .int .i64 0) (by simp)
    have c1 := H.get (b := w.heap.size) (o := 1) (v := .int .i64 y) (by simp)
    have c2 := H.get (b := w.heap.size + 1) (o := 0) (v := .int .i64 x2) (by simp)
    have c3 := H.get (b := w.heap.size + 1) (o := 1) (v := .int .i64 y2) (by simp)
    have c4 := H.get (b := w.heap.size + 2) (o := 0) (v := .int .i64 0) (by simp)
    have c5 := H.get (b := w.heap.size + 2) (o := 1) (v := .int .i64 0) (by simp)
    have z0 := H.fz (b := w.heap.size + 2) (o := 0) (v := .int .i64 0) (by simp)
    have z1 := H.fz (b := w.heap.size + 2) (o := 1) (v := .int .i64 0) (by simp)
    obtain ⟨gs, g0, g1, gz⟩ := Gq.all (Gv.below hG H.below)
    go_wp2_with (first | (go_at_call 119; refine (hop _).mono ?_; rintro e w' ⟨rfl, hb⟩; replace H := H.call hb; have c0 := H.get (b := w.heap.size) (o := 0) (v := .int .i64 0) (by simp); have c1 := H.get (b := w.heap.size) (o := 1) (v := .int .i64 y) (by simp); have c2 := H.get (b := w.heap.size + 1) (o := 0) (v := .int .i64 x2) (by simp); have c3 := H.get (b := w.heap.size + 1) (o := 1) (v := .int .i64 y2) (by simp); have c4 := H.get (b := w.heap.size + 2) (o := 0) (v := .int .i64 0) (by simp); have c5 := H.get (b := w.heap.size + 2) (o := 1) (v := .int .i64 0) (by simp); have z0 := H.fz (b := w.heap.size + 2) (o := 0) (v := .int .i64 0) (by simp); have z1 := H.fz (b := w.heap.size + 2) (o := 1) (v := .int .i64 0) (by simp); obtain ⟨gs, g0, g1, gz⟩ := Gq.all (Gv.below hG H.below)) | (go_at_call 77; refine (iRestOk_xy _ _ _).mono ?_; rintro e w' ⟨rfl, hb⟩; (first | rw [h] | rw [h2]); replace H := H.call hb; have c0 := H.get (b := w.heap.size) (o := 0) (v := .int .i64 0) (by simp); have c1 := H.get (b := w.heap.size) (o := 1) (v := .int .i64 y) (by simp); have c2 := H.get (b := w.heap.size + 1) (o := 0) (v := .int .i64 x2) (by simp); have c3 := H.get (b := w.heap.size + 1) (o := 1) (v := .int .i64 y2) (by simp); have c4 := H.get (b := w.heap.size + 2) (o := 0) (v := .int .i64 0) (by simp); have c5 := H.get (b := w.heap.size + 2) (o := 1) (v := .int .i64 0) (by simp); have z0 := H.fz (b := w.heap.size + 2) (o := 0) (v := .int .i64 0) (by simp); have z1 := H.fz (b := w.heap.size + 2) (o := 1) (v := .int .i64 0) (by simp); obtain ⟨gs, g0, g1, gz⟩ := Gq.all (Gv.below hG H.below)) | (go_at_call 149; refine (single_xy _ _ _).mono ?_; rintro e w' ⟨rfl, hb⟩; (first | rw [hdx] | rw [hdy] | simp only [decide_true]); replace H := H.call hb; have c0 := H.get (b := w.heap.size) (o := 0) (v := .int .i64 0) (by simp); have c1 := H.get (b := w.heap.size) (o := 1) (v := .int .i64 y) (by simp); have c2 := H.get (b := w.heap.size + 1) (o := 0) (v := .int .i64 x2) (by simp); have c3 := H.get (b := w.heap.size + 1) (o := 1) (v := .int .i64 y2) (by simp); have c4 := H.get (b := w.heap.size + 2) (o := 0) (v := .int .i64 0) (by simp); have c5 := H.get (b := w.heap.size + 2) (o := 1) (v := .int .i64 0) (by simp); have z0 := H.fz (b := w.heap.size + 2) (o := 0) (v := .int .i64 0) (by simp); have z1 := H.fz (b := w.heap.size + 2) (o := 1) (v := .int .i64 0) (by simp); obtain ⟨gs, g0, g1, gz⟩ := Gq.all (Gv.below hG H.below)) | (go_at_call 157; refine (hro _).mono ?_; rintro e w' ⟨rfl, hcc, hcl, hb⟩; replace H := H.call hb; have c0 := H.get (b := w.heap.size) (o := 0) (v := .int .i64 0) (by simp); have c1 := H.get (b := w.heap.size) (o := 1) (v := .int .i64 y) (by simp); have c2 := H.get (b := w.heap.size + 1) (o := 0) (v := .int .i64 x2) (by simp); have c3 := H.get (b := w.heap.size + 1) (o := 1) (v := .int .i64 y2) (by simp); have c4 := H.get (b := w.heap.size + 2) (o := 0) (v := .int .i64 0) (by simp); have c5 := H.get (b := w.heap.size + 2) (o := 1) (v := .int .i64 0) (by simp); have z0 := H.fz (b := w.heap.size + 2) (o := 0) (v := .int .i64 0) (by simp); have z1 := H.fz (b := w.heap.size + 2) (o := 1) (v := .int .i64 0) (by simp); obtain ⟨gs, g0, g1, gz⟩ := Gq.all (Gv.below hG H.below)) | (go_at_call 205; refine (hcall _ _ hcc hcl).mono ?_; rintro e w' ⟨rfl, hb⟩; replace H := H.call hb; have c0 := H.get (b := w.heap.size) (o := 0) (v := .int .i64 0) (by simp); have c1 := H.get (b := w.heap.size) (o := 1) (v := .int .i64 y) (by simp); have c2 := H.get (b := w.heap.size + 1) (o := 0) (v := .int .i64 x2) (by simp); have c3 := H.get (b := w.heap.size + 1) (o := 1) (v := .int .i64 y2) (by simp); have c4 := H.get (b := w.heap.size + 2) (o := 0) (v := .int .i64 0) (by simp); have c5 := H.get (b := w.heap.size + 2) (o := 1) (v := .int .i64 0) (by simp); have z0 := H.fz (b := w.heap.size + 2) (o := 0) (v := .int .i64 0) (by simp); have z1 := H.fz (b := w.heap.size + 2) (o := 1) (v := .int .i64 0) (by simp)))
    obtain ⟨f0, f1, fb⟩ := H.fill (b := w.heap.size + 2) (x := .int .i64 0) (y := .int .i64 0) (by simp) (by simp) (by omega) (.int .i64 q.1) (.int .i64 q.2)
    refine bodyPost_ret (results_two rfl _ _ (w.heap.size + 2) (.int .i64 q.1) (.int .i64 q.2) _ rfl f0 f1 Tryd.underlying26 rfl (by kernel_rfl)) rfl ?_
    exact ⟨rfl, fb⟩
  · have hdx : decide (x = 0) = false := by simp [hx0]
    go_enter Tryd.func80, Tryd.ntmps80
    go_wp2_with fail
    rw [← hW]
    clear hW
    have c0 := H.get (b := w.heap.size) (o := 0) (v := .int .i64 x) (by simp)
    have c1 := H.get (b := w.heap.size) (o := 1) (v := .int .i64 y) (by simp)
    have c2 := H.get (b := w.heap.size + 1) (o := 0) (v := .int .i64 x2) (by simp)
    have c3 := H.get (b := w.heap.size + 1) (o := 1) (v := .int .i64 y2) (by simp)
    have c4 := H.get (b := w.heap.size + 2) (o := 0) (v := .int .i64 0) (by simp)
    have c5 := H.get (b := w.heap.size + 2) (o := 1) (v := .int .i64 0) (by simp)
    have z0 := H.fz (b := w.heap.size + 2) (o := 0) (v := .int .i64 0) (by simp)
    have z1 := H.fz (b := w.heap.size + 2) (o := 1) (v := .int .i64 0) (by simp)
    obtain ⟨gs, g0, g1, gz⟩ := Gq.all (Gv.below hG H.below)
    go_wp2_with (first | (go_at_call 119; refine (hop _).mono ?_; rintro e w' ⟨rfl, hb⟩; replace H := H.call hb; have c0 := H.get (b := w.heap.size) (o := 0) (v := .int .i64 x) (by simp); have c1 := H.get (b := w.heap.size) (o := 1) (v := .int .i64 y) (by simp); have c2 := H.get (b := w.heap.size + 1) (o := 0) (v := .int .i64 x2) (by simp); have c3 := H.get (b := w.heap.size + 1) (o := 1) (v := .int .i64 y2) (by simp); have c4 := H.get (b := w.heap.size + 2) (o := 0) (v := .int .i64 0) (by simp); have c5 := H.get (b := w.heap.size + 2) (o := 1) (v := .int .i64 0) (by simp); have z0 := H.fz (b := w.heap.size + 2) (o := 0) (v := .int .i64 0) (by simp); have z1 := H.fz (b := w.heap.size + 2) (o := 1) (v := .int .i64 0) (by simp); obtain ⟨gs, g0, g1, gz⟩ := Gq.all (Gv.below hG H.below)) | (go_at_call 77; refine (iRestOk_xy _ _ _).mono ?_; rintro e w' ⟨rfl, hb⟩; (first | rw [h] | rw [h2]); replace H := H.call hb; have c0 := H.get (b := w.heap.size) (o := 0) (v := .int .i64 x) (by simp); have c1 := H.get (b := w.heap.size) (o := 1) (v := .int .i64 y) (by simp); have c2 := H.get (b := w.heap.size + 1) (o := 0) (v := .int .i64 x2) (by simp); have c3 := H.get (b := w.heap.size + 1) (o := 1) (v := .int .i64 y2) (by simp); have c4 := H.get (b := w.heap.size + 2) (o := 0) (v := .int .i64 0) (by simp); have c5 := H.get (b := w.heap.size + 2) (o := 1) (v := .int .i64 0) (by simp); have z0 := H.fz (b := w.heap.size + 2) (o := 0) (v := .int .i64 0) (by simp); have z1 := H.fz (b := w.heap.size + 2) (o := 1) (v := .int .i64 0) (by simp); obtain ⟨gs, g0, g1, gz⟩ := Gq.all (Gv.below hG H.below)) | (go_at_call 149; refine (single_xy _ _ _).mono ?_; rintro e w' ⟨rfl, hb⟩; (first | rw [hdx] | rw [hdy] | simp only [decide_true]); replace H := H.call hb; have c0 := H.get (b := w.heap.size) (o := 0) (v := .int .i64 x) (by simp); have c1 := H.get (b := w.heap.size) (o := 1) (v := .int .i64 y) (by simp); have c2 := H.get (b := w.heap.size + 1) (o := 0) (v := .int .i64 x2) (by simp); have c3 := H.get (b := w.heap.size + 1) (o := 1) (v := .int .i64 y2) (by simp); have c4 := H.get (b := w.heap.size + 2) (o := 0) (v := .int .i64 0) (by simp); have c5 := H.get (b := w.heap.size + 2) (o := 1) (v := .int .i64 0) (by simp); have z0 := H.fz (b := w.heap.size + 2) (o := 0) (v := .int .i64 0) (by simp); have z1 := H.fz (b := w.heap.size + 2) (o := 1) (v := .int .i64 0) (by simp); obtain ⟨gs, g0, g1, gz⟩ := Gq.all (Gv.below hG H.below)) | (go_at_call 157; refine (hro _).mono ?_; rintro e w' ⟨rfl, hcc, hcl, hb⟩; replace H := H.call hb; have c0 := H.get (b := w.heap.size) (o := 0) (v := .int .i64 x) (by simp); have c1 := H.get (b := w.heap.size) (o := 1) (v := .int .i64 y) (by simp); have c2 := H.get (b := w.heap.size + 1) (o := 0) (v := .int .i64 x2) (by simp); have c3 := H.get (b := w.heap.size + 1) (o := 1) (v := .int .i64 y2) (by simp); have c4 := H.get (b := w.heap.size + 2) (o := 0) (v := .int .i64 0) (by simp); have c5 := H.get (b := w.heap.size + 2) (o := 1) (v := .int .i64 0) (by simp); have z0 := H.fz (b := w.heap.size + 2) (o := 0) (v := .int .i64 0) (by simp); have z1 := H.fz (b := w.heap.size + 2) (o := 1) (v := .int .i64 0) (by simp); obtain ⟨gs, g0, g1, gz⟩ := Gq.all (Gv.below hG H.below)) | (go_at_call 205; refine (hcall _ _ hcc hcl).mono ?_; rintro e w' ⟨rfl, hb⟩; replace H := H.call hb; have c0 := H.get (b := w.heap.size) (o := 0) (v := .int .i64 x) (by simp); have c1 := H.get (b := w.heap.size) (o := 1) (v := .int .i64 y) (by simp); have c2 := H.get (b := w.heap.size + 1) (o := 0) (v := .int .i64 x2) (by simp); have c3 := H.get (b := w.heap.size + 1) (o := 1) (v := .int .i64 y2) (by simp); have c4 := H.get (b := w.heap.size + 2) (o := 0) (v := .int .i64 0) (by simp); have c5 := H.get (b := w.heap.size + 2) (o := 1) (v := .int .i64 0) (by simp); have z0 := H.fz (b := w.heap.size + 2) (o := 0) (v := .int .i64 0) (by simp); have z1 := H.fz (b := w.heap.size + 2) (o := 1) (v := .int .i64 0) (by simp)))
    obtain ⟨f0, f1, fb⟩ := H.fill (b := w.heap.size + 2) (x := .int .i64 0) (y := .int .i64 0) (by simp) (by simp) (by omega) (.int .i64 q.1) (.int .i64 q.2)
    refine bodyPost_ret (results_two rfl _ _ (w.heap.size + 2) (.int .i64 q.1) (.int .i64 q.2) _ rfl f0 f1 Tryd.underlying26 rfl (by kernel_rfl)) rfl ?_
    exact ⟨rfl, fb⟩
end Go.Proofs.YthbbgkpkijlclaaDoor.num
namespace Go.Proofs.YthbbgkpkijlclaaDoor.num
open Go.ChangeShapes Go.WideShapes Go.ChangeAt Go.RowKit
set_option linter.unusedVariables false

set_option maxRecDepth 100000 in
set_option maxHeartbeats 4000000 in
theorem iDo_4 (x y x2 y2 : Int) (h : qOk (x, y) = true) (h2 : qOk (x2, y2) = true) (hab : ¬ (x = 0 ∧ x2 = 0)) (w : World) (hG : Gq w) :
    Calls Tryd.prog 80 #[.int .i64 4, .agg #[.int .i64 x, .int .i64 y], .agg #[.int .i64 x2, .int .i64 y2]] w fun e w' => e = .returned (.agg #[.int .i64 (do9 4 (x, y) (x2, y2)).1, .int .i64 (do9 4 (x, y) (x2, y2)).2]) ∧ Below w.heap.size w w' := by
  have hef := eql_func
  have hen := eql_nil
  have hrf := eqlR_func
  have hrn := eqlR_nil
  have e : do9 4 (x, y) (x2, y2) = (1, 0) := by
    unfold do9
    rw [if_neg (by simp [h, h2]; decide), if_neg hab]
    simp [all9]
  rw [e]
  have ho : inB 4 1 13 = true := by decide
  have hop : ∀ w1 : World, Calls Tryd.prog 119 #[.int .i64 4] w1 fun e w' => e = .returned (.func (Fn.func (kOf 4)) #[] #[]) ∧ Below w1.heap.size w1 w' := fun w1 => oper_any 4 ho w1
  have hro : ∀ w1 : World, Calls Tryd.prog 157 #[.int .i64 4] w1 fun e w' => e = .returned .nilFunc ∧ w'.cell? ⟨w1.heap.size, 0, none⟩ = some (.int .i64 0) ∧ w1.heap.size < w'.heap.size ∧ Below w1.heap.size w1 w' := fun w1 => restOper_4 w1
  generalize kOf 4 = K at *
  obtain ⟨W, hW, H⟩ := Hd.three w (.int .i64 x) (.int .i64 y) (.int .i64 x2) (.int .i64 y2) (.int .i64 0) (.int .i64 0) 26 26 26
  have hdy : decide (x2 = 0) = decide (x2 = 0) := rfl
  by_cases hx0 : x = 0
  · subst hx0
    have hdx : decide ((0 : Int) = 0) = true := by simp
    have hdy : decide (x2 = 0) = false := by simp; omega
    go_enter Tryd.func80, Tryd.ntmps80
    go_wp2_with fail
    rw [← hW]
    clear hW
    have c0 := H.get (b := w.heap.size) (o := 0) (v := .int .i64 0) (by simp)
    have c1 := H.get (b := w.heap.size) (o := 1) (v := .int .i64 y) (by simp)
    have c2 := H.get (b := w.heap.size + 1) (o := 0) (v := .int .i64 x2) (by simp)
    have c3 := H.get (b := w.heap.size + 1) (o := 1) (v := .int .i64 y2) (by simp)
    have c4 := H.get (b := w.heap.size + 2) (o := 0) (v := .int .i64 0) (by simp)
    have c5 := H.get (b := w.heap.size + 2) (o := 1) (v := .int .i64 0) (by simp)
    have z0 := H.fz (b := w.heap.size + 2) (o := 0) (v := .int .i64 0) (by simp)
    have z1 := H.fz (b := w.heap.size + 2) (o := 1) (v := .int .i64 0) (by simp)
    obtain ⟨gs, g0, g1, gz⟩ := Gq.all (Gv.below hG H.below)
    go_wp2_with (first | (go_at_call 119; refine (hop _).mono ?_; rintro e w' ⟨rfl, hb⟩; replace H := H.call hb; have c0 := H.get (b := w.heap.size) (o := 0) (v := .int .i64 0) (by simp); have c1 := H.get (b := w.heap.size) (o := 1) (v := .int .i64 y) (by simp); have c2 := H.get (b := w.heap.size + 1) (o := 0) (v := .int .i64 x2) (by simp); have c3 := H.get (b := w.heap.size + 1) (o := 1) (v := .int .i64 y2) (by simp); have c4 := H.get (b := w.heap.size + 2) (o := 0) (v := .int .i64 0) (by simp); have c5 := H.get (b := w.heap.size + 2) (o := 1) (v := .int .i64 0) (by simp); have z0 := H.fz (b := w.heap.size + 2) (o := 0) (v := .int .i64 0) (by simp); have z1 := H.fz (b := w.heap.size + 2) (o := 1) (v := .int .i64 0) (by simp); obtain ⟨gs, g0, g1, gz⟩ := Gq.all (Gv.below hG H.below)) | (go_at_call 77; refine (iRestOk_xy _ _ _).mono ?_; rintro e w' ⟨rfl, hb⟩; (first | rw [h] | rw [h2]); replace H := H.call hb; have c0 := H.get (b := w.heap.size) (o := 0) (v := .int .i64 0) (by simp); have c1 := H.get (b := w.heap.size) (o := 1) (v := .int .i64 y) (by simp); have c2 := H.get (b := w.heap.size + 1) (o := 0) (v := .int .i64 x2) (by simp); have c3 := H.get (b := w.heap.size + 1) (o := 1) (v := .int .i64 y2) (by simp); have c4 := H.get (b := w.heap.size + 2) (o := 0) (v := .int .i64 0) (by simp); have c5 := H.get (b := w.heap.size + 2) (o := 1) (v := .int .i64 0) (by simp); have z0 := H.fz (b := w.heap.size + 2) (o := 0) (v := .int .i64 0) (by simp); have z1 := H.fz (b := w.heap.size + 2) (o := 1) (v := .int .i64 0) (by simp); obtain ⟨gs, g0, g1, gz⟩ := Gq.all (Gv.below hG H.below)) | (go_at_call 149; refine (single_xy _ _ _).mono ?_; rintro e w' ⟨rfl, hb⟩; (first | rw [hdx] | rw [hdy] | simp only [decide_true]); replace H := H.call hb; have c0 := H.get (b := w.heap.size) (o := 0) (v := .int .i64 0) (by simp); have c1 := H.get (b := w.heap.size) (o := 1) (v := .int .i64 y) (by simp); have c2 := H.get (b := w.heap.size + 1) (o := 0) (v := .int .i64 x2) (by simp); have c3 := H.get (b := w.heap.size + 1) (o := 1) (v := .int .i64 y2) (by simp); have c4 := H.get (b := w.heap.size + 2) (o := 0) (v := .int .i64 0) (by simp); have c5 := H.get (b := w.heap.size + 2) (o := 1) (v := .int .i64 0) (by simp); have z0 := H.fz (b := w.heap.size + 2) (o := 0) (v := .int .i64 0) (by simp); have z1 := H.fz (b := w.heap.size + 2) (o := 1) (v := .int .i64 0) (by simp); obtain ⟨gs, g0, g1, gz⟩ := Gq.all (Gv.below hG H.below)) | (go_at_call 157; refine (hro _).mono ?_; rintro e w' ⟨rfl, hcc, hcl, hb⟩; replace H := H.call hb; have c0 := H.get (b := w.heap.size) (o := 0) (v := .int .i64 0) (by simp); have c1 := H.get (b := w.heap.size) (o := 1) (v := .int .i64 y) (by simp); have c2 := H.get (b := w.heap.size + 1) (o := 0) (v := .int .i64 x2) (by simp); have c3 := H.get (b := w.heap.size + 1) (o := 1) (v := .int .i64 y2) (by simp); have c4 := H.get (b := w.heap.size + 2) (o := 0) (v := .int .i64 0) (by simp); have c5 := H.get (b := w.heap.size + 2) (o := 1) (v := .int .i64 0) (by simp); have z0 := H.fz (b := w.heap.size + 2) (o := 0) (v := .int .i64 0) (by simp); have z1 := H.fz (b := w.heap.size + 2) (o := 1) (v := .int .i64 0) (by simp); obtain ⟨gs, g0, g1, gz⟩ := Gq.all (Gv.below hG H.below)))
    obtain ⟨f0, f1, fb⟩ := H.fill (b := w.heap.size + 2) (x := .int .i64 0) (y := .int .i64 0) (by simp) (by simp) (by omega) (.int .i64 1) (.int .i64 0)
    refine bodyPost_ret (results_two rfl _ _ (w.heap.size + 2) (.int .i64 1) (.int .i64 0) _ rfl f0 f1 Tryd.underlying26 rfl (by kernel_rfl)) rfl ?_
    exact ⟨rfl, fb⟩
  · have hdx : decide (x = 0) = false := by simp [hx0]
    go_enter Tryd.func80, Tryd.ntmps80
    go_wp2_with fail
    rw [← hW]
    clear hW
    have c0 := H.get (b := w.heap.size) (o := 0) (v := .int .i64 x) (by simp)
    have c1 := H.get (b := w.heap.size) (o := 1) (v := .int .i64 y) (by simp)
    have c2 := H.get (b := w.heap.size + 1) (o := 0) (v := .int .i64 x2) (by simp)
    have c3 := H.get (b := w.heap.size + 1) (o := 1) (v := .int .i64 y2) (by simp)
    have c4 := H.get (b := w.heap.size + 2) (o := 0) (v := .int .i64 0) (by simp)
    have c5 := H.get (b := w.heap.size + 2) (o := 1) (v := .int .i64 0) (by simp)
    have z0 := H.fz (b := w.heap.size + 2) (o := 0) (v := .int .i64 0) (by simp)
    have z1 := H.fz (b := w.heap.size + 2) (o := 1) (v := .int .i64 0) (by simp)
    obtain ⟨gs, g0, g1, gz⟩ := Gq.all (Gv.below hG H.below)
    go_wp2_with (first | (go_at_call 119; refine (hop _).mono ?_; rintro e w' ⟨rfl, hb⟩; replace H := H.call hb; have c0 := H.get (b := w.heap.size) (o := 0) (v := .int .i64 x) (by simp); have c1 := H.get (b := w.heap.size) (o := 1) (v := .int .i64 y) (by simp); have c2 := H.get (b := w.heap.size + 1) (o := 0) (v := .int .i64 x2) (by simp); have c3 := H.get (b := w.heap.size + 1) (o := 1) (v := .int .i64 y2) (by simp); have c4 := H.get (b := w.heap.size + 2) (o := 0) (v := .int .i64 0) (by simp); have c5 := H.get (b := w.heap.size + 2) (o := 1) (v := .int .i64 0) (by simp); have z0 := H.fz (b := w.heap.size + 2) (o := 0) (v := .int .i64 0) (by simp); have z1 := H.fz (b := w.heap.size + 2) (o := 1) (v := .int .i64 0) (by simp); obtain ⟨gs, g0, g1, gz⟩ := Gq.all (Gv.below hG H.below)) | (go_at_call 77; refine (iRestOk_xy _ _ _).mono ?_; rintro e w' ⟨rfl, hb⟩; (first | rw [h] | rw [h2]); replace H := H.call hb; have c0 := H.get (b := w.heap.size) (o := 0) (v := .int .i64 x) (by simp); have c1 := H.get (b := w.heap.size) (o := 1) (v := .int .i64 y) (by simp); have c2 := H.get (b := w.heap.size + 1) (o := 0) (v := .int .i64 x2) (by simp); have c3 := H.get (b := w.heap.size + 1) (o := 1) (v := .int .i64 y2) (by simp); have c4 := H.get (b := w.heap.size + 2) (o := 0) (v := .int .i64 0) (by simp); have c5 := H.get (b := w.heap.size + 2) (o := 1) (v := .int .i64 0) (by simp); have z0 := H.fz (b := w.heap.size + 2) (o := 0) (v := .int .i64 0) (by simp); have z1 := H.fz (b := w.heap.size + 2) (o := 1) (v := .int .i64 0) (by simp); obtain ⟨gs, g0, g1, gz⟩ := Gq.all (Gv.below hG H.below)) | (go_at_call 149; refine (single_xy _ _ _).mono ?_; rintro e w' ⟨rfl, hb⟩; (first | rw [hdx] | rw [hdy] | simp only [decide_true]); replace H := H.call hb; have c0 := H.get (b := w.heap.size) (o := 0) (v := .int .i64 x) (by simp); have c1 := H.get (b := w.heap.size) (o := 1) (v := .int .i64 y) (by simp); have c2 := H.get (b := w.heap.size + 1) (o := 0) (v := .int .i64 x2) (by simp); have c3 := H.get (b := w.heap.size + 1) (o := 1) (v := .int .i64 y2) (by simp); have c4 := H.get (b := w.heap.size + 2) (o := 0) (v := .int .i64 0) (by simp); have c5 := H.get (b := w.heap.size + 2) (o := 1) (v := .int .i64 0) (by simp); have z0 := H.fz (b := w.heap.size + 2) (o := 0) (v := .int .i64 0) (by simp); have z1 := H.fz (b := w.heap.size + 2) (o := 1) (v := .int .i64 0) (by simp); obtain ⟨gs, g0, g1, gz⟩ := Gq.all (Gv.below hG H.below)) | (go_at_call 157; refine (hro _).mono ?_; rintro e w' ⟨rfl, hcc, hcl, hb⟩; replace H := H.call hb; have c0 := H.get (b := w.heap.size) (o := 0) (v := .int .i64 x) (by simp); have c1 := H.get (b := w.heap.size) (o := 1) (v := .int .i64 y) (by simp); have c2 := H.get (b := w.heap.size + 1) (o := 0) (v := .int .i64 x2) (by simp); have c3 := H.get (b := w.heap.size + 1) (o := 1) (v := .int .i64 y2) (by simp); have c4 := H.get (b := w.heap.size + 2) (o := 0) (v := .int .i64 0) (by simp); have c5 := H.get (b := w.heap.size + 2) (o := 1) (v := .int .i64 0) (by simp); have z0 := H.fz (b := w.heap.size + 2) (o := 0) (v := .int .i64 0) (by simp); have z1 := H.fz (b := w.heap.size + 2) (o := 1) (v := .int .i64 0) (by simp); obtain ⟨gs, g0, g1, gz⟩ := Gq.all (Gv.below hG H.below)))
    obtain ⟨f0, f1, fb⟩ := H.fill (b := w.heap.size + 2) (x := .int .i64 0) (y := .int .i64 0) (by simp) (by simp) (by omega) (.int .i64 1) (.int .i64 0)
    refine bodyPost_ret (results_two rfl _ _ (w.heap.size + 2) (.int .i64 1) (.int .i64 0) _ rfl f0 f1 Tryd.underlying26 rfl (by kernel_rfl)) rfl ?_
    exact ⟨rfl, fb⟩
set_option maxRecDepth 100000 in
set_option maxHeartbeats 4000000 in
theorem iDo_6 (x y x2 y2 : Int) (h : qOk (x, y) = true) (h2 : qOk (x2, y2) = true) (hab : ¬ (x = 0 ∧ x2 = 0)) (w : World) (hG : Gq w) :
    Calls Tryd.prog 80 #[.int .i64 6, .agg #[.int .i64 x, .int .i64 y], .agg #[.int .i64 x2, .int .i64 y2]] w fun e w' => e = .returned (.agg #[.int .i64 (do9 6 (x, y) (x2, y2)).1, .int .i64 (do9 6 (x, y) (x2, y2)).2]) ∧ Below w.heap.size w w' := by
  have hef := eql_func
  have hen := eql_nil
  have hrf := eqlR_func
  have hrn := eqlR_nil
  have e : do9 6 (x, y) (x2, y2) = (1, 0) := by
    unfold do9
    rw [if_neg (by simp [h, h2]; decide), if_neg hab]
    simp [all9]
  rw [e]
  have ho : inB 6 1 13 = true := by decide
  have hop : ∀ w1 : World, Calls Tryd.prog 119 #[.int .i64 6] w1 fun e w' => e = .returned (.func (Fn.func (kOf 6)) #[] #[]) ∧ Below w1.heap.size w1 w' := fun w1 => oper_any 6 ho w1
  have hro : ∀ w1 : World, Calls Tryd.prog 157 #[.int .i64 6] w1 fun e w' => e = .returned .nilFunc ∧ w'.cell? ⟨w1.heap.size, 0, none⟩ = some (.int .i64 0) ∧ w1.heap.size < w'.heap.size ∧ Below w1.heap.size w1 w' := fun w1 => restOper_6 w1
  generalize kOf 6 = K at *
  obtain ⟨W, hW, H⟩ := Hd.three w (.int .i64 x) (.int .i64 y) (.int .i64 x2) (.int .i64 y2) (.int .i64 0) (.int .i64 0) 26 26 26
  have hdy : decide (x2 = 0) = decide (x2 = 0) := rfl
  by_cases hx0 : x = 0
  · subst hx0
    have hdx : decide ((0 : Int) = 0) = true := by simp
    have hdy : decide (x2 = 0) = false := by simp; omega
    go_enter Tryd.func80, Tryd.ntmps80
    go_wp2_with fail
    rw [← hW]
    clear hW
    have c0 := H.get (b := w.heap.size) (o := 0) (v := .int .i64 0) (by simp)
    have c1 := H.get (b := w.heap.size) (o := 1) (v := .int .i64 y) (by simp)
    have c2 := H.get (b := w.heap.size + 1) (o := 0) (v := .int .i64 x2) (by simp)
    have c3 := H.get (b := w.heap.size + 1) (o := 1) (v := .int .i64 y2) (by simp)
    have c4 := H.get (b := w.heap.size + 2) (o := 0) (v := .int .i64 0) (by simp)
    have c5 := H.get (b := w.heap.size + 2) (o := 1) (v := .int .i64 0) (by simp)
    have z0 := H.fz (b := w.heap.size + 2) (o := 0) (v := .int .i64 0) (by simp)
    have z1 := H.fz (b := w.heap.size + 2) (o := 1) (v := .int .i64 0) (by simp)
    obtain ⟨gs, g0, g1, gz⟩ := Gq.all (Gv.below hG H.below)
    go_wp2_with (first | (go_at_call 119; refine (hop _).mono ?_; rintro e w' ⟨rfl, hb⟩; replace H := H.call hb; have c0 := H.get (b := w.heap.size) (o := 0) (v := .int .i64 0) (by simp); have c1 := H.get (b := w.heap.size) (o := 1) (v := .int .i64 y) (by simp); have c2 := H.get (b := w.heap.size + 1) (o := 0) (v := .int .i64 x2) (by simp); have c3 := H.get (b := w.heap.size + 1) (o := 1) (v := .int .i64 y2) (by simp); have c4 := H.get (b := w.heap.size + 2) (o := 0) (v := .int .i64 0) (by simp); have c5 := H.get (b := w.heap.size + 2) (o := 1) (v := .int .i64 0) (by simp); have z0 := H.fz (b := w.heap.size + 2) (o := 0) (v := .int .i64 0) (by simp); have z1 := H.fz (b := w.heap.size + 2) (o := 1) (v := .int .i64 0) (by simp); obtain ⟨gs, g0, g1, gz⟩ := Gq.all (Gv.below hG H.below)) | (go_at_call 77; refine (iRestOk_xy _ _ _).mono ?_; rintro e w' ⟨rfl, hb⟩; (first | rw [h] | rw [h2]); replace H := H.call hb; have c0 := H.get (b := w.heap.size) (o := 0) (v := .int .i64 0) (by simp); have c1 := H.get (b := w.heap.size) (o := 1) (v := .int .i64 y) (by simp); have c2 := H.get (b := w.heap.size + 1) (o := 0) (v := .int .i64 x2) (by simp); have c3 := H.get (b := w.heap.size + 1) (o := 1) (v := .int .i64 y2) (by simp); have c4 := H.get (b := w.heap.size + 2) (o := 0) (v := .int .i64 0) (by simp); have c5 := H.get (b := w.heap.size + 2) (o := 1) (v := .int .i64 0) (by simp); have z0 := H.fz (b := w.heap.size + 2) (o := 0) (v := .int .i64 0) (by simp); have z1 := H.fz (b := w.heap.size + 2) (o := 1) (v := .int .i64 0) (by simp); obtain ⟨gs, g0, g1, gz⟩ := Gq.all (Gv.below hG H.below)) | (go_at_call 149; refine (single_xy _ _ _).mono ?_; rintro e w' ⟨rfl, hb⟩; (first | rw [hdx] | rw [hdy] | simp only [decide_true]); replace H := H.call hb; have c0 := H.get (b := w.heap.size) (o := 0) (v := .int .i64 0) (by simp); have c1 := H.get (b := w.heap.size) (o := 1) (v := .int .i64 y) (by simp); have c2 := H.get (b := w.heap.size + 1) (o := 0) (v := .int .i64 x2) (by simp); have c3 := H.get (b := w.heap.size + 1) (o := 1) (v := .int .i64 y2) (by simp); have c4 := H.get (b := w.heap.size + 2) (o := 0) (v := .int .i64 0) (by simp); have c5 := H.get (b := w.heap.size + 2) (o := 1) (v := .int .i64 0) (by simp); have z0 := H.fz (b := w.heap.size + 2) (o := 0) (v := .int .i64 0) (by simp); have z1 := H.fz (b := w.heap.size + 2) (o := 1) (v := .int .i64 0) (by simp); obtain ⟨gs, g0, g1, gz⟩ := Gq.all (Gv.below hG H.below)) | (go_at_call 157; refine (hro _).mono ?_; rintro e w' ⟨rfl, hcc, hcl, hb⟩; replace H := H.call hb; have c0 := H.get (b := w.heap.size) (o := 0) (v := .int .i64 0) (by simp); have c1 := H.get (b := w.heap.size) (o := 1) (v := .int .i64 y) (by simp); have c2 := H.get (b := w.heap.size + 1) (o := 0) (v := .int .i64 x2) (by simp); have c3 := H.get (b := w.heap.size + 1) (o := 1) (v := .int .i64 y2) (by simp); have c4 := H.get (b := w.heap.size + 2) (o := 0) (v := .int .i64 0) (by simp); have c5 := H.get (b := w.heap.size + 2) (o := 1) (v := .int .i64 0) (by simp); have z0 := H.fz (b := w.heap.size + 2) (o := 0) (v := .int .i64 0) (by simp); have z1 := H.fz (b := w.heap.size + 2) (o := 1) (v := .int .i64 0) (by simp); obtain ⟨gs, g0, g1, gz⟩ := Gq.all (Gv.below hG H.below)))
    obtain ⟨f0, f1, fb⟩ := H.fill (b := w.heap.size + 2) (x := .int .i64 0) (y := .int .i64 0) (by simp) (by simp) (by omega) (.int .i64 1) (.int .i64 0)
    refine bodyPost_ret (results_two rfl _ _ (w.heap.size + 2) (.int .i64 1) (.int .i64 0) _ rfl f0 f1 Tryd.underlying26 rfl (by kernel_rfl)) rfl ?_
    exact ⟨rfl, fb⟩
  · have hdx : decide (x = 0) = false := by simp [hx0]
    go_enter Tryd.func80, Tryd.ntmps80
    go_wp2_with fail
    rw [← hW]
    clear hW
    have c0 := H.get (b := w.heap.size) (o := 0) (v := .int .i64 x) (by simp)
    have c1 := H.get (b := w.heap.size) (o := 1) (v := .int .i64 y) (by simp)
    have c2 := H.get (b := w.heap.size + 1) (o := 0) (v := .int .i64 x2) (by simp)
    have c3 := H.get (b := w.heap.size + 1) (o := 1) (v := .int .i64 y2) (by simp)
    have c4 := H.get (b := w.heap.size + 2) (o := 0) (v := .int .i64 0) (by simp)
    have c5 := H.get (b := w.heap.size + 2) (o := 1) (v := .int .i64 0) (by simp)
    have z0 := H.fz (b := w.heap.size + 2) (o := 0) (v := .int .i64 0) (by simp)
    have z1 := H.fz (b := w.heap.size + 2) (o := 1) (v := .int .i64 0) (by simp)
    obtain ⟨gs, g0, g1, gz⟩ := Gq.all (Gv.below hG H.below)
    go_wp2_with (first | (go_at_call 119; refine (hop _).mono ?_; rintro e w' ⟨rfl, hb⟩; replace H := H.call hb; have c0 := H.get (b := w.heap.size) (o := 0) (v := .int .i64 x) (by simp); have c1 := H.get (b := w.heap.size) (o := 1) (v := .int .i64 y) (by simp); have c2 := H.get (b := w.heap.size + 1) (o := 0) (v := .int .i64 x2) (by simp); have c3 := H.get (b := w.heap.size + 1) (o := 1) (v := .int .i64 y2) (by simp); have c4 := H.get (b := w.heap.size + 2) (o := 0) (v := .int .i64 0) (by simp); have c5 := H.get (b := w.heap.size + 2) (o := 1) (v := .int .i64 0) (by simp); have z0 := H.fz (b := w.heap.size + 2) (o := 0) (v := .int .i64 0) (by simp); have z1 := H.fz (b := w.heap.size + 2) (o := 1) (v := .int .i64 0) (by simp); obtain ⟨gs, g0, g1, gz⟩ := Gq.all (Gv.below hG H.below)) | (go_at_call 77; refine (iRestOk_xy _ _ _).mono ?_; rintro e w' ⟨rfl, hb⟩; (first | rw [h] | rw [h2]); replace H := H.call hb; have c0 := H.get (b := w.heap.size) (o := 0) (v := .int .i64 x) (by simp); have c1 := H.get (b := w.heap.size) (o := 1) (v := .int .i64 y) (by simp); have c2 := H.get (b := w.heap.size + 1) (o := 0) (v := .int .i64 x2) (by simp); have c3 := H.get (b := w.heap.size + 1) (o := 1) (v := .int .i64 y2) (by simp); have c4 := H.get (b := w.heap.size + 2) (o := 0) (v := .int .i64 0) (by simp); have c5 := H.get (b := w.heap.size + 2) (o := 1) (v := .int .i64 0) (by simp); have z0 := H.fz (b := w.heap.size + 2) (o := 0) (v := .int .i64 0) (by simp); have z1 := H.fz (b := w.heap.size + 2) (o := 1) (v := .int .i64 0) (by simp); obtain ⟨gs, g0, g1, gz⟩ := Gq.all (Gv.below hG H.below)) | (go_at_call 149; refine (single_xy _ _ _).mono ?_; rintro e w' ⟨rfl, hb⟩; (first | rw [hdx] | rw [hdy] | simp only [decide_true]); replace H := H.call hb; have c0 := H.get (b := w.heap.size) (o := 0) (v := .int .i64 x) (by simp); have c1 := H.get (b := w.heap.size) (o := 1) (v := .int .i64 y) (by simp); have c2 := H.get (b := w.heap.size + 1) (o := 0) (v := .int .i64 x2) (by simp); have c3 := H.get (b := w.heap.size + 1) (o := 1) (v := .int .i64 y2) (by simp); have c4 := H.get (b := w.heap.size + 2) (o := 0) (v := .int .i64 0) (by simp); have c5 := H.get (b := w.heap.size + 2) (o := 1) (v := .int .i64 0) (by simp); have z0 := H.fz (b := w.heap.size + 2) (o := 0) (v := .int .i64 0) (by simp); have z1 := H.fz (b := w.heap.size + 2) (o := 1) (v := .int .i64 0) (by simp); obtain ⟨gs, g0, g1, gz⟩ := Gq.all (Gv.below hG H.below)) | (go_at_call 157; refine (hro _).mono ?_; rintro e w' ⟨rfl, hcc, hcl, hb⟩; replace H := H.call hb; have c0 := H.get (b := w.heap.size) (o := 0) (v := .int .i64 x) (by simp); have c1 := H.get (b := w.heap.size) (o := 1) (v := .int .i64 y) (by simp); have c2 := H.get (b := w.heap.size + 1) (o := 0) (v := .int .i64 x2) (by simp); have c3 := H.get (b := w.heap.size + 1) (o := 1) (v := .int .i64 y2) (by simp); have c4 := H.get (b := w.heap.size + 2) (o := 0) (v := .int .i64 0) (by simp); have c5 := H.get (b := w.heap.size + 2) (o := 1) (v := .int .i64 0) (by simp); have z0 := H.fz (b := w.heap.size + 2) (o := 0) (v := .int .i64 0) (by simp); have z1 := H.fz (b := w.heap.size + 2) (o := 1) (v := .int .i64 0) (by simp); obtain ⟨gs, g0, g1, gz⟩ := Gq.all (Gv.below hG H.below)))
    obtain ⟨f0, f1, fb⟩ := H.fill (b := w.heap.size + 2) (x := .int .i64 0) (y := .int .i64 0) (by simp) (by simp) (by omega) (.int .i64 1) (.int .i64 0)
    refine bodyPost_ret (results_two rfl _ _ (w.heap.size + 2) (.int .i64 1) (.int .i64 0) _ rfl f0 f1 Tryd.underlying26 rfl (by kernel_rfl)) rfl ?_
    exact ⟨rfl, fb⟩
set_option maxRecDepth 100000 in
set_option maxHeartbeats 4000000 in
theorem iDo_7 (x y x2 y2 : Int) (h : qOk (x, y) = true) (h2 : qOk (x2, y2) = true) (hab : ¬ (x = 0 ∧ x2 = 0)) (w : World) (hG : Gq w) :
    Calls Tryd.prog 80 #[.int .i64 7, .agg #[.int .i64 x, .int .i64 y], .agg #[.int .i64 x2, .int .i64 y2]] w fun e w' => e = .returned (.agg #[.int .i64 (do9 7 (x, y) (x2, y2)).1, .int .i64 (do9 7 (x, y) (x2, y2)).2]) ∧ Below w.heap.size w w' := by
  have hef := eql_func
  have hen := eql_nil
  have hrf := eqlR_func
  have hrn := eqlR_nil
  have e : do9 7 (x, y) (x2, y2) = (1, 0) := by
    unfold do9
    rw [if_neg (by simp [h, h2]; decide), if_neg hab]
    simp [all9]
  rw [e]
  have ho : inB 7 1 13 = true := by decide
  have hop : ∀ w1 : World, Calls Tryd.prog 119 #[.int .i64 7] w1 fun e w' => e = .returned (.func (Fn.func (kOf 7)) #[] #[]) ∧ Below w1.heap.size w1 w' := fun w1 => oper_any 7 ho w1
  have hro : ∀ w1 : World, Calls Tryd.prog 157 #[.int .i64 7] w1 fun e w' => e = .returned .nilFunc ∧ w'.cell? ⟨w1.heap.size, 0, none⟩ = some (.int .i64 0) ∧ w1.heap.size < w'.heap.size ∧ Below w1.heap.size w1 w' := fun w1 => restOper_7 w1
  generalize kOf 7 = K at *
  obtain ⟨W, hW, H⟩ := Hd.three w (.int .i64 x) (.int .i64 y) (.int .i64 x2) (.int .i64 y2) (.int .i64 0) (.int .i64 0) 26 26 26
  have hdy : decide (x2 = 0) = decide (x2 = 0) := rfl
  by_cases hx0 : x = 0
  · subst hx0
    have hdx : decide ((0 : Int) = 0) = true := by simp
    have hdy : decide (x2 = 0) = false := by simp; omega
    go_enter Tryd.func80, Tryd.ntmps80
    go_wp2_with fail
    rw [← hW]
    clear hW
    have c0 := H.get (b := w.heap.size) (o := 0) (v := .int .i64 0) (by simp)
    have c1 := H.get (b := w.heap.size) (o := 1) (v := .int .i64 y) (by simp)
    have c2 := H.get (b := w.heap.size + 1) (o := 0) (v := .int .i64 x2) (by simp)
    have c3 := H.get (b := w.heap.size + 1) (o := 1) (v := .int .i64 y2) (by simp)
    have c4 := H.get (b := w.heap.size + 2) (o := 0) (v := .int .i64 0) (by simp)
    have c5 := H.get (b := w.heap.size + 2) (o := 1) (v := .int .i64 0) (by simp)
    have z0 := H.fz (b := w.heap.size + 2) (o := 0) (v := .int .i64 0) (by simp)
    have z1 := H.fz (b := w.heap.size + 2) (o := 1) (v := .int .i64 0) (by simp)
    obtain ⟨gs, g0, g1, gz⟩ := Gq.all (Gv.below hG H.below)
    go_wp2_with (first | (go_at_call 119; refine (hop _).mono ?_; rintro e w' ⟨rfl, hb⟩; replace H := H.call hb; have c0 := H.get (b := w.heap.size) (o := 0) (v := .int .i64 0) (by simp); have c1 := H.get (b := w.heap.size) (o := 1) (v := .int .i64 y) (by simp); have c2 := H.get (b := w.heap.size + 1) (o := 0) (v := .int .i64 x2) (by simp); have c3 := H.get (b := w.heap.size + 1) (o := 1) (v := .int .i64 y2) (by simp); have c4 := H.get (b := w.heap.size + 2) (o := 0) (v := .int .i64 0) (by simp); have c5 := H.get (b := w.heap.size + 2) (o := 1) (v := .int .i64 0) (by simp); have z0 := H.fz (b := w.heap.size + 2) (o := 0) (v := .int .i64 0) (by simp); have z1 := H.fz (b := w.heap.size + 2) (o := 1) (v := .int .i64 0) (by simp); obtain ⟨gs, g0, g1, gz⟩ := Gq.all (Gv.below hG H.below)) | (go_at_call 77; refine (iRestOk_xy _ _ _).mono ?_; rintro e w' ⟨rfl, hb⟩; (first | rw [h] | rw [h2]); replace H := H.call hb; have c0 := H.get (b := w.heap.size) (o := 0) (v := .int .i64 0) (by simp); have c1 := H.get (b := w.heap.size) (o := 1) (v := .int .i64 y) (by simp); have c2 := H.get (b := w.heap.size + 1) (o := 0) (v := .int .i64 x2) (by simp); have c3 := H.get (b := w.heap.size + 1) (o := 1) (v := .int .i64 y2) (by simp); have c4 := H.get (b := w.heap.size + 2) (o := 0) (v := .int .i64 0) (by simp); have c5 := H.get (b := w.heap.size + 2) (o := 1) (v := .int .i64 0) (by simp); have z0 := H.fz (b := w.heap.size + 2) (o := 0) (v := .int .i64 0) (by simp); have z1 := H.fz (b := w.heap.size + 2) (o := 1) (v := .int .i64 0) (by simp); obtain ⟨gs, g0, g1, gz⟩ := Gq.all (Gv.below hG H.below)) | (go_at_call 149; refine (single_xy _ _ _).mono ?_; rintro e w' ⟨rfl, hb⟩; (first | rw [hdx] | rw [hdy] | simp only [decide_true]); replace H := H.call hb; have c0 := H.get (b := w.heap.size) (o := 0) (v := .int .i64 0) (by simp); have c1 := H.get (b := w.heap.size) (o := 1) (v := .int .i64 y) (by simp); have c2 := H.get (b := w.heap.size + 1) (o := 0) (v := .int .i64 x2) (by simp); have c3 := H.get (b := w.heap.size + 1) (o := 1) (v := .int .i64 y2) (by simp); have c4 := H.get (b := w.heap.size + 2) (o := 0) (v := .int .i64 0) (by simp); have c5 := H.get (b := w.heap.size + 2) (o := 1) (v := .int .i64 0) (by simp); have z0 := H.fz (b := w.heap.size + 2) (o := 0) (v := .int .i64 0) (by simp); have z1 := H.fz (b := w.heap.size + 2) (o := 1) (v := .int .i64 0) (by simp); obtain ⟨gs, g0, g1, gz⟩ := Gq.all (Gv.below hG H.below)) | (go_at_call 157; refine (hro _).mono ?_; rintro e w' ⟨rfl, hcc, hcl, hb⟩; replace H := H.call hb; have c0 := H.get (b := w.heap.size) (o := 0) (v := .int .i64 0) (by simp); have c1 := H.get (b := w.heap.size) (o := 1) (v := .int .i64 y) (by simp); have c2 := H.get (b := w.heap.size + 1) (o := 0) (v := .int .i64 x2) (by simp); have c3 := H.get (b := w.heap.size + 1) (o := 1) (v := .int .i64 y2) (by simp); have c4 := H.get (b := w.heap.size + 2) (o := 0) (v := .int .i64 0) (by simp); have c5 := H.get (b := w.heap.size + 2) (o := 1) (v := .int .i64 0) (by simp); have z0 := H.fz (b := w.heap.size + 2) (o := 0) (v := .int .i64 0) (by simp); have z1 := H.fz (b := w.heap.size + 2) (o := 1) (v := .int .i64 0) (by simp); obtain ⟨gs, g0, g1, gz⟩ := Gq.all (Gv.below hG H.below)))
    obtain ⟨f0, f1, fb⟩ := H.fill (b := w.heap.size + 2) (x := .int .i64 0) (y := .int .i64 0) (by simp) (by simp) (by omega) (.int .i64 1) (.int .i64 0)
    refine bodyPost_ret (results_two rfl _ _ (w.heap.size + 2) (.int .i64 1) (.int .i64 0) _ rfl f0 f1 Tryd.underlying26 rfl (by kernel_rfl)) rfl ?_
    exact ⟨rfl, fb⟩
  · have hdx : decide (x = 0) = false := by simp [hx0]
    go_enter Tryd.func80, Tryd.ntmps80
    go_wp2_with fail
    rw [← hW]
    clear hW
    have c0 := H.get (b := w.heap.size) (o := 0) (v := .int .i64 x) (by simp)
    have c1 := H.get (b := w.heap.size) (o := 1) (v := .int .i64 y) (by simp)
    have c2 := H.get (b := w.heap.size + 1) (o := 0) (v := .int .i64 x2) (by simp)
    have c3 := H.get (b := w.heap.size + 1) (o := 1) (v := .int .i64 y2) (by simp)
    have c4 := H.get (b := w.heap.size + 2) (o := 0) (v := .int .i64 0) (by simp)
    have c5 := H.get (b := w.heap.size + 2) (o := 1) (v := .int .i64 0) (by simp)
    have z0 := H.fz (b := w.heap.size + 2) (o := 0) (v := .int .i64 0) (by simp)
    have z1 := H.fz (b := w.heap.size + 2) (o := 1) (v := .int .i64 0) (by simp)
    obtain ⟨gs, g0, g1, gz⟩ := Gq.all (Gv.below hG H.below)
    go_wp2_with (first | (go_at_call 119; refine (hop _).mono ?_; rintro e w' ⟨rfl, hb⟩; replace H := H.call hb; have c0 := H.get (b := w.heap.size) (o := 0) (v := .int .i64 x) (by simp); have c1 := H.get (b := w.heap.size) (o := 1) (v := .int .i64 y) (by simp); have c2 := H.get (b := w.heap.size + 1) (o := 0) (v := .int .i64 x2) (by simp); have c3 := H.get (b := w.heap.size + 1) (o := 1) (v := .int .i64 y2) (by simp); have c4 := H.get (b := w.heap.size + 2) (o := 0) (v := .int .i64 0) (by simp); have c5 := H.get (b := w.heap.size + 2) (o := 1) (v := .int .i64 0) (by simp); have z0 := H.fz (b := w.heap.size + 2) (o := 0) (v := .int .i64 0) (by simp); have z1 := H.fz (b := w.heap.size + 2) (o := 1) (v := .int .i64 0) (by simp); obtain ⟨gs, g0, g1, gz⟩ := Gq.all (Gv.below hG H.below)) | (go_at_call 77; refine (iRestOk_xy _ _ _).mono ?_; rintro e w' ⟨rfl, hb⟩; (first | rw [h] | rw [h2]); replace H := H.call hb; have c0 := H.get (b := w.heap.size) (o := 0) (v := .int .i64 x) (by simp); have c1 := H.get (b := w.heap.size) (o := 1) (v := .int .i64 y) (by simp); have c2 := H.get (b := w.heap.size + 1) (o := 0) (v := .int .i64 x2) (by simp); have c3 := H.get (b := w.heap.size + 1) (o := 1) (v := .int .i64 y2) (by simp); have c4 := H.get (b := w.heap.size + 2) (o := 0) (v := .int .i64 0) (by simp); have c5 := H.get (b := w.heap.size + 2) (o := 1) (v := .int .i64 0) (by simp); have z0 := H.fz (b := w.heap.size + 2) (o := 0) (v := .int .i64 0) (by simp); have z1 := H.fz (b := w.heap.size + 2) (o := 1) (v := .int .i64 0) (by simp); obtain ⟨gs, g0, g1, gz⟩ := Gq.all (Gv.below hG H.below)) | (go_at_call 149; refine (single_xy _ _ _).mono ?_; rintro e w' ⟨rfl, hb⟩; (first | rw [hdx] | rw [hdy] | simp only [decide_true]); replace H := H.call hb; have c0 := H.get (b := w.heap.size) (o := 0) (v := .int .i64 x) (by simp); have c1 := H.get (b := w.heap.size) (o := 1) (v := .int .i64 y) (by simp); have c2 := H.get (b := w.heap.size + 1) (o := 0) (v := .int .i64 x2) (by simp); have c3 := H.get (b := w.heap.size + 1) (o := 1) (v := .int .i64 y2) (by simp); have c4 := H.get (b := w.heap.size + 2) (o := 0) (v := .int .i64 0) (by simp); have c5 := H.get (b := w.heap.size + 2) (o := 1) (v := .int .i64 0) (by simp); have z0 := H.fz (b := w.heap.size + 2) (o := 0) (v := .int .i64 0) (by simp); have z1 := H.fz (b := w.heap.size + 2) (o := 1) (v := .int .i64 0) (by simp); obtain ⟨gs, g0, g1, gz⟩ := Gq.all (Gv.below hG H.below)) | (go_at_call 157; refine (hro _).mono ?_; rintro e w' ⟨rfl, hcc, hcl, hb⟩; replace H := H.call hb; have c0 := H.get (b := w.heap.size) (o := 0) (v := .int .i64 x) (by simp); have c1 := H.get (b := w.heap.size) (o := 1) (v := .int .i64 y) (by simp); have c2 := H.get (b := w.heap.size + 1) (o := 0) (v := .int .i64 x2) (by simp); have c3 := H.get (b := w.heap.size + 1) (o := 1) (v := .int .i64 y2) (by simp); have c4 := H.get (b := w.heap.size + 2) (o := 0) (v := .int .i64 0) (by simp); have c5 := H.get (b := w.heap.size + 2) (o := 1) (v := .int .i64 0) (by simp); have z0 := H.fz (b := w.heap.size + 2) (o := 0) (v := .int .i64 0) (by simp); have z1 := H.fz (b := w.heap.size + 2) (o := 1) (v := .int .i64 0) (by simp); obtain ⟨gs, g0, g1, gz⟩ := Gq.all (Gv.below hG H.below)))
    obtain ⟨f0, f1, fb⟩ := H.fill (b := w.heap.size + 2) (x := .int .i64 0) (y := .int .i64 0) (by simp) (by simp) (by omega) (.int .i64 1) (.int .i64 0)
    refine bodyPost_ret (results_two rfl _ _ (w.heap.size + 2) (.int .i64 1) (.int .i64 0) _ rfl f0 f1 Tryd.underlying26 rfl (by kernel_rfl)) rfl ?_
    exact ⟨rfl, fb⟩
set_option maxRecDepth 100000 in
set_option maxHeartbeats 4000000 in
theorem iDo_8 (x y x2 y2 : Int) (h : qOk (x, y) = true) (h2 : qOk (x2, y2) = true) (hab : ¬ (x = 0 ∧ x2 = 0)) (w : World) (hG : Gq w) :
    Calls Tryd.prog 80 #[.int .i64 8, .agg #[.int .i64 x, .int .i64 y], .agg #[.int .i64 x2, .int .i64 y2]] w fun e w' => e = .returned (.agg #[.int .i64 (do9 8 (x, y) (x2, y2)).1, .int .i64 (do9 8 (x, y) (x2, y2)).2]) ∧ Below w.heap.size w w' := by
  have hef := eql_func
  have hen := eql_nil
  have hrf := eqlR_func
  have hrn := eqlR_nil
  have e : do9 8 (x, y) (x2, y2) = (1, 0) := by
    unfold do9
    rw [if_neg (by simp [h, h2]; decide), if_neg hab]
    simp [all9]
  rw [e]
  have ho : inB 8 1 13 = true := by decide
  have hop : ∀ w1 : World, Calls Tryd.prog 119 #[.int .i64 8] w1 fun e w' => e = .returned (.func (Fn.func (kOf 8)) #[] #[]) ∧ Below w1.heap.size w1 w' := fun w1 => oper_any 8 ho w1
  have hro : ∀ w1 : World, Calls Tryd.prog 157 #[.int .i64 8] w1 fun e w' => e = .returned .nilFunc ∧ w'.cell? ⟨w1.heap.size, 0, none⟩ = some (.int .i64 0) ∧ w1.heap.size < w'.heap.size ∧ Below w1.heap.size w1 w' := fun w1 => restOper_8 w1
  generalize kOf 8 = K at *
  obtain ⟨W, hW, H⟩ := Hd.three w (.int .i64 x) (.int .i64 y) (.int .i64 x2) (.int .i64 y2) (.int .i64 0) (.int .i64 0) 26 26 26
  have hdy : decide (x2 = 0) = decide (x2 = 0) := rfl
  by_cases hx0 : x = 0
  · subst hx0
    have hdx : decide ((0 : Int) = 0) = true := by simp
    have hdy : decide (x2 = 0) = false := by simp; omega
    go_enter Tryd.func80, Tryd.ntmps80
    go_wp2_with fail
    rw [← hW]
    clear hW
    have c0 := H.get (b := w.heap.size) (o := 0) (v := .int .i64 0) (by simp)
    have c1 := H.get (b := w.heap.size) (o := 1) (v := .int .i64 y) (by simp)
    have c2 := H.get (b := w.heap.size + 1) (o := 0) (v := .int .i64 x2) (by simp)
    have c3 := H.get (b := w.heap.size + 1) (o := 1) (v := .int .i64 y2) (by simp)
    have c4 := H.get (b := w.heap.size + 2) (o := 0) (v := .int .i64 0) (by simp)
    have c5 := H.get (b := w.heap.size + 2) (o := 1) (v := .int .i64 0) (by simp)
    have z0 := H.fz (b := w.heap.size + 2) (o := 0) (v := .int .i64 0) (by simp)
    have z1 := H.fz (b := w.heap.size + 2) (o := 1) (v := .int .i64 0) (by simp)
    obtain ⟨gs, g0, g1, gz⟩ := Gq.all (Gv.below hG H.below)
    go_wp2_with (first | (go_at_call 119; refine (hop _).mono ?_; rintro e w' ⟨rfl, hb⟩; replace H := H.call hb; have c0 := H.get (b := w.heap.size) (o := 0) (v := .int .i64 0) (by simp); have c1 := H.get (b := w.heap.size) (o := 1) (v := .int .i64 y) (by simp); have c2 := H.get (b := w.heap.size + 1) (o := 0) (v := .int .i64 x2) (by simp); have c3 := H.get (b := w.heap.size + 1) (o := 1) (v := .int .i64 y2) (by simp); have c4 := H.get (b := w.heap.size + 2) (o := 0) (v := .int .i64 0) (by simp); have c5 := H.get (b := w.heap.size + 2) (o := 1) (v := .int .i64 0) (by simp); have z0 := H.fz (b := w.heap.size + 2) (o := 0) (v := .int .i64 0) (by simp); have z1 := H.fz (b := w.heap.size + 2) (o := 1) (v := .int .i64 0) (by simp); obtain ⟨gs, g0, g1, gz⟩ := Gq.all (Gv.below hG H.below)) | (go_at_call 77; refine (iRestOk_xy _ _ _).mono ?_; rintro e w' ⟨rfl, hb⟩; (first | rw [h] | rw [h2]); replace H := H.call hb; have c0 := H.get (b := w.heap.size) (o := 0) (v := .int .i64 0) (by simp); have c1 := H.get (b := w.heap.size) (o := 1) (v := .int .i64 y) (by simp); have c2 := H.get (b := w.heap.size + 1) (o := 0) (v := .int .i64 x2) (by simp); have c3 := H.get (b := w.heap.size + 1) (o := 1) (v := .int .i64 y2) (by simp); have c4 := H.get (b := w.heap.size + 2) (o := 0) (v := .int .i64 0) (by simp); have c5 := H.get (b := w.heap.size + 2) (o := 1) (v := .int .i64 0) (by simp); have z0 := H.fz (b := w.heap.size + 2) (o := 0) (v := .int .i64 0) (by simp); have z1 := H.fz (b := w.heap.size + 2) (o := 1) (v := .int .i64 0) (by simp); obtain ⟨gs, g0, g1, gz⟩ := Gq.all (Gv.below hG H.below)) | (go_at_call 149; refine (single_xy _ _ _).mono ?_; rintro e w' ⟨rfl, hb⟩; (first | rw [hdx] | rw [hdy] | simp only [decide_true]); replace H := H.call hb; have c0 := H.get (b := w.heap.size) (o := 0) (v := .int .i64 0) (by simp); have c1 := H.get (b := w.heap.size) (o := 1) (v := .int .i64 y) (by simp); have c2 := H.get (b := w.heap.size + 1) (o := 0) (v := .int .i64 x2) (by simp); have c3 := H.get (b := w.heap.size + 1) (o := 1) (v := .int .i64 y2) (by simp); have c4 := H.get (b := w.heap.size + 2) (o := 0) (v := .int .i64 0) (by simp); have c5 := H.get (b := w.heap.size + 2) (o := 1) (v := .int .i64 0) (by simp); have z0 := H.fz (b := w.heap.size + 2) (o := 0) (v := .int .i64 0) (by simp); have z1 := H.fz (b := w.heap.size + 2) (o := 1) (v := .int .i64 0) (by simp); obtain ⟨gs, g0, g1, gz⟩ := Gq.all (Gv.below hG H.below)) | (go_at_call 157; refine (hro _).mono ?_; rintro e w' ⟨rfl, hcc, hcl, hb⟩; replace H := H.call hb; have c0 := H.get (b := w.heap.size) (o := 0) (v := .int .i64 0) (by simp); have c1 := H.get (b := w.heap.size) (o := 1) (v := .int .i64 y) (by simp); have c2 := H.get (b := w.heap.size + 1) (o := 0) (v := .int .i64 x2) (by simp); have c3 := H.get (b := w.heap.size + 1) (o := 1) (v := .int .i64 y2) (by simp); have c4 := H.get (b := w.heap.size + 2) (o := 0) (v := .int .i64 0) (by simp); have c5 := H.get (b := w.heap.size + 2) (o := 1) (v := .int .i64 0) (by simp); have z0 := H.fz (b := w.heap.size + 2) (o := 0) (v := .int .i64 0) (by simp); have z1 := H.fz (b := w.heap.size + 2) (o := 1) (v := .int .i64 0) (by simp); obtain ⟨gs, g0, g1, gz⟩ := Gq.all (Gv.below hG H.below)))
    obtain ⟨f0, f1, fb⟩ := H.fill (b := w.heap.size + 2) (x := .int .i64 0) (y := .int .i64 0) (by simp) (by simp) (by omega) (.int .i64 1) (.int .i64 0)
    refine bodyPost_ret (results_two rfl _ _ (w.heap.size + 2) (.int .i64 1) (.int .i64 0) _ rfl f0 f1 Tryd.underlying26 rfl (by kernel_rfl)) rfl ?_
    exact ⟨rfl, fb⟩
  · have hdx : decide (x = 0) = false := by simp [hx0]
    go_enter Tryd.func80, Tryd.ntmps80
    go_wp2_with fail
    rw [← hW]
    clear hW
    have c0 := H.get (b := w.heap.size) (o := 0) (v := .int .i64 x) (by simp)
    have c1 := H.get (b := w.heap.size) (o := 1) (v := .int .i64 y) (by simp)
    have c2 := H.get (b := w.heap.size + 1) (o := 0) (v := .int .i64 x2) (by simp)
    have c3 := H.get (b := w.heap.size + 1) (o := 1) (v := .int .i64 y2) (by simp)
    have c4 := H.get (b := w.heap.size + 2) (o := 0) (v := .int .i64 0) (by simp)
    have c5 := H.get (b := w.heap.size + 2) (o := 1) (v := .int .i64 0) (by simp)
    have z0 := H.fz (b := w.heap.size + 2) (o := 0) (v := .int .i64 0) (by simp)
    have z1 := H.fz (b := w.heap.size + 2) (o := 1) (v := .int .i64 0) (by simp)
    obtain ⟨gs, g0, g1, gz⟩ := Gq.all (Gv.below hG H.below)
    go_wp2_with (first | (go_at_call 119; refine (hop _).mono ?_; rintro e w' ⟨rfl, hb⟩; replace H := H.call hb; have c0 := H.get (b := w.heap.size) (o := 0) (v := .int .i64 x) (by simp); have c1 := H.get (b := w.heap.size) (o := 1) (v := .int .i64 y) (by simp); have c2 := H.get (b := w.heap.size + 1) (o := 0) (v := .int .i64 x2) (by simp); have c3 := H.get (b := w.heap.size + 1) (o := 1) (v := .int .i64 y2) (by simp); have c4 := H.get (b := w.heap.size + 2) (o := 0) (v := .int .i64 0) (by simp); have c5 := H.get (b := w.heap.size + 2) (o := 1) (v := .int .i64 0) (by simp); have z0 := H.fz (b := w.heap.size + 2) (o := 0) (v := .int .i64 0) (by simp); have z1 := H.fz (b := w.heap.size + 2) (o := 1) (v := .int .i64 0) (by simp); obtain ⟨gs, g0, g1, gz⟩ := Gq.all (Gv.below hG H.below)) | (go_at_call 77; refine (iRestOk_xy _ _ _).mono ?_; rintro e w' ⟨rfl, hb⟩; (first | rw [h] | rw [h2]); replace H := H.call hb; have c0 := H.get (b := w.heap.size) (o := 0) (v := .int .i64 x) (by simp); have c1 := H.get (b := w.heap.size) (o := 1) (v := .int .i64 y) (by simp); have c2 := H.get (b := w.heap.size + 1) (o := 0) (v := .int .i64 x2) (by simp); have c3 := H.get (b := w.heap.size + 1) (o := 1) (v := .int .i64 y2) (by simp); have c4 := H.get (b := w.heap.size + 2) (o := 0) (v := .int .i64 0) (by simp); have c5 := H.get (b := w.heap.size + 2) (o := 1) (v := .int .i64 0) (by simp); have z0 := H.fz (b := w.heap.size + 2) (o := 0) (v := .int .i64 0) (by simp); have z1 := H.fz (b := w.heap.size + 2) (o := 1) (v := .int .i64 0) (by simp); obtain ⟨gs, g0, g1, gz⟩ := Gq.all (Gv.below hG H.below)) | (go_at_call 149; refine (single_xy _ _ _).mono ?_; rintro e w' ⟨rfl, hb⟩; (first | rw [hdx] | rw [hdy] | simp only [decide_true]); replace H := H.call hb; have c0 := H.get (b := w.heap.size) (o := 0) (v := .int .i64 x) (by simp); have c1 := H.get (b := w.heap.size) (o := 1) (v := .int .i64 y) (by simp); have c2 := H.get (b := w.heap.size + 1) (o := 0) (v := .int .i64 x2) (by simp); have c3 := H.get (b := w.heap.size + 1) (o := 1) (v := .int .i64 y2) (by simp); have c4 := H.get (b := w.heap.size + 2) (o := 0) (v := .int .i64 0) (by simp); have c5 := H.get (b := w.heap.size + 2) (o := 1) (v := .int .i64 0) (by simp); have z0 := H.fz (b := w.heap.size + 2) (o := 0) (v := .int .i64 0) (by simp); have z1 := H.fz (b := w.heap.size + 2) (o := 1) (v := .int .i64 0) (by simp); obtain ⟨gs, g0, g1, gz⟩ := Gq.all (Gv.below hG H.below)) | (go_at_call 157; refine (hro _).mono ?_; rintro e w' ⟨rfl, hcc, hcl, hb⟩; replace H := H.call hb; have c0 := H.get (b := w.heap.size) (o := 0) (v := .int .i64 x) (by simp); have c1 := H.get (b := w.heap.size) (o := 1) (v := .int .i64 y) (by simp); have c2 := H.get (b := w.heap.size + 1) (o := 0) (v := .int .i64 x2) (by simp); have c3 := H.get (b := w.heap.size + 1) (o := 1) (v := .int .i64 y2) (by simp); have c4 := H.get (b := w.heap.size + 2) (o := 0) (v := .int .i64 0) (by simp); have c5 := H.get (b := w.heap.size + 2) (o := 1) (v := .int .i64 0) (by simp); have z0 := H.fz (b := w.heap.size + 2) (o := 0) (v := .int .i64 0) (by simp); have z1 := H.fz (b := w.heap.size + 2) (o := 1) (v := .int .i64 0) (by simp); obtain ⟨gs, g0, g1, gz⟩ := Gq.all (Gv.below hG H.below)))
    obtain ⟨f0, f1, fb⟩ := H.fill (b := w.heap.size + 2) (x := .int .i64 0) (y := .int .i64 0) (by simp) (by simp) (by omega) (.int .i64 1) (.int .i64 0)
    refine bodyPost_ret (results_two rfl _ _ (w.heap.size + 2) (.int .i64 1) (.int .i64 0) _ rfl f0 f1 Tryd.underlying26 rfl (by kernel_rfl)) rfl ?_
    exact ⟨rfl, fb⟩
set_option maxRecDepth 100000 in
set_option maxHeartbeats 4000000 in
theorem iDo_10 (x y x2 y2 : Int) (h : qOk (x, y) = true) (h2 : qOk (x2, y2) = true) (hab : ¬ (x = 0 ∧ x2 = 0)) (w : World) (hG : Gq w) :
    Calls Tryd.prog 80 #[.int .i64 10, .agg #[.int .i64 x, .int .i64 y], .agg #[.int .i64 x2, .int .i64 y2]] w fun e w' => e = .returned (.agg #[.int .i64 (do9 10 (x, y) (x2, y2)).1, .int .i64 (do9 10 (x, y) (x2, y2)).2]) ∧ Below w.heap.size w w' := by
  have hef := eql_func
  have hen := eql_nil
  have hrf := eqlR_func
  have hrn := eqlR_nil
  have e : do9 10 (x, y) (x2, y2) = (1, 0) := by
    unfold do9
    rw [if_neg (by simp [h, h2]; decide), if_neg hab]
    simp [all9]
  rw [e]
  have ho : inB 10 1 13 = true := by decide
  have hop : ∀ w1 : World, Calls Tryd.prog 119 #[.int .i64 10] w1 fun e w' => e = .returned (.func (Fn.func (kOf 10)) #[] #[]) ∧ Below w1.heap.size w1 w' := fun w1 => oper_any 10 ho w1
  have hro : ∀ w1 : World, Calls Tryd.prog 157 #[.int .i64 10] w1 fun e w' => e = .returned .nilFunc ∧ w'.cell? ⟨w1.heap.size, 0, none⟩ = some (.int .i64 0) ∧ w1.heap.size < w'.heap.size ∧ Below w1.heap.size w1 w' := fun w1 => restOper_10 w1
  generalize kOf 10 = K at *
  obtain ⟨W, hW, H⟩ := Hd.three w (.int .i64 x) (.int .i64 y) (.int .i64 x2) (.int .i64 y2) (.int .i64 0) (.int .i64 0) 26 26 26
  have hdy : decide (x2 = 0) = decide (x2 = 0) := rfl
  by_cases hx0 : x = 0
  · subst hx0
    have hdx : decide ((0 : Int) = 0) = true := by simp
    have hdy : decide (x2 = 0) = false := by simp; omega
    go_enter Tryd.func80, Tryd.ntmps80
    go_wp2_with fail
    rw [← hW]
    clear hW
    have c0 := H.get (b := w.heap.size) (o := 0) (v := .int .i64 0) (by simp)
    have c1 := H.get (b := w.heap.size) (o := 1) (v := .int .i64 y) (by simp)
    have c2 := H.get (b := w.heap.size + 1) (o := 0) (v := .int .i64 x2) (by simp)
    have c3 := H.get (b := w.heap.size + 1) (o := 1) (v := .int .i64 y2) (by simp)
    have c4 := H.get (b := w.heap.size + 2) (o := 0) (v := .int .i64 0) (by simp)
    have c5 := H.get (b := w.heap.size + 2) (o := 1) (v := .int .i64 0) (by simp)
    have z0 := H.fz (b := w.heap.size + 2) (o := 0) (v := .int .i64 0) (by simp)
    have z1 := H.fz (b := w.heap.size + 2) (o := 1) (v := .int .i64 0) (by simp)
    obtain ⟨gs, g0, g1, gz⟩ := Gq.all (Gv.below hG H.below)
    go_wp2_with (first | (go_at_call 119; refine (hop _).mono ?_; rintro e w' ⟨rfl, hb⟩; replace H := H.call hb; have c0 := H.get (b := w.heap.size) (o := 0) (v := .int .i64 0) (by simp); have c1 := H.get (b := w.heap.size) (o := 1) (v := .int .i64 y) (by simp); have c2 := H.get (b := w.heap.size + 1) (o := 0) (v := .int .i64 x2) (by simp); have c3 := H.get (b := w.heap.size + 1) (o := 1) (v := .int .i64 y2) (by simp); have c4 := H.get (b := w.heap.size + 2) (o := 0) (v := .int .i64 0) (by simp); have c5 := H.get (b := w.heap.size + 2) (o := 1) (v := .int .i64 0) (by simp); have z0 := H.fz (b := w.heap.size + 2) (o := 0) (v := .int .i64 0) (by simp); have z1 := H.fz (b := w.heap.size + 2) (o := 1) (v := .int .i64 0) (by simp); obtain ⟨gs, g0, g1, gz⟩ := Gq.all (Gv.below hG H.below)) | (go_at_call 77; refine (iRestOk_xy _ _ _).mono ?_; rintro e w' ⟨rfl, hb⟩; (first | rw [h] | rw [h2]); replace H := H.call hb; have c0 := H.get (b := w.heap.size) (o := 0) (v := .int .i64 0) (by simp); have c1 := H.get (b := w.heap.size) (o := 1) (v := .int .i64 y) (by simp); have c2 := H.get (b := w.heap.size + 1) (o := 0) (v := .int .i64 x2) (by simp); have c3 := H.get (b := w.heap.size + 1) (o := 1) (v := .int .i64 y2) (by simp); have c4 := H.get (b := w.heap.size + 2) (o := 0) (v := .int .i64 0) (by simp); have c5 := H.get (b := w.heap.size + 2) (o := 1) (v := .int .i64 0) (by simp); have z0 := H.fz (b := w.heap.size + 2) (o := 0) (v := .int .i64 0) (by simp); have z1 := H.fz (b := w.heap.size + 2) (o := 1) (v := .int .i64 0) (by simp); obtain ⟨gs, g0, g1, gz⟩ := Gq.all (Gv.below hG H.below)) | (go_at_call 149; refine (single_xy _ _ _).mono ?_; rintro e w' ⟨rfl, hb⟩; (first | rw [hdx] | rw [hdy] | simp only [decide_true]); replace H := H.call hb; have c0 := H.get (b := w.heap.size) (o := 0) (v := .int .i64 0) (by simp); have c1 := H.get (b := w.heap.size) (o := 1) (v := .int .i64 y) (by simp); have c2 := H.get (b := w.heap.size + 1) (o := 0) (v := .int .i64 x2) (by simp); have c3 := H.get (b := w.heap.size + 1) (o := 1) (v := .int .i64 y2) (by simp); have c4 := H.get (b := w.heap.size + 2) (o := 0) (v := .int .i64 0) (by simp); have c5 := H.get (b := w.heap.size + 2) (o := 1) (v := .int .i64 0) (by simp); have z0 := H.fz (b := w.heap.size + 2) (o := 0) (v := .int .i64 0) (by simp); have z1 := H.fz (b := w.heap.size + 2) (o := 1) (v := .int .i64 0) (by simp); obtain ⟨gs, g0, g1, gz⟩ := Gq.all (Gv.below hG H.below)) | (go_at_call 157; refine (hro _).mono ?_; rintro e w' ⟨rfl, hcc, hcl, hb⟩; replace H := H.call hb; have c0 := H.get (b := w.heap.size) (o := 0) (v := .int .i64 0) (by simp); have c1 := H.get (b := w.heap.size) (o := 1) (v := .int .i64 y) (by simp); have c2 := H.get (b := w.heap.size + 1) (o := 0) (v := .int .i64 x2) (by simp); have c3 := H.get (b := w.heap.size + 1) (o := 1) (v := .int .i64 y2) (by simp); have c4 := H.get (b := w.heap.size + 2) (o := 0) (v := .int .i64 0) (by simp); have c5 := H.get (b := w.heap.size + 2) (o := 1) (v := .int .i64 0) (by simp); have z0 := H.fz (b := w.heap.size + 2) (o := 0) (v := .int .i64 0) (by simp); have z1 := H.fz (b := w.heap.size + 2) (o := 1) (v := .int .i64 0) (by simp); obtain ⟨gs, g0, g1, gz⟩ := Gq.all (Gv.below hG H.below)))
    obtain ⟨f0, f1, fb⟩ := H.fill (b := w.heap.size + 2) (x := .int .i64 0) (y := .int .i64 0) (by simp) (by simp) (by omega) (.int .i64 1) (.int .i64 0)
    refine bodyPost_ret (results_two rfl _ _ (w.heap.size + 2) (.int .i64 1) (.int .i64 0) _ rfl f0 f1 Tryd.underlying26 rfl (by kernel_rfl)) rfl ?_
    exact ⟨rfl, fb⟩
  · have hdx : decide (x = 0) = false := by simp [hx0]
    go_enter Tryd.func80, Tryd.ntmps80
    go_wp2_with fail
    rw [← hW]
    clear hW
    have c0 := H.get (b := w.heap.size) (o := 0) (v := .int .i64 x) (by simp)
    have c1 := H.get (b := w.heap.size) (o := 1) (v := .int .i64 y) (by simp)
    have c2 := H.get (b := w.heap.size + 1) (o := 0) (v := .int .i64 x2) (by simp)
    have c3 := H.get (b := w.heap.size + 1) (o := 1) (v := .int .i64 y2) (by simp)
    have c4 := H.get (b := w.heap.size + 2) (o := 0) (v := .int .i64 0) (by simp)
    have c5 := H.get (b := w.heap.size + 2) (o := 1) (v := .int .i64 0) (by simp)
    have z0 := H.fz (b := w.heap.size + 2) (o := 0) (v := .int .i64 0) (by simp)
    have z1 := H.fz (b := w.heap.size + 2) (o := 1) (v := .int .i64 0) (by simp)
    obtain ⟨gs, g0, g1, gz⟩ := Gq.all (Gv.below hG H.below)
    go_wp2_with (first | (go_at_call 119; refine (hop _).mono ?_; rintro e w' ⟨rfl, hb⟩; replace H := H.call hb; have c0 := H.get (b := w.heap.size) (o := 0) (v := .int .i64 x) (by simp); have c1 := H.get (b := w.heap.size) (o := 1) (v := .int .i64 y) (by simp); have c2 := H.get (b := w.heap.size + 1) (o := 0) (v := .int .i64 x2) (by simp); have c3 := H.get (b := w.heap.size + 1) (o := 1) (v := .int .i64 y2) (by simp); have c4 := H.get (b := w.heap.size + 2) (o := 0) (v := .int .i64 0) (by simp); have c5 := H.get (b := w.heap.size + 2) (o := 1) (v := .int .i64 0) (by simp); have z0 := H.fz (b := w.heap.size + 2) (o := 0) (v := .int .i64 0) (by simp); have z1 := H.fz (b := w.heap.size + 2) (o := 1) (v := .int .i64 0) (by simp); obtain ⟨gs, g0, g1, gz⟩ := Gq.all (Gv.below hG H.below)) | (go_at_call 77; refine (iRestOk_xy _ _ _).mono ?_; rintro e w' ⟨rfl, hb⟩; (first | rw [h] | rw [h2]); replace H := H.call hb; have c0 := H.get (b := w.heap.size) (o := 0) (v := .int .i64 x) (by simp); have c1 := H.get (b := w.heap.size) (o := 1) (v := .int .i64 y) (by simp); have c2 := H.get (b := w.heap.size + 1) (o := 0) (v := .int .i64 x2) (by simp); have c3 := H.get (b := w.heap.size + 1) (o := 1) (v := .int .i64 y2) (by simp); have c4 := H.get (b := w.heap.size + 2) (o := 0) (v := .int .i64 0) (by simp); have c5 := H.get (b := w.heap.size + 2) (o := 1) (v := .int .i64 0) (by simp); have z0 := H.fz (b := w.heap.size + 2) (o := 0) (v := .int .i64 0) (by simp); have z1 := H.fz (b := w.heap.size + 2) (o := 1) (v := .int .i64 0) (by simp); obtain ⟨gs, g0, g1, gz⟩ := Gq.all (Gv.below hG H.below)) | (go_at_call 149; refine (single_xy _ _ _).mono ?_; rintro e w' ⟨rfl, hb⟩; (first | rw [hdx] | rw [hdy] | simp only [decide_true]); replace H := H.call hb; have c0 := H.get (b := w.heap.size) (o := 0) (v := .int .i64 x) (by simp); have c1 := H.get (b := w.heap.size) (o := 1) (v := .int .i64 y) (by simp); have c2 := H.get (b := w.heap.size + 1) (o := 0) (v := .int .i64 x2) (by simp); have c3 := H.get (b := w.heap.size + 1) (o := 1) (v := .int .i64 y2) (by simp); have c4 := H.get (b := w.heap.size + 2) (o := 0) (v := .int .i64 0) (by simp); have c5 := H.get (b := w.heap.size + 2) (o := 1) (v := .int .i64 0) (by simp); have z0 := H.fz (b := w.heap.size + 2) (o := 0) (v := .int .i64 0) (by simp); have z1 := H.fz (b := w.heap.size + 2) (o := 1) (v := .int .i64 0) (by simp); obtain ⟨gs, g0, g1, gz⟩ := Gq.all (Gv.below hG H.below)) | (go_at_call 157; refine (hro _).mono ?_; rintro e w' ⟨rfl, hcc, hcl, hb⟩; replace H := H.call hb; have c0 := H.get (b := w.heap.size) (o := 0) (v := .int .i64 x) (by simp); have c1 := H.get (b := w.heap.size) (o := 1) (v := .int .i64 y) (by simp); have c2 := H.get (b := w.heap.size + 1) (o := 0) (v := .int .i64 x2) (by simp); have c3 := H.get (b := w.heap.size + 1) (o := 1) (v := .int .i64 y2) (by simp); have c4 := H.get (b := w.heap.size + 2) (o := 0) (v := .int .i64 0) (by simp); have c5 := H.get (b := w.heap.size + 2) (o := 1) (v := .int .i64 0) (by simp); have z0 := H.fz (b := w.heap.size + 2) (o := 0) (v := .int .i64 0) (by simp); have z1 := H.fz (b := w.heap.size + 2) (o := 1) (v := .int .i64 0) (by simp); obtain ⟨gs, g0, g1, gz⟩ := Gq.all (Gv.below hG H.below)))
    obtain ⟨f0, f1, fb⟩ := H.fill (b := w.heap.size + 2) (x := .int .i64 0) (y := .int .i64 0) (by simp) (by simp) (by omega) (.int .i64 1) (.int .i64 0)
    refine bodyPost_ret (results_two rfl _ _ (w.heap.size + 2) (.int .i64 1) (.int .i64 0) _ rfl f0 f1 Tryd.underlying26 rfl (by kernel_rfl)) rfl ?_
    exact ⟨rfl, fb⟩
set_option maxRecDepth 100000 in
set_option maxHeartbeats 4000000 in
theorem iDo_5 (x y x2 y2 : Int) (h : qOk (x, y) = true) (h2 : qOk (x2, y2) = true) (hab : ¬ (x = 0 ∧ x2 = 0)) (w : World) (hG : Gq w) :
    Calls Tryd.prog 80 #[.int .i64 5, .agg #[.int .i64 x, .int .i64 y], .agg #[.int .i64 x2, .int .i64 y2]] w fun e w' => e = .returned (.agg #[.int .i64 (do9 5 (x, y) (x2, y2)).1, .int .i64 (do9 5 (x, y) (x2, y2)).2]) ∧ Below w.heap.size w w' := by
  have hef := eql_func
  have hen := eql_nil
  have hrf := eqlR_func
  have hrn := eqlR_nil
  have e : do9 5 (x, y) (x2, y2) = make9 (gcd9 (gcd9 x x2) y2) y := by
    unfold do9
    rw [if_neg (by simp [h, h2]; decide), if_neg hab]
    simp [gcd9_assoc]
  rw [e]
  have hcall : ∀ w1 : World, Calls Tryd.prog 209 #[.agg #[.int .i64 x, .int .i64 y], .agg #[.int .i64 x2, .int .i64 y2]] w1 fun e w' => e = .returned (.agg #[.int .i64 (make9 (gcd9 (gcd9 x x2) y2) y).1, .int .i64 (make9 (gcd9 (gcd9 x x2) y2) y).2]) ∧ Below w1.heap.size w1 w' := fun w1 => remR_xy x y x2 y2 w1 h h2
  generalize make9 (gcd9 (gcd9 x x2) y2) y = q at *
  have ho : inB 5 1 13 = true := by decide
  have hop : ∀ w1 : World, Calls Tryd.prog 119 #[.int .i64 5] w1 fun e w' => e = .returned (.func (Fn.func (kOf 5)) #[] #[]) ∧ Below w1.heap.size w1 w' := fun w1 => oper_any 5 ho w1
  have hro : ∀ w1 : World, Calls Tryd.prog 157 #[.int .i64 5] w1 fun e w' => e = .returned (.func (Fn.func 209) #[] #[]) ∧ w'.cell? ⟨w1.heap.size, 0, none⟩ = some (.int .i64 0) ∧ w1.heap.size < w'.heap.size ∧ Below w1.heap.size w1 w' := fun w1 => restOper_5 w1
  generalize kOf 5 = K at *
  obtain ⟨W, hW, H⟩ := Hd.three w (.int .i64 x) (.int .i64 y) (.int .i64 x2) (.int .i64 y2) (.int .i64 0) (.int .i64 0) 26 26 26
  have hdy : decide (x2 = 0) = decide (x2 = 0) := rfl
  by_cases hx0 : x = 0
  · subst hx0
    have hdx : decide ((0 : Int) = 0) = true := by simp
    have hdy : decide (x2 = 0) = false := by simp; omega
    go_enter Tryd.func80, Tryd.ntmps80
    go_wp2_with fail
    rw [← hW]
    clear hW
    have c0 := H.get (b := w.heap.size) (o := 0) (v := .int .i64 0) (by simp)
    have c1 := H.get (b := w.heap.size) (o := 1) (v := .int .i64 y) (by simp)
    have c2 := H.get (b := w.heap.size + 1) (o := 0) (v := .int .i64 x2) (by simp)
    have c3 := H.get (b := w.heap.size + 1) (o := 1) (v := .int .i64 y2) (by simp)
    have c4 := H.get (b := w.heap.size + 2) (o := 0) (v := .int .i64 0) (by simp)
    have c5 := H.get (b := w.heap.size + 2) (o := 1) (v := .int .i64 0) (by simp)
    have z0 := H.fz (b := w.heap.size + 2) (o := 0) (v := .int .i64 0) (by simp)
    have z1 := H.fz (b := w.heap.size + 2) (o := 1) (v := .int .i64 0) (by simp)
    obtain ⟨gs, g0, g1, gz⟩ := Gq.all (Gv.below hG H.below)
    go_wp2_with (first | (go_at_call 119; refine (hop _).mono ?_; rintro e w' ⟨rfl, hb⟩; replace H := H.call hb; have c0 := H.get (b := w.heap.size) (o := 0) (v := .int .i64 0) (by simp); have c1 := H.get (b := w.heap.size) (o := 1) (v := .int .i64 y) (by simp); have c2 := H.get (b := w.heap.size + 1) (o := 0) (v := .int .i64 x2) (by simp); have c3 := H.get (b := w.heap.size + 1) (o := 1) (v := .int .i64 y2) (by simp); have c4 := H.get (b := w.heap.size + 2) (o := 0) (v := .int .i64 0) (by simp); have c5 := H.get (b := w.heap.size + 2) (o := 1) (v := .int .i64 0) (by simp); have z0 := H.fz (b := w.heap.size + 2) (o := 0) (v := .int .i64 0) (by simp); have z1 := H.fz (b := w.heap.size + 2) (o := 1) (v := .int .i64 0) (by simp); obtain ⟨gs, g0, g1, gz⟩ := Gq.all (Gv.below hG H.below)) | (go_at_call 77; refine (iRestOk_xy _ _ _).mono ?_; rintro e w' ⟨rfl, hb⟩; (first | rw [h] | rw [h2]); replace H := H.call hb; have c0 := H.get (b := w.heap.size) (o := 0) (v := .int .i64 0) (by simp); have c1 := H.get (b := w.heap.size) (o := 1) (v := .int .i64 y) (by simp); have c2 := H.get (b := w.heap.size + 1) (o := 0) (v := .int .i64 x2) (by simp); have c3 := H.get (b := w.heap.size + 1) (o := 1) (v := .int .i64 y2) (by simp); have c4 := H.get (b := w.heap.size + 2) (o := 0) (v := .int .i64 0) (by simp); have c5 := H.get (b := w.heap.size + 2) (o := 1) (v := .int .i64 0) (by simp); have z0 := H.fz (b := w.heap.size + 2) (o := 0) (v := .int .i64 0) (by simp); have z1 := H.fz (b := w.heap.size + 2) (o := 1) (v := .int .i64 0) (by simp); obtain ⟨gs, g0, g1, gz⟩ := Gq.all (Gv.below hG H.below)) | (go_at_call 149; refine (single_xy _ _ _).mono ?_; rintro e w' ⟨rfl, hb⟩; (first | rw [hdx] | rw [hdy] | simp only [decide_true]); replace H := H.call hb; have c0 := H.get (b := w.heap.size) (o := 0) (v := .int .i64 0) (by simp); have c1 := H.get (b := w.heap.size) (o := 1) (v := .int .i64 y) (by simp); have c2 := H.get (b := w.heap.size + 1) (o := 0) (v := .int .i64 x2) (by simp); have c3 := H.get (b := w.heap.size + 1) (o := 1) (v := .int .i64 y2) (by simp); have c4 := H.get (b := w.heap.size + 2) (o := 0) (v := .int .i64 0) (by simp); have c5 := H.get (b := w.heap.size + 2) (o := 1) (v := .int .i64 0) (by simp); have z0 := H.fz (b := w.heap.size + 2) (o := 0) (v := .int .i64 0) (by simp); have z1 := H.fz (b := w.heap.size + 2) (o := 1) (v := .int .i64 0) (by simp); obtain ⟨gs, g0, g1, gz⟩ := Gq.all (Gv.below hG H.below)) | (go_at_call 157; refine (hro _).mono ?_; rintro e w' ⟨rfl, hcc, hcl, hb⟩; replace H := H.call hb; have c0 := H.get (b := w.heap.size) (o := 0) (v := .int .i64 0) (by simp); have c1 := H.get (b := w.heap.size) (o := 1) (v := .int .i64 y) (by simp); have c2 := H.get (b := w.heap.size + 1) (o := 0) (v := .int .i64 x2) (by simp); have c3 := H.get (b := w.heap.size + 1) (o := 1) (v := .int .i64 y2) (by simp); have c4 := H.get (b := w.heap.size + 2) (o := 0) (v := .int .i64 0) (by simp); have c5 := H.get (b := w.heap.size + 2) (o := 1) (v := .int .i64 0) (by simp); have z0 := H.fz (b := w.heap.size + 2) (o := 0) (v := .int .i64 0) (by simp); have z1 := H.fz (b := w.heap.size + 2) (o := 1) (v := .int .i64 0) (by simp); obtain ⟨gs, g0, g1, gz⟩ := Gq.all (Gv.below hG H.below)) | (go_at_call 209; refine (hcall _).mono ?_; rintro e w' ⟨rfl, hb⟩; replace H := H.call hb; have c0 := H.get (b := w.heap.size) (o := 0) (v := .int .i64 0) (by simp); have c1 := H.get (b := w.heap.size) (o := 1) (v := .int .i64 y) (by simp); have c2 := H.get (b := w.heap.size + 1) (o := 0) (v := .int .i64 x2) (by simp); have c3 := H.get (b := w.heap.size + 1) (o := 1) (v := .int .i64 y2) (by simp); have c4 := H.get (b := w.heap.size + 2) (o := 0) (v := .int .i64 0) (by simp); have c5 := H.get (b := w.heap.size + 2) (o := 1) (v := .int .i64 0) (by simp); have z0 := H.fz (b := w.heap.size + 2) (o := 0) (v := .int .i64 0) (by simp); have z1 := H.fz (b := w.heap.size + 2) (o := 1) (v := .int .i64 0) (by simp)))
    obtain ⟨f0, f1, fb⟩ := H.fill (b := w.heap.size + 2) (x := .int .i64 0) (y := .int .i64 0) (by simp) (by simp) (by omega) (.int .i64 q.1) (.int .i64 q.2)
    refine bodyPost_ret (results_two rfl _ _ (w.heap.size + 2) (.int .i64 q.1) (.int .i64 q.2) _ rfl f0 f1 Tryd.underlying26 rfl (by kernel_rfl)) rfl ?_
    exact ⟨rfl, fb⟩
  · have hdx : decide (x = 0) = false := by simp [hx0]
    go_enter Tryd.func80, Tryd.ntmps80
    go_wp2_with fail
    rw [← hW]
    clear hW
    have c0 := H.get (b := w.heap.size) (o := 0) (v := .int .i64 x) (by simp)
    have c1 := H.get (b := w.heap.size) (o := 1) (v := .int .i64 y) (by simp)
    have c2 := H.get (b := w.heap.size + 1) (o := 0) (v := .int .i64 x2) (by simp)
    have c3 := H.get (b := w.heap.size + 1) (o := 1) (v := .int .i64 y2) (by simp)
    have c4 := H.get (b := w.heap.size + 2) (o := 0) (v := .int .i64 0) (by simp)
    have c5 := H.get (b := w.heap.size + 2) (o := 1) (v := .int .i64 0) (by simp)
    have z0 := H.fz (b := w.heap.size + 2) (o := 0) (v := .int .i64 0) (by simp)
    have z1 := H.fz (b := w.heap.size + 2) (o := 1) (v := .int .i64 0) (by simp)
    obtain ⟨gs, g0, g1, gz⟩ := Gq.all (Gv.below hG H.below)
    go_wp2_with (first | (go_at_call 119; refine (hop _).mono ?_; rintro e w' ⟨rfl, hb⟩; replace H := H.call hb; have c0 := H.get (b := w.heap.size) (o := 0) (v := .int .i64 x) (by simp); have c1 := H.get (b := w.heap.size) (o := 1) (v := .int .i64 y) (by simp); have c2 := H.get (b := w.heap.size + 1) (o := 0) (v := .int .i64 x2) (by simp); have c3 := H.get (b := w.heap.size + 1) (o := 1) (v := .int .i64 y2) (by simp); have c4 := H.get (b := w.heap.size + 2) (o := 0) (v := .int .i64 0) (by simp); have c5 := H.get (b := w.heap.size + 2) (o := 1) (v := .int .i64 0) (by simp); have z0 := H.fz (b := w.heap.size + 2) (o := 0) (v := .int .i64 0) (by simp); have z1 := H.fz (b := w.heap.size + 2) (o := 1) (v := .int .i64 0) (by simp); obtain ⟨gs, g0, g1, gz⟩ := Gq.all (Gv.below hG H.below)) | (go_at_call 77; refine (iRestOk_xy _ _ _).mono ?_; rintro e w' ⟨rfl, hb⟩; (first | rw [h] | rw [h2]); replace H := H.call hb; have c0 := H.get (b := w.heap.size) (o := 0) (v := .int .i64 x) (by simp); have c1 := H.get (b := w.heap.size) (o := 1) (v := .int .i64 y) (by simp); have c2 := H.get (b := w.heap.size + 1) (o := 0) (v := .int .i64 x2) (by simp); have c3 := H.get (b := w.heap.size + 1) (o := 1) (v := .int .i64 y2) (by simp); have c4 := H.get (b := w.heap.size + 2) (o := 0) (v := .int .i64 0) (by simp); have c5 := H.get (b := w.heap.size + 2) (o := 1) (v := .int .i64 0) (by simp); have z0 := H.fz (b := w.heap.size + 2) (o := 0) (v := .int .i64 0) (by simp); have z1 := H.fz (b := w.heap.size + 2) (o := 1) (v := .int .i64 0) (by simp); obtain ⟨gs, g0, g1, gz⟩ := Gq.all (Gv.below hG H.below)) | (go_at_call 149; refine (single_xy _ _ _).mono ?_; rintro e w' ⟨rfl, hb⟩; (first | rw [hdx] | rw [hdy] | simp only [decide_true]); replace H := H.call hb; have c0 := H.get (b := w.heap.size) (o := 0) (v := .int .i64 x) (by simp); have c1 := H.get (b := w.heap.size) (o := 1) (v := .int .i64 y) (by simp); have c2 := H.get (b := w.heap.size + 1) (o := 0) (v := .int .i64 x2) (by simp); have c3 := H.get (b := w.heap.size + 1) (o := 1) (v := .int .i64 y2) (by simp); have c4 := H.get (b := w.heap.size + 2) (o := 0) (v := .int .i64 0) (by simp); have c5 := H.get (b := w.heap.size + 2) (o := 1) (v := .int .i64 0) (by simp); have z0 := H.fz (b := w.heap.size + 2) (o := 0) (v := .int .i64 0) (by simp); have z1 := H.fz (b := w.heap.size + 2) (o := 1) (v := .int .i64 0) (by simp); obtain ⟨gs, g0, g1, gz⟩ := Gq.all (Gv.below hG H.below)) | (go_at_call 157; refine (hro _).mono ?_; rintro e w' ⟨rfl, hcc, hcl, hb⟩; replace H := H.call hb; have c0 := H.get (b := w.heap.size) (o := 0) (v := .int .i64 x) (by simp); have c1 := H.get (b := w.heap.size) (o := 1) (v := .int .i64 y) (by simp); have c2 := H.get (b := w.heap.size + 1) (o := 0) (v := .int .i64 x2) (by simp); have c3 := H.get (b := w.heap.size + 1) (o := 1) (v := .int .i64 y2) (by simp); have c4 := H.get (b := w.heap.size + 2) (o := 0) (v := .int .i64 0) (by simp); have c5 := H.get (b := w.heap.size + 2) (o := 1) (v := .int .i64 0) (by simp); have z0 := H.fz (b := w.heap.size + 2) (o := 0) (v := .int .i64 0) (by simp); have z1 := H.fz (b := w.heap.size + 2) (o := 1) (v := .int .i64 0) (by simp); obtain ⟨gs, g0, g1, gz⟩ := Gq.all (Gv.below hG H.below)) | (go_at_call 209; refine (hcall _).mono ?_; rintro e w' ⟨rfl, hb⟩; replace H := H.call hb; have c0 := H.get (b := w.heap.size) (o := 0) (v := .int .i64 x) (by simp); have c1 := H.get (b := w.heap.size) (o := 1) (v := .int .i64 y) (by simp); have c2 := H.get (b := w.heap.size + 1) (o := 0) (v := .int .i64 x2) (by simp); have c3 := H.get (b := w.heap.size + 1) (o := 1) (v := .int .i64 y2) (by simp); have c4 := H.get (b := w.heap.size + 2) (o := 0) (v := .int .i64 0) (by simp); have c5 := H.get (b := w.heap.size + 2) (o := 1) (v := .int .i64 0) (by simp); have z0 := H.fz (b := w.heap.size + 2) (o := 0) (v := .int .i64 0) (by simp); have z1 := H.fz (b := w.heap.size + 2) (o := 1) (v := .int .i64 0) (by simp)))
    obtain ⟨f0, f1, fb⟩ := H.fill (b := w.heap.size + 2) (x := .int .i64 0) (y := .int .i64 0) (by simp) (by simp) (by omega) (.int .i64 q.1) (.int .i64 q.2)
    refine bodyPost_ret (results_two rfl _ _ (w.heap.size + 2) (.int .i64 q.1) (.int .i64 q.2) _ rfl f0 f1 Tryd.underlying26 rfl (by kernel_rfl)) rfl ?_
    exact ⟨rfl, fb⟩
end Go.Proofs.YthbbgkpkijlclaaDoor.num
namespace Go.Proofs.YthbbgkpkijlclaaDoor.num
open Go.ChangeShapes Go.WideShapes Go.ChangeAt Go.RowKit
set_option linter.unusedVariables false

set_option maxRecDepth 100000 in
set_option maxHeartbeats 4000000 in
theorem iDo_3z (x y x2 y2 : Int) (h : qOk (x, y) = true) (h2 : qOk (x2, y2) = true) (hab : ¬ (x = 0 ∧ x2 = 0)) (w : World) (hG : Gq w) (hz : apart9 (x, y) (x2, y2) = 0) :
    Calls Tryd.prog 80 #[.int .i64 3, .agg #[.int .i64 x, .int .i64 y], .agg #[.int .i64 x2, .int .i64 y2]] w fun e w' => e = .returned (.agg #[.int .i64 (do9 3 (x, y) (x2, y2)).1, .int .i64 (do9 3 (x, y) (x2, y2)).2]) ∧ Below w.heap.size w w' := by
  have hef := eql_func
  have hen := eql_nil
  have hrf := eqlR_func
  have hrn := eqlR_nil
  have e : do9 3 (x, y) (x2, y2) = (0, 0) := by
    unfold do9 word9
    rw [if_neg (by simp [h, h2]; decide), if_neg hab]
    simp [hz]
  rw [e]
  have hcall : ∀ (c : Nat) (w1 : World), w1.cell? ⟨c, 0, none⟩ = some (.int .i64 0) → c < w1.heap.size → Calls Tryd.prog 206 #[.agg #[.int .i64 x, .int .i64 y], .agg #[.int .i64 x2, .int .i64 y2], .pointer (some ⟨c, 0, none⟩)] w1 fun e w' => e = .returned (.agg #[.int .i64 ((0, 0) : T9).1, .int .i64 ((0, 0) : T9).2]) ∧ Below w1.heap.size w1 w' := fun c w1 hc hcl => mulR_xy c 0 x y x2 y2 w1 hc hcl ((0, 0) : T9) (fun w2 => prodR_zero 0 x y x2 y2 w2 h h2 hz)
  generalize ((0, 0) : T9) = q at *
  have ho : inB 3 1 13 = true := by decide
  have hop : ∀ w1 : World, Calls Tryd.prog 119 #[.int .i64 3] w1 fun e w' => e = .returned (.func (Fn.func (kOf 3)) #[] #[]) ∧ Below w1.heap.size w1 w' := fun w1 => oper_any 3 ho w1
  have hro : ∀ w1 : World, Calls Tryd.prog 157 #[.int .i64 3] w1 fun e w' => e = .returned (.func (Fn.func 206) #[] #[.pointer (some ⟨w1.heap.size, 0, none⟩)]) ∧ w'.cell? ⟨w1.heap.size, 0, none⟩ = some (.int .i64 0) ∧ w1.heap.size < w'.heap.size ∧ Below w1.heap.size w1 w' := fun w1 => restOper_3 w1
  generalize kOf 3 = K at *
  obtain ⟨W, hW, H⟩ := Hd.three w (.int .i64 x) (.int .i64 y) (.int .i64 x2) (.int .i64 y2) (.int .i64 0) (.int .i64 0) 26 26 26
  have hdy : decide (x2 = 0) = decide (x2 = 0) := rfl
  by_cases hx0 : x = 0
  · subst hx0
    have hdx : decide ((0 : Int) = 0) = true := by simp
    have hdy : decide (x2 = 0) = false := by simp; omega
    go_enter Tryd.func80, Tryd.ntmps80
    go_wp2_with fail
    rw [← hW]
    clear hW
    have c0 := H.get (b := w.heap.size) (o := 0) (v := .int .i64 0) (by simp)
    have c1 := H.get (b := w.heap.size) (o := 1) (v := .int .i64 y) (by simp)
    have c2 := H.get (b := w.heap.size + 1) (o := 0) (v := .int .i64 x2) (by simp)
    have c3 := H.get (b := w.heap.size + 1) (o := 1) (v := .int .i64 y2) (by simp)
    have c4 := H.get (b := w.heap.size + 2) (o := 0) (v := .int .i64 0) (by simp)
    have c5 := H.get (b := w.heap.size + 2) (o := 1) (v := .int .i64 0) (by simp)
    have z0 := H.fz (b := w.heap.size + 2) (o := 0) (v := .int .i64 0) (by simp)
    have z1 := H.fz (b := w.heap.size + 2) (o := 1) (v := .int .i64 0) (by simp)
    obtain ⟨gs, g0, g1, gz⟩ := Gq.all (Gv.below hG H.below)
    go_wp2_with (first | (go_at_call 119; refine (hop _).mono ?_; rintro e w' ⟨rfl, hb⟩; replace H := H.call hb; have c0 := H.get (b := w.heap.size) (o := 0) (v := .int .i64 0) (by simp); have c1 := H.get (b := w.heap.size) (o := 1) (v := .int .i64 y) (by simp); have c2 := H.get (b := w.heap.size + 1) (o := 0) (v := .int .i64 x2) (by simp); have c3 := H.get (b := w.heap.size + 1) (o := 1) (v := .int .i64 y2) (by simp); have c4 := H.get (b := w.heap.size + 2) (o := 0) (v := .int .i64 0) (by simp); have c5 := H.get (b := w.heap.size + 2) (o := 1) (v := .int .i64 0) (by simp); have z0 := H.fz (b := w.heap.size + 2) (o := 0) (v := .int .i64 0) (by simp); have z1 := H.fz (b := w.heap.size + 2) (o := 1) (v := .int .i64 0) (by simp); obtain ⟨gs, g0, g1, gz⟩ := Gq.all (Gv.below hG H.below)) | (go_at_call 77; refine (iRestOk_xy _ _ _).mono ?_; rintro e w' ⟨rfl, hb⟩; (first | rw [h] | rw [h2]); replace H := H.call hb; have c0 := H.get (b := w.heap.size) (o := 0) (v := .int .i64 0) (by simp); have c1 := H.get (b := w.heap.size) (o := 1) (v := .int .i64 y) (by simp); have c2 := H.get (b := w.heap.size + 1) (o := 0) (v := .int .i64 x2) (by simp); have c3 := H.get (b := w.heap.size + 1) (o := 1) (v := .int .i64 y2) (by simp); have c4 := H.get (b := w.heap.size + 2) (o := 0) (v := .int .i64 0) (by simp); have c5 := H.get (b := w.heap.size + 2) (o := 1) (v := .int .i64 0) (by simp); have z0 := H.fz (b := w.heap.size + 2) (o := 0) (v := .int .i64 0) (by simp); have z1 := H.fz (b := w.heap.size + 2) (o := 1) (v := .int .i64 0) (by simp); obtain ⟨gs, g0, g1, gz⟩ := Gq.all (Gv.below hG H.below)) | (go_at_call 149; refine (single_xy _ _ _).mono ?_; rintro e w' ⟨rfl, hb⟩; (first | rw [hdx] | rw [hdy] | simp only [decide_true]); replace H := H.call hb; have c0 := H.get (b := w.heap.size) (o := 0) (v := .int .i64 0) (by simp); have c1 := H.get (b := w.heap.size) (o := 1) (v := .int .i64 y) (by simp); have c2 := H.get (b := w.heap.size + 1) (o := 0) (v := .int .i64 x2) (by simp); have c3 := H.get (b := w.heap.size + 1) (o := 1) (v := .int .i64 y2) (by simp); have c4 := H.get (b := w.heap.size + 2) (o := 0) (v := .int .i64 0) (by simp); have c5 := H.get (b := w.heap.size + 2) (o := 1) (v := .int .i64 0) (by simp); have z0 := H.fz (b := w.heap.size + 2) (o := 0) (v := .int .i64 0) (by simp); have z1 := H.fz (b := w.heap.size + 2) (o := 1) (v := .int .i64 0) (by simp); obtain ⟨gs, g0, g1, gz⟩ := Gq.all (Gv.below hG H.below)) | (go_at_call 157; refine (hro _).mono ?_; rintro e w' ⟨rfl, hcc, hcl, hb⟩; replace H := H.call hb; have c0 := H.get (b := w.heap.size) (o := 0) (v := .int .i64 0) (by simp); have c1 := H.get (b := w.heap.size) (o := 1) (v := .int .i64 y) (by simp); have c2 := H.get (b := w.heap.size + 1) (o := 0) (v := .int .i64 x2) (by simp); have c3 := H.get (b := w.heap.size + 1) (o := 1) (v := .int .i64 y2) (by simp); have c4 := H.get (b := w.heap.size + 2) (o := 0) (v := .int .i64 0) (by simp); have c5 := H.get (b := w.heap.size + 2) (o := 1) (v := .int .i64 0) (by simp); have z0 := H.fz (b := w.heap.size + 2) (o := 0) (v := .int .i64 0) (by simp); have z1 := H.fz (b := w.heap.size + 2) (o := 1) (v := .int .i64 0) (by simp); obtain ⟨gs, g0, g1, gz⟩ := Gq.all (Gv.below hG H.below)) | (go_at_call 206; refine (hcall _ _ hcc hcl).mono ?_; rintro e w' ⟨rfl, hb⟩; replace H := H.call hb; have c0 := H.get (b := w.heap.size) (o := 0) (v := .int .i64 0) (by simp); have c1 := H.get (b := w.heap.size) (o := 1) (v := .int .i64 y) (by simp); have c2 := H.get (b := w.heap.size + 1) (o := 0) (v := .int .i64 x2) (by simp); have c3 := H.get (b := w.heap.size + 1) (o := 1) (v := .int .i64 y2) (by simp); have c4 := H.get (b := w.heap.size + 2) (o := 0) (v := .int .i64 0) (by simp); have c5 := H.get (b := w.heap.size + 2) (o := 1) (v := .int .i64 0) (by simp); have z0 := H.fz (b := w.heap.size + 2) (o := 0) (v := .int .i64 0) (by simp); have z1 := H.fz (b := w.heap.size + 2) (o := 1) (v := .int .i64 0) (by simp)))
    obtain ⟨f0, f1, fb⟩ := H.fill (b := w.heap.size + 2) (x := .int .i64 0) (y := .int .i64 0) (by simp) (by simp) (by omega) (.int .i64 q.1) (.int .i64 q.2)
    refine bodyPost_ret (results_two rfl _ _ (w.heap.size + 2) (.int .i64 q.1) (.int .i64 q.2) _ rfl f0 f1 Tryd.underlying26 rfl (by kernel_rfl)) rfl ?_
    exact ⟨rfl, fb⟩
  · have hdx : decide (x = 0) = false := by simp [hx0]
    go_enter Tryd.func80, Tryd.ntmps80
    go_wp2_with fail
    rw [← hW]
    clear hW
    have c0 := H.get (b := w.heap.size) (o := 0) (v := .int .i64 x) (by simp)
    have c1 := H.get (b := w.heap.size) (o := 1) (v := .int .i64 y) (by simp)
    have c2 := H.get (b := w.heap.size + 1) (o := 0) (v := .int .i64 x2) (by simp)
    have c3 := H.get (b := w.heap.size + 1) (o := 1) (v := .int .i64 y2) (by simp)
    have c4 := H.get (b := w.heap.size + 2) (o := 0) (v := .int .i64 0) (by simp)
    have c5 := H.get (b := w.heap.size + 2) (o := 1) (v := .int .i64 0) (by simp)
    have z0 := H.fz (b := w.heap.size + 2) (o := 0) (v := .int .i64 0) (by simp)
    have z1 := H.fz (b := w.heap.size + 2) (o := 1) (v := .int .i64 0) (by simp)
    obtain ⟨gs, g0, g1, gz⟩ := Gq.all (Gv.below hG H.below)
    go_wp2_with (first | (go_at_call 119; refine (hop _).mono ?_; rintro e w' ⟨rfl, hb⟩; replace H := H.call hb; have c0 := H.get (b := w.heap.size) (o := 0) (v := .int .i64 x) (by simp); have c1 := H.get (b := w.heap.size) (o := 1) (v := .int .i64 y) (by simp); have c2 := H.get (b := w.heap.size + 1) (o := 0) (v := .int .i64 x2) (by simp); have c3 := H.get (b := w.heap.size + 1) (o := 1) (v := .int .i64 y2) (by simp); have c4 := H.get (b := w.heap.size + 2) (o := 0) (v := .int .i64 0) (by simp); have c5 := H.get (b := w.heap.size + 2) (o := 1) (v := .int .i64 0) (by simp); have z0 := H.fz (b := w.heap.size + 2) (o := 0) (v := .int .i64 0) (by simp); have z1 := H.fz (b := w.heap.size + 2) (o := 1) (v := .int .i64 0) (by simp); obtain ⟨gs, g0, g1, gz⟩ := Gq.all (Gv.below hG H.below)) | (go_at_call 77; refine (iRestOk_xy _ _ _).mono ?_; rintro e w' ⟨rfl, hb⟩; (first | rw [h] | rw [h2]); replace H := H.call hb; have c0 := H.get (b := w.heap.size) (o := 0) (v := .int .i64 x) (by simp); have c1 := H.get (b := w.heap.size) (o := 1) (v := .int .i64 y) (by simp); have c2 := H.get (b := w.heap.size + 1) (o := 0) (v := .int .i64 x2) (by simp); have c3 := H.get (b := w.heap.size + 1) (o := 1) (v := .int .i64 y2) (by simp); have c4 := H.get (b := w.heap.size + 2) (o := 0) (v := .int .i64 0) (by simp); have c5 := H.get (b := w.heap.size + 2) (o := 1) (v := .int .i64 0) (by simp); have z0 := H.fz (b := w.heap.size + 2) (o := 0) (v := .int .i64 0) (by simp); have z1 := H.fz (b := w.heap.size + 2) (o := 1) (v := .int .i64 0) (by simp); obtain ⟨gs, g0, g1, gz⟩ := Gq.all (Gv.below hG H.below)) | (go_at_call 149; refine (single_xy _ _ _).mono ?_; rintro e w' ⟨rfl, hb⟩; (first | rw [hdx] | rw [hdy] | simp only [decide_true]); replace H := H.call hb; have c0 := H.get (b := w.heap.size) (o := 0) (v := .int .i64 x) (by simp); have c1 := H.get (b := w.heap.size) (o := 1) (v := .int .i64 y) (by simp); have c2 := H.get (b := w.heap.size + 1) (o := 0) (v := .int .i64 x2) (by simp); have c3 := H.get (b := w.heap.size + 1) (o := 1) (v := .int .i64 y2) (by simp); have c4 := H.get (b := w.heap.size + 2) (o := 0) (v := .int .i64 0) (by simp); have c5 := H.get (b := w.heap.size + 2) (o := 1) (v := .int .i64 0) (by simp); have z0 := H.fz (b := w.heap.size + 2) (o := 0) (v := .int .i64 0) (by simp); have z1 := H.fz (b := w.heap.size + 2) (o := 1) (v := .int .i64 0) (by simp); obtain ⟨gs, g0, g1, gz⟩ := Gq.all (Gv.below hG H.below)) | (go_at_call 157; refine (hro _).mono ?_; rintro e w' ⟨rfl, hcc, hcl, hb⟩; replace H := H.call hb; have c0 := H.get (b := w.heap.size) (o := 0) (v := .int .i64 x) (by simp); have c1 := H.get (b := w.heap.size) (o := 1) (v := .int .i64 y) (by simp); have c2 := H.get (b := w.heap.size + 1) (o := 0) (v := .int .i64 x2) (by simp); have c3 := H.get (b := w.heap.size + 1) (o := 1) (v := .int .i64 y2) (by simp); have c4 := H.get (b := w.heap.size + 2) (o := 0) (v := .int .i64 0) (by simp); have c5 := H.get (b := w.heap.size + 2) (o := 1) (v := .int .i64 0) (by simp); have z0 := H.fz (b := w.heap.size + 2) (o := 0) (v := .int .i64 0) (by simp); have z1 := H.fz (b := w.heap.size + 2) (o := 1) (v := .int .i64 0) (by simp); obtain ⟨gs, g0, g1, gz⟩ := Gq.all (Gv.below hG H.below)) | (go_at_call 206; refine (hcall _ _ hcc hcl).mono ?_; rintro e w' ⟨rfl, hb⟩; replace H := H.call hb; have c0 := H.get (b := w.heap.size) (o := 0) (v := .int .i64 x) (by simp); have c1 := H.get (b := w.heap.size) (o := 1) (v := .int .i64 y) (by simp); have c2 := H.get (b := w.heap.size + 1) (o := 0) (v := .int .i64 x2) (by simp); have c3 := H.get (b := w.heap.size + 1) (o := 1) (v := .int .i64 y2) (by simp); have c4 := H.get (b := w.heap.size + 2) (o := 0) (v := .int .i64 0) (by simp); have c5 := H.get (b := w.heap.size + 2) (o := 1) (v := .int .i64 0) (by simp); have z0 := H.fz (b := w.heap.size + 2) (o := 0) (v := .int .i64 0) (by simp); have z1 := H.fz (b := w.heap.size + 2) (o := 1) (v := .int .i64 0) (by simp)))
    obtain ⟨f0, f1, fb⟩ := H.fill (b := w.heap.size + 2) (x := .int .i64 0) (y := .int .i64 0) (by simp) (by simp) (by omega) (.int .i64 q.1) (.int .i64 q.2)
    refine bodyPost_ret (results_two rfl _ _ (w.heap.size + 2) (.int .i64 q.1) (.int .i64 q.2) _ rfl f0 f1 Tryd.underlying26 rfl (by kernel_rfl)) rfl ?_
    exact ⟨rfl, fb⟩
set_option maxRecDepth 100000 in
set_option maxHeartbeats 4000000 in
theorem iDo_3n (x y x2 y2 : Int) (h : qOk (x, y) = true) (h2 : qOk (x2, y2) = true) (hab : ¬ (x = 0 ∧ x2 = 0)) (w : World) (hG : Gq w) (hz : apart9 (x, y) (x2, y2) ≠ 0) :
    Calls Tryd.prog 80 #[.int .i64 3, .agg #[.int .i64 x, .int .i64 y], .agg #[.int .i64 x2, .int .i64 y2]] w fun e w' => e = .returned (.agg #[.int .i64 (do9 3 (x, y) (x2, y2)).1, .int .i64 (do9 3 (x, y) (x2, y2)).2]) ∧ Below w.heap.size w w' := by
  have hef := eql_func
  have hen := eql_nil
  have hrf := eqlR_func
  have hrn := eqlR_nil
  have e : do9 3 (x, y) (x2, y2) = make9 (gcd9 (apart9 (x, y) (x2, y2)) 0) (y * y2) := by
    unfold do9 word9
    rw [if_neg (by simp [h, h2]; decide), if_neg hab]
    simp [hz]
  rw [e]
  have hcall : ∀ (c : Nat) (w1 : World), w1.cell? ⟨c, 0, none⟩ = some (.int .i64 0) → c < w1.heap.size → Calls Tryd.prog 206 #[.agg #[.int .i64 x, .int .i64 y], .agg #[.int .i64 x2, .int .i64 y2], .pointer (some ⟨c, 0, none⟩)] w1 fun e w' => e = .returned (.agg #[.int .i64 (make9 (gcd9 (apart9 (x, y) (x2, y2)) 0) (y * y2)).1, .int .i64 (make9 (gcd9 (apart9 (x, y) (x2, y2)) 0) (y * y2)).2]) ∧ Below w1.heap.size w1 w' := fun c w1 hc hcl => mulR_xy c 0 x y x2 y2 w1 hc hcl (make9 (gcd9 (apart9 (x, y) (x2, y2)) 0) (y * y2)) (fun w2 => prodR_some 0 x y x2 y2 w2 (by omega) h h2 hz)
  generalize (make9 (gcd9 (apart9 (x, y) (x2, y2)) 0) (y * y2)) = q at *
  have ho : inB 3 1 13 = true := by decide
  have hop : ∀ w1 : World, Calls Tryd.prog 119 #[.int .i64 3] w1 fun e w' => e = .returned (.func (Fn.func (kOf 3)) #[] #[]) ∧ Below w1.heap.size w1 w' := fun w1 => oper_any 3 ho w1
  have hro : ∀ w1 : World, Calls Tryd.prog 157 #[.int .i64 3] w1 fun e w' => e = .returned (.func (Fn.func 206) #[] #[.pointer (some ⟨w1.heap.size, 0, none⟩)]) ∧ w'.cell? ⟨w1.heap.size, 0, none⟩ = some (.int .i64 0) ∧ w1.heap.size < w'.heap.size ∧ Below w1.heap.size w1 w' := fun w1 => restOper_3 w1
  generalize kOf 3 = K at *
  obtain ⟨W, hW, H⟩ := Hd.three w (.int .i64 x) (.int .i64 y) (.int .i64 x2) (.int .i64 y2) (.int .i64 0) (.int .i64 0) 26 26 26
  have hdy : decide (x2 = 0) = decide (x2 = 0) := rfl
  by_cases hx0 : x = 0
  · subst hx0
    have hdx : decide ((0 : Int) = 0) = true := by simp
    have hdy : decide (x2 = 0) = false := by simp; omega
    go_enter Tryd.func80, Tryd.ntmps80
    go_wp2_with fail
    rw [← hW]
    clear hW
    have c0 := H.get (b := w.heap.size) (o := 0) (v := .int .i64 0) (by simp)
    have c1 := H.get (b := w.heap.size) (o := 1) (v := .int .i64 y) (by simp)
    have c2 := H.get (b := w.heap.size + 1) (o := 0) (v := .int .i64 x2) (by simp)
    have c3 := H.get (b := w.heap.size + 1) (o := 1) (v := .int .i64 y2) (by simp)
    have c4 := H.get (b := w.heap.size + 2) (o := 0) (v := .int .i64 0) (by simp)
    have c5 := H.get (b := w.heap.size + 2) (o := 1) (v := .int .i64 0) (by simp)
    have z0 := H.fz (b := w.heap.size + 2) (o := 0) (v := .int .i64 0) (by simp)
    have z1 := H.fz (b := w.heap.size + 2) (o := 1) (v := .int .i64 0) (by simp)
    obtain ⟨gs, g0, g1, gz⟩ := Gq.all (Gv.below hG H.below)
    go_wp2_with (first | (go_at_call 119; refine (hop _).mono ?_; rintro e w' ⟨rfl, hb⟩; replace H := H.call hb; have c0 := H.get (b := w.heap.size) (o := 0) (v := .int .i64 0) (by simp); have c1 := H.get (b := w.heap.size) (o := 1) (v := .int .i64 y) (by simp); have c2 := H.get (b := w.heap.size + 1) (o := 0) (v := .int .i64 x2) (by simp); have c3 := H.get (b := w.heap.size + 1) (o := 1) (v := .int .i64 y2) (by simp); have c4 := H.get (b := w.heap.size + 2) (o := 0) (v := .int .i64 0) (by simp); have c5 := H.get (b := w.heap.size + 2) (o := 1) (v := .int .i64 0) (by simp); have z0 := H.fz (b := w.heap.size + 2) (o := 0) (v := .int .i64 0) (by simp); have z1 := H.fz (b := w.heap.size + 2) (o := 1) (v := .int .i64 0) (by simp); obtain ⟨gs, g0, g1, gz⟩ := Gq.all (Gv.below hG H.below)) | (go_at_call 77; refine (iRestOk_xy _ _ _).mono ?_; rintro e w' ⟨rfl, hb⟩; (first | rw [h] | rw [h2]); replace H := H.call hb; have c0 := H.get (b := w.heap.size) (o := 0) (v := .int .i64 0) (by simp); have c1 := H.get (b := w.heap.size) (o := 1) (v := .int .i64 y) (by simp); have c2 := H.get (b := w.heap.size + 1) (o := 0) (v := .int .i64 x2) (by simp); have c3 := H.get (b := w.heap.size + 1) (o := 1) (v := .int .i64 y2) (by simp); have c4 := H.get (b := w.heap.size + 2) (o := 0) (v := .int .i64 0) (by simp); have c5 := H.get (b := w.heap.size + 2) (o := 1) (v := .int .i64 0) (by simp); have z0 := H.fz (b := w.heap.size + 2) (o := 0) (v := .int .i64 0) (by simp); have z1 := H.fz (b := w.heap.size + 2) (o := 1) (v := .int .i64 0) (by simp); obtain ⟨gs, g0, g1, gz⟩ := Gq.all (Gv.below hG H.below)) | (go_at_call 149; refine (single_xy _ _ _).mono ?_; rintro e w' ⟨rfl, hb⟩; (first | rw [hdx] | rw [hdy] | simp only [decide_true]); replace H := H.call hb; have c0 := H.get (b := w.heap.size) (o := 0) (v := .int .i64 0) (by simp); have c1 := H.get (b := w.heap.size) (o := 1) (v := .int .i64 y) (by simp); have c2 := H.get (b := w.heap.size + 1) (o := 0) (v := .int .i64 x2) (by simp); have c3 := H.get (b := w.heap.size + 1) (o := 1) (v := .int .i64 y2) (by simp); have c4 := H.get (b := w.heap.size + 2) (o := 0) (v := .int .i64 0) (by simp); have c5 := H.get (b := w.heap.size + 2) (o := 1) (v := .int .i64 0) (by simp); have z0 := H.fz (b := w.heap.size + 2) (o := 0) (v := .int .i64 0) (by simp); have z1 := H.fz (b := w.heap.size + 2) (o := 1) (v := .int .i64 0) (by simp); obtain ⟨gs, g0, g1, gz⟩ := Gq.all (Gv.below hG H.below)) | (go_at_call 157; refine (hro _).mono ?_; rintro e w' ⟨rfl, hcc, hcl, hb⟩; replace H := H.call hb; have c0 := H.get (b := w.heap.size) (o := 0) (v := .int .i64 0) (by simp); have c1 := H.get (b := w.heap.size) (o := 1) (v := .int .i64 y) (by simp); have c2 := H.get (b := w.heap.size + 1) (o := 0) (v := .int .i64 x2) (by simp); have c3 := H.get (b := w.heap.size + 1) (o := 1) (v := .int .i64 y2) (by simp); have c4 := H.get (b := w.heap.size + 2) (o := 0) (v := .int .i64 0) (by simp); have c5 := H.get (b := w.heap.size + 2) (o := 1) (v := .int .i64 0) (by simp); have z0 := H.fz (b := w.heap.size + 2) (o := 0) (v := .int .i64 0) (by simp); have z1 := H.fz (b := w.heap.size + 2) (o := 1) (v := .int .i64 0) (by simp); obtain ⟨gs, g0, g1, gz⟩ := Gq.all (Gv.below hG H.below)) | (go_at_call 206; refine (hcall _ _ hcc hcl).mono ?_; rintro e w' ⟨rfl, hb⟩; replace H := H.call hb; have c0 := H.get (b := w.heap.size) (o := 0) (v := .int .i64 0) (by simp); have c1 := H.get (b := w.heap.size) (o := 1) (v := .int .i64 y) (by simp); have c2 := H.get (b := w.heap.size + 1) (o := 0) (v := .int .i64 x2) (by simp); have c3 := H.get (b := w.heap.size + 1) (o := 1) (v := .int .i64 y2) (by simp); have c4 := H.get (b := w.heap.size + 2) (o := 0) (v := .int .i64 0) (by simp); have c5 := H.get (b := w.heap.size + 2) (o := 1) (v := .int .i64 0) (by simp); have z0 := H.fz (b := w.heap.size + 2) (o := 0) (v := .int .i64 0) (by simp); have z1 := H.fz (b := w.heap.size + 2) (o := 1) (v := .int .i64 0) (by simp)))
    obtain ⟨f0, f1, fb⟩ := H.fill (b := w.heap.size + 2) (x := .int .i64 0) (y := .int .i64 0) (by simp) (by simp) (by omega) (.int .i64 q.1) (.int .i64 q.2)
    refine bodyPost_ret (results_two rfl _ _ (w.heap.size + 2) (.int .i64 q.1) (.int .i64 q.2) _ rfl f0 f1 Tryd.underlying26 rfl (by kernel_rfl)) rfl ?_
    exact ⟨rfl, fb⟩
  · have hdx : decide (x = 0) = false := by simp [hx0]
    go_enter Tryd.func80, Tryd.ntmps80
    go_wp2_with fail
    rw [← hW]
    clear hW
    have c0 := H.get (b := w.heap.size) (o := 0) (v := .int .i64 x) (by simp)
    have c1 := H.get (b := w.heap.size) (o := 1) (v := .int .i64 y) (by simp)
    have c2 := H.get (b := w.heap.size + 1) (o := 0) (v := .int .i64 x2) (by simp)
    have c3 := H.get (b := w.heap.size + 1) (o := 1) (v := .int .i64 y2) (by simp)
    have c4 := H.get (b := w.heap.size + 2) (o := 0) (v := .int .i64 0) (by simp)
    have c5 := H.get (b := w.heap.size + 2) (o := 1) (v := .int .i64 0) (by simp)
    have z0 := H.fz (b := w.heap.size + 2) (o := 0) (v := .int .i64 0) (by simp)
    have z1 := H.fz (b := w.heap.size + 2) (o := 1) (v := .int .i64 0) (by simp)
    obtain ⟨gs, g0, g1, gz⟩ := Gq.all (Gv.below hG H.below)
    go_wp2_with (first | (go_at_call 119; refine (hop _).mono ?_; rintro e w' ⟨rfl, hb⟩; replace H := H.call hb; have c0 := H.get (b := w.heap.size) (o := 0) (v := .int .i64 x) (by simp); have c1 := H.get (b := w.heap.size) (o := 1) (v := .int .i64 y) (by simp); have c2 := H.get (b := w.heap.size + 1) (o := 0) (v := .int .i64 x2) (by simp); have c3 := H.get (b := w.heap.size + 1) (o := 1) (v := .int .i64 y2) (by simp); have c4 := H.get (b := w.heap.size + 2) (o := 0) (v := .int .i64 0) (by simp); have c5 := H.get (b := w.heap.size + 2) (o := 1) (v := .int .i64 0) (by simp); have z0 := H.fz (b := w.heap.size + 2) (o := 0) (v := .int .i64 0) (by simp); have z1 := H.fz (b := w.heap.size + 2) (o := 1) (v := .int .i64 0) (by simp); obtain ⟨gs, g0, g1, gz⟩ := Gq.all (Gv.below hG H.below)) | (go_at_call 77; refine (iRestOk_xy _ _ _).mono ?_; rintro e w' ⟨rfl, hb⟩; (first | rw [h] | rw [h2]); replace H := H.call hb; have c0 := H.get (b := w.heap.size) (o := 0) (v := .int .i64 x) (by simp); have c1 := H.get (b := w.heap.size) (o := 1) (v := .int .i64 y) (by simp); have c2 := H.get (b := w.heap.size + 1) (o := 0) (v := .int .i64 x2) (by simp); have c3 := H.get (b := w.heap.size + 1) (o := 1) (v := .int .i64 y2) (by simp); have c4 := H.get (b := w.heap.size + 2) (o := 0) (v := .int .i64 0) (by simp); have c5 := H.get (b := w.heap.size + 2) (o := 1) (v := .int .i64 0) (by simp); have z0 := H.fz (b := w.heap.size + 2) (o := 0) (v := .int .i64 0) (by simp); have z1 := H.fz (b := w.heap.size + 2) (o := 1) (v := .int .i64 0) (by simp); obtain ⟨gs, g0, g1, gz⟩ := Gq.all (Gv.below hG H.below)) | (go_at_call 149; refine (single_xy _ _ _).mono ?_; rintro e w' ⟨rfl, hb⟩; (first | rw [hdx] | rw [hdy] | simp only [decide_true]); replace H := H.call hb; have c0 := H.get (b := w.heap.size) (o := 0) (v := .int .i64 x) (by simp); have c1 := H.get (b := w.heap.size) (o := 1) (v := .int .i64 y) (by simp); have c2 := H.get (b := w.heap.size + 1) (o := 0) (v := .int .i64 x2) (by simp); have c3 := H.get (b := w.heap.size + 1) (o := 1) (v := .int .i64 y2) (by simp); have c4 := H.get (b := w.heap.size + 2) (o := 0) (v := .int .i64 0) (by simp); have c5 := H.get (b := w.heap.size + 2) (o := 1) (v := .int .i64 0) (by simp); have z0 := H.fz (b := w.heap.size + 2) (o := 0) (v := .int .i64 0) (by simp); have z1 := H.fz (b := w.heap.size + 2) (o := 1) (v := .int .i64 0) (by simp); obtain ⟨gs, g0, g1, gz⟩ := Gq.all (Gv.below hG H.below)) | (go_at_call 157; refine (hro _).mono ?_; rintro e w' ⟨rfl, hcc, hcl, hb⟩; replace H := H.call hb; have c0 := H.get (b := w.heap.size) (o := 0) (v := .int .i64 x) (by simp); have c1 := H.get (b := w.heap.size) (o := 1) (v := .int .i64 y) (by simp); have c2 := H.get (b := w.heap.size + 1) (o := 0) (v := .int .i64 x2) (by simp); have c3 := H.get (b := w.heap.size + 1) (o := 1) (v := .int .i64 y2) (by simp); have c4 := H.get (b := w.heap.size + 2) (o := 0) (v := .int .i64 0) (by simp); have c5 := H.get (b := w.heap.size + 2) (o := 1) (v := .int .i64 0) (by simp); have z0 := H.fz (b := w.heap.size + 2) (o := 0) (v := .int .i64 0) (by simp); have z1 := H.fz (b := w.heap.size + 2) (o := 1) (v := .int .i64 0) (by simp); obtain ⟨gs, g0, g1, gz⟩ := Gq.all (Gv.below hG H.below)) | (go_at_call 206; refine (hcall _ _ hcc hcl).mono ?_; rintro e w' ⟨rfl, hb⟩; replace H := H.call hb; have c0 := H.get (b := w.heap.size) (o := 0) (v := .int .i64 x) (by simp); have c1 := H.get (b := w.heap.size) (o := 1) (v := .int .i64 y) (by simp); have c2 := H.get (b := w.heap.size + 1) (o := 0) (v := .int .i64 x2) (by simp); have c3 := H.get (b := w.heap.size + 1) (o := 1) (v := .int .i64 y2) (by simp); have c4 := H.get (b := w.heap.size + 2) (o := 0) (v := .int .i64 0) (by simp); have c5 := H.get (b := w.heap.size + 2) (o := 1) (v := .int .i64 0) (by simp); have z0 := H.fz (b := w.heap.size + 2) (o := 0) (v := .int .i64 0) (by simp); have z1 := H.fz (b := w.heap.size + 2) (o := 1) (v := .int .i64 0) (by simp)))
    obtain ⟨f0, f1, fb⟩ := H.fill (b := w.heap.size + 2) (x := .int .i64 0) (y := .int .i64 0) (by simp) (by simp) (by omega) (.int .i64 q.1) (.int .i64 q.2)
    refine bodyPost_ret (results_two rfl _ _ (w.heap.size + 2) (.int .i64 q.1) (.int .i64 q.2) _ rfl f0 f1 Tryd.underlying26 rfl (by kernel_rfl)) rfl ?_
    exact ⟨rfl, fb⟩
set_option maxRecDepth 100000 in
set_option maxHeartbeats 4000000 in
theorem iDo_13z (x y x2 y2 : Int) (h : qOk (x, y) = true) (h2 : qOk (x2, y2) = true) (hab : ¬ (x = 0 ∧ x2 = 0)) (w : World) (hG : Gq w) (hz : apart9 (x, y) (x2, y2) = 0) :
    Calls Tryd.prog 80 #[.int .i64 13, .agg #[.int .i64 x, .int .i64 y], .agg #[.int .i64 x2, .int .i64 y2]] w fun e w' => e = .returned (.agg #[.int .i64 (do9 13 (x, y) (x2, y2)).1, .int .i64 (do9 13 (x, y) (x2, y2)).2]) ∧ Below w.heap.size w w' := by
  have hef := eql_func
  have hen := eql_nil
  have hrf := eqlR_func
  have hrn := eqlR_nil
  have e : do9 13 (x, y) (x2, y2) = (0, 0) := by
    unfold do9 word9
    rw [if_neg (by simp [h, h2]; decide), if_neg hab]
    simp [hz]
  rw [e]
  have hcall : ∀ (c : Nat) (w1 : World), w1.cell? ⟨c, 0, none⟩ = some (.int .i64 4294967296) → c < w1.heap.size → Calls Tryd.prog 206 #[.agg #[.int .i64 x, .int .i64 y], .agg #[.int .i64 x2, .int .i64 y2], .pointer (some ⟨c, 0, none⟩)] w1 fun e w' => e = .returned (.agg #[.int .i64 ((0, 0) : T9).1, .int .i64 ((0, 0) : T9).2]) ∧ Below w1.heap.size w1 w' := fun c w1 hc hcl => mulR_xy c 4294967296 x y x2 y2 w1 hc hcl ((0, 0) : T9) (fun w2 => prodR_zero 4294967296 x y x2 y2 w2 h h2 hz)
  generalize ((0, 0) : T9) = q at *
  have ho : inB 13 1 13 = true := by decide
  have hop : ∀ w1 : World, Calls Tryd.prog 119 #[.int .i64 13] w1 fun e w' => e = .returned (.func (Fn.func (kOf 13)) #[] #[]) ∧ Below w1.heap.size w1 w' := fun w1 => oper_any 13 ho w1
  have hro : ∀ w1 : World, Calls Tryd.prog 157 #[.int .i64 13] w1 fun e w' => e = .returned (.func (Fn.func 206) #[] #[.pointer (some ⟨w1.heap.size, 0, none⟩)]) ∧ w'.cell? ⟨w1.heap.size, 0, none⟩ = some (.int .i64 4294967296) ∧ w1.heap.size < w'.heap.size ∧ Below w1.heap.size w1 w' := fun w1 => restOper_13 w1
  generalize kOf 13 = K at *
  obtain ⟨W, hW, H⟩ := Hd.three w (.int .i64 x) (.int .i64 y) (.int .i64 x2) (.int .i64 y2) (.int .i64 0) (.int .i64 0) 26 26 26
  have hdy : decide (x2 = 0) = decide (x2 = 0) := rfl
  by_cases hx0 : x = 0
  · subst hx0
    have hdx : decide ((0 : Int) = 0) = true := by simp
    have hdy : decide (x2 = 0) = false := by simp; omega
    go_enter Tryd.func80, Tryd.ntmps80
    go_wp2_with fail
    rw [← hW]
    clear hW
    have c0 := H.get (b := w.heap.size) (o := 0) (v := .int .i64 0) (by simp)
    have c1 := H.get (b := w.heap.size) (o := 1) (v := .int .i64 y) (by simp)
    have c2 := H.get (b := w.heap.size + 1) (o := 0) (v := .int .i64 x2) (by simp)
    have c3 := H.get (b := w.heap.size + 1) (o := 1) (v := .int .i64 y2) (by simp)
    have c4 := H.get (b := w.heap.size + 2) (o := 0) (v := .int .i64 0) (by simp)
    have c5 := H.get (b := w.heap.size + 2) (o := 1) (v := .int .i64 0) (by simp)
    have z0 := H.fz (b := w.heap.size + 2) (o := 0) (v := .int .i64 0) (by simp)
    have z1 := H.fz (b := w.heap.size + 2) (o := 1) (v := .int .i64 0) (by simp)
    obtain ⟨gs, g0, g1, gz⟩ := Gq.all (Gv.below hG H.below)
    go_wp2_with (first | (go_at_call 119; refine (hop _).mono ?_; rintro e w' ⟨rfl, hb⟩; replace H := H.call hb; have c0 := H.get (b := w.heap.size) (o := 0) (v := .int .i64 0) (by simp); have c1 := H.get (b := w.heap.size) (o := 1) (v := .int .i64 y) (by simp); have c2 := H.get (b := w.heap.size + 1) (o := 0) (v := .int .i64 x2) (by simp); have c3 := H.get (b := w.heap.size + 1) (o := 1) (v := .int .i64 y2) (by simp); have c4 := H.get (b := w.heap.size + 2) (o := 0) (v := .int .i64 0) (by simp); have c5 := H.get (b := w.heap.size + 2) (o := 1) (v := .int .i64 0) (by simp); have z0 := H.fz (b := w.heap.size + 2) (o := 0) (v := .int .i64 0) (by simp); have z1 := H.fz (b := w.heap.size + 2) (o := 1) (v := .int .i64 0) (by simp); obtain ⟨gs, g0, g1, gz⟩ := Gq.all (Gv.below hG H.below)) | (go_at_call 77; refine (iRestOk_xy _ _ _).mono ?_; rintro e w' ⟨rfl, hb⟩; (first | rw [h] | rw [h2]); replace H := H.call hb; have c0 := H.get (b := w.heap.size) (o := 0) (v := .int .i64 0) (by simp); have c1 := H.get (b := w.heap.size) (o := 1) (v := .int .i64 y) (by simp); have c2 := H.get (b := w.heap.size + 1) (o := 0) (v := .int .i64 x2) (by simp); have c3 := H.get (b := w.heap.size + 1) (o := 1) (v := .int .i64 y2) (by simp); have c4 := H.get (b := w.heap.size + 2) (o := 0) (v := .int .i64 0) (by simp); have c5 := H.get (b := w.heap.size + 2) (o := 1) (v := .int .i64 0) (by simp); have z0 := H.fz (b := w.heap.size + 2) (o := 0) (v := .int .i64 0) (by simp); have z1 := H.fz (b := w.heap.size + 2) (o := 1) (v := .int .i64 0) (by simp); obtain ⟨gs, g0, g1, gz⟩ := Gq.all (Gv.below hG H.below)) | (go_at_call 149; refine (single_xy _ _ _).mono ?_; rintro e w' ⟨rfl, hb⟩; (first | rw [hdx] | rw [hdy] | simp only [decide_true]); replace H := H.call hb; have c0 := H.get (b := w.heap.size) (o := 0) (v := .int .i64 0) (by simp); have c1 := H.get (b := w.heap.size) (o := 1) (v := .int .i64 y) (by simp); have c2 := H.get (b := w.heap.size + 1) (o := 0) (v := .int .i64 x2) (by simp); have c3 := H.get (b := w.heap.size + 1) (o := 1) (v := .int .i64 y2) (by simp); have c4 := H.get (b := w.heap.size + 2) (o := 0) (v := .int .i64 0) (by simp); have c5 := H.get (b := w.heap.size + 2) (o := 1) (v := .int .i64 0) (by simp); have z0 := H.fz (b := w.heap.size + 2) (o := 0) (v := .int .i64 0) (by simp); have z1 := H.fz (b := w.heap.size + 2) (o := 1) (v := .int .i64 0) (by simp); obtain ⟨gs, g0, g1, gz⟩ := Gq.all (Gv.below hG H.below)) | (go_at_call 157; refine (hro _).mono ?_; rintro e w' ⟨rfl, hcc, hcl, hb⟩; replace H := H.call hb; have c0 := H.get (b := w.heap.size) (o := 0) (v := .int .i64 0) (by simp); have c1 := H.get (b := w.heap.size) (o := 1) (v := .int .i64 y) (by simp); have c2 := H.get (b := w.heap.size + 1) (o := 0) (v := .int .i64 x2) (by simp); have c3 := H.get (b := w.heap.size + 1) (o := 1) (v := .int .i64 y2) (by simp); have c4 := H.get (b := w.heap.size + 2) (o := 0) (v := .int .i64 0) (by simp); have c5 := H.get (b := w.heap.size + 2) (o := 1) (v := .int .i64 0) (by simp); have z0 := H.fz (b := w.heap.size + 2) (o := 0) (v := .int .i64 0) (by simp); have z1 := H.fz (b := w.heap.size + 2) (o := 1) (v := .int .i64 0) (by simp); obtain ⟨gs, g0, g1, gz⟩ := Gq.all (Gv.below hG H.below)) | (go_at_call 206; refine (hcall _ _ hcc hcl).mono ?_; rintro e w' ⟨rfl, hb⟩; replace H := H.call hb; have c0 := H.get (b := w.heap.size) (o := 0) (v := .int .i64 0) (by simp); have c1 := H.get (b := w.heap.size) (o := 1) (v := .int .i64 y) (by simp); have c2 := H.get (b := w.heap.size + 1) (o := 0) (v := .int .i64 x2) (by simp); have c3 := H.get (b := w.heap.size + 1) (o := 1) (v := .int .i64 y2) (by simp); have c4 := H.get (b := w.heap.size + 2) (o := 0) (v := .int .i64 0) (by simp); have c5 := H.get (b := w.heap.size + 2) (o := 1) (v := .int .i64 0) (by simp); have z0 := H.fz (b := w.heap.size + 2) (o := 0) (v := .int .i64 0) (by simp); have z1 := H.fz (b := w.heap.size + 2) (o := 1) (v := .int .i64 0) (by simp)))
    obtain ⟨f0, f1, fb⟩ := H.fill (b := w.heap.size + 2) (x := .int .i64 0) (y := .int .i64 0) (by simp) (by simp) (by omega) (.int .i64 q.1) (.int .i64 q.2)
    refine bodyPost_ret (results_two rfl _ _ (w.heap.size + 2) (.int .i64 q.1) (.int .i64 q.2) _ rfl f0 f1 Tryd.underlying26 rfl (by kernel_rfl)) rfl ?_
    exact ⟨rfl, fb⟩
  · have hdx : decide (x = 0) = false := by simp [hx0]
    go_enter Tryd.func80, Tryd.ntmps80
    go_wp2_with fail
    rw [← hW]
    clear hW
    have c0 := H.get (b := w.heap.size) (o := 0) (v := .int .i64 x) (by simp)
    have c1 := H.get (b := w.heap.size) (o := 1) (v := .int .i64 y) (by simp)
    have c2 := H.get (b := w.heap.size + 1) (o := 0) (v := .int .i64 x2) (by simp)
    have c3 := H.get (b := w.heap.size + 1) (o := 1) (v := .int .i64 y2) (by simp)
    have c4 := H.get (b := w.heap.size + 2) (o := 0) (v := .int .i64 0) (by simp)
    have c5 := H.get (b := w.heap.size + 2) (o := 1) (v := .int .i64 0) (by simp)
    have z0 := H.fz (b := w.heap.size + 2) (o := 0) (v := .int .i64 0) (by simp)
    have z1 := H.fz (b := w.heap.size + 2) (o := 1) (v := .int .i64 0) (by simp)
    obtain ⟨gs, g0, g1, gz⟩ := Gq.all (Gv.below hG H.below)
    go_wp2_with (first | (go_at_call 119; refine (hop _).mono ?_; rintro e w' ⟨rfl, hb⟩; replace H := H.call hb; have c0 := H.get (b := w.heap.size) (o := 0) (v := .int .i64 x) (by simp); have c1 := H.get (b := w.heap.size) (o := 1) (v := .int .i64 y) (by simp); have c2 := H.get (b := w.heap.size + 1) (o := 0) (v := .int .i64 x2) (by simp); have c3 := H.get (b := w.heap.size + 1) (o := 1) (v := .int .i64 y2) (by simp); have c4 := H.get (b := w.heap.size + 2) (o := 0) (v := .int .i64 0) (by simp); have c5 := H.get (b := w.heap.size + 2) (o := 1) (v := .int .i64 0) (by simp); have z0 := H.fz (b := w.heap.size + 2) (o := 0) (v := .int .i64 0) (by simp); have z1 := H.fz (b := w.heap.size + 2) (o := 1) (v := .int .i64 0) (by simp); obtain ⟨gs, g0, g1, gz⟩ := Gq.all (Gv.below hG H.below)) | (go_at_call 77; refine (iRestOk_xy _ _ _).mono ?_; rintro e w' ⟨rfl, hb⟩; (first | rw [h] | rw [h2]); replace H := H.call hb; have c0 := H.get (b := w.heap.size) (o := 0) (v := .int .i64 x) (by simp); have c1 := H.get (b := w.heap.size) (o := 1) (v := .int .i64 y) (by simp); have c2 := H.get (b := w.heap.size + 1) (o := 0) (v := .int .i64 x2) (by simp); have c3 := H.get (b := w.heap.size + 1) (o := 1) (v := .int .i64 y2) (by simp); have c4 := H.get (b := w.heap.size + 2) (o := 0) (v := .int .i64 0) (by simp); have c5 := H.get (b := w.heap.size + 2) (o := 1) (v := .int .i64 0) (by simp); have z0 := H.fz (b := w.heap.size + 2) (o := 0) (v := .int .i64 0) (by simp); have z1 := H.fz (b := w.heap.size + 2) (o := 1) (v := .int .i64 0) (by simp); obtain ⟨gs, g0, g1, gz⟩ := Gq.all (Gv.below hG H.below)) | (go_at_call 149; refine (single_xy _ _ _).mono ?_; rintro e w' ⟨rfl, hb⟩; (first | rw [hdx] | rw [hdy] | simp only [decide_true]); replace H := H.call hb; have c0 := H.get (b := w.heap.size) (o := 0) (v := .int .i64 x) (by simp); have c1 := H.get (b := w.heap.size) (o := 1) (v := .int .i64 y) (by simp); have c2 := H.get (b := w.heap.size + 1) (o := 0) (v := .int .i64 x2) (by simp); have c3 := H.get (b := w.heap.size + 1) (o := 1) (v := .int .i64 y2) (by simp); have c4 := H.get (b := w.heap.size + 2) (o := 0) (v := .int .i64 0) (by simp); have c5 := H.get (b := w.heap.size + 2) (o := 1) (v := .int .i64 0) (by simp); have z0 := H.fz (b := w.heap.size + 2) (o := 0) (v := .int .i64 0) (by simp); have z1 := H.fz (b := w.heap.size + 2) (o := 1) (v := .int .i64 0) (by simp); obtain ⟨gs, g0, g1, gz⟩ := Gq.all (Gv.below hG H.below)) | (go_at_call 157; refine (hro _).mono ?_; rintro e w' ⟨rfl, hcc, hcl, hb⟩; replace H := H.call hb; have c0 := H.get (b := w.heap.size) (o := 0) (v := .int .i64 x) (by simp); have c1 := H.get (b := w.heap.size) (o := 1) (v := .int .i64 y) (by simp); have c2 := H.get (b := w.heap.size + 1) (o := 0) (v := .int .i64 x2) (by simp); have c3 := H.get (b := w.heap.size + 1) (o := 1) (v := .int .i64 y2) (by simp); have c4 := H.get (b := w.heap.size + 2) (o := 0) (v := .int .i64 0) (by simp); have c5 := H.get (b := w.heap.size + 2) (o := 1) (v := .int .i64 0) (by simp); have z0 := H.fz (b := w.heap.size + 2) (o := 0) (v := .int .i64 0) (by simp); have z1 := H.fz (b := w.heap.size + 2) (o := 1) (v := .int .i64 0) (by simp); obtain ⟨gs, g0, g1, gz⟩ := Gq.all (Gv.below hG H.below)) | (go_at_call 206; refine (hcall _ _ hcc hcl).mono ?_; rintro e w' ⟨rfl, hb⟩; replace H := H.call hb; have c0 := H.get (b := w.heap.size) (o := 0) (v := .int .i64 x) (by simp); have c1 := H.get (b := w.heap.size) (o := 1) (v := .int .i64 y) (by simp); have c2 := H.get (b := w.heap.size + 1) (o := 0) (v := .int .i64 x2) (by simp); have c3 := H.get (b := w.heap.size + 1) (o := 1) (v := .int .i64 y2) (by simp); have c4 := H.get (b := w.heap.size + 2) (o := 0) (v := .int .i64 0) (by simp); have c5 := H.get (b := w.heap.size + 2) (o := 1) (v := .int .i64 0) (by simp); have z0 := H.fz (b := w.heap.size + 2) (o := 0) (v := .int .i64 0) (by simp); have z1 := H.fz (b := w.heap.size + 2) (o := 1) (v := .int .i64 0) (by simp)))
    obtain ⟨f0, f1, fb⟩ := H.fill (b := w.heap.size + 2) (x := .int .i64 0) (y := .int .i64 0) (by simp) (by simp) (by omega) (.int .i64 q.1) (.int .i64 q.2)
    refine bodyPost_ret (results_two rfl _ _ (w.heap.size + 2) (.int .i64 q.1) (.int .i64 q.2) _ rfl f0 f1 Tryd.underlying26 rfl (by kernel_rfl)) rfl ?_
    exact ⟨rfl, fb⟩
set_option maxRecDepth 100000 in
set_option maxHeartbeats 4000000 in
theorem iDo_13n (x y x2 y2 : Int) (h : qOk (x, y) = true) (h2 : qOk (x2, y2) = true) (hab : ¬ (x = 0 ∧ x2 = 0)) (w : World) (hG : Gq w) (hz : apart9 (x, y) (x2, y2) ≠ 0) :
    Calls Tryd.prog 80 #[.int .i64 13, .agg #[.int .i64 x, .int .i64 y], .agg #[.int .i64 x2, .int .i64 y2]] w fun e w' => e = .returned (.agg #[.int .i64 (do9 13 (x, y) (x2, y2)).1, .int .i64 (do9 13 (x, y) (x2, y2)).2]) ∧ Below w.heap.size w w' := by
  have hef := eql_func
  have hen := eql_nil
  have hrf := eqlR_func
  have hrn := eqlR_nil
  have e : do9 13 (x, y) (x2, y2) = make9 (gcd9 (apart9 (x, y) (x2, y2)) 4294967296) (y * y2) := by
    unfold do9 word9
    rw [if_neg (by simp [h, h2]; decide), if_neg hab]
    simp [hz]
  rw [e]
  have hcall : ∀ (c : Nat) (w1 : World), w1.cell? ⟨c, 0, none⟩ = some (.int .i64 4294967296) → c < w1.heap.size → Calls Tryd.prog 206 #[.agg #[.int .i64 x, .int .i64 y], .agg #[.int .i64 x2, .int .i64 y2], .pointer (some ⟨c, 0, none⟩)] w1 fun e w' => e = .returned (.agg #[.int .i64 (make9 (gcd9 (apart9 (x, y) (x2, y2)) 4294967296) (y * y2)).1, .int .i64 (make9 (gcd9 (apart9 (x, y) (x2, y2)) 4294967296) (y * y2)).2]) ∧ Below w1.heap.size w1 w' := fun c w1 hc hcl => mulR_xy c 4294967296 x y x2 y2 w1 hc hcl (make9 (gcd9 (apart9 (x, y) (x2, y2)) 4294967296) (y * y2)) (fun w2 => prodR_some 4294967296 x y x2 y2 w2 (by omega) h h2 hz)
  generalize (make9 (gcd9 (apart9 (x, y) (x2, y2)) 4294967296) (y * y2)) = q at *
  have ho : inB 13 1 13 = true := by decide
  have hop : ∀ w1 : World, Calls Tryd.prog 119 #[.int .i64 13] w1 fun e w' => e = .returned (.func (Fn.func (kOf 13)) #[] #[]) ∧ Below w1.heap.size w1 w' := fun w1 => oper_any 13 ho w1
  have hro : ∀ w1 : World, Calls Tryd.prog 157 #[.int .i64 13] w1 fun e w' => e = .returned (.func (Fn.func 206) #[] #[.pointer (some ⟨w1.heap.size, 0, none⟩)]) ∧ w'.cell? ⟨w1.heap.size, 0, none⟩ = some (.int .i64 4294967296) ∧ w1.heap.size < w'.heap.size ∧ Below w1.heap.size w1 w' := fun w1 => restOper_13 w1
  generalize kOf 13 = K at *
  obtain ⟨W, hW, H⟩ := Hd.three w (.int .i64 x) (.int .i64 y) (.int .i64 x2) (.int .i64 y2) (.int .i64 0) (.int .i64 0) 26 26 26
  have hdy : decide (x2 = 0) = decide (x2 = 0) := rfl
  by_cases hx0 : x = 0
  · subst hx0
    have hdx : decide ((0 : Int) = 0) = true := by simp
    have hdy : decide (x2 = 0) = false := by simp; omega
    go_enter Tryd.func80, Tryd.ntmps80
    go_wp2_with fail
    rw [← hW]
    clear hW
    have c0 := H.get (b := w.heap.size) (o := 0) (v := .int .i64 0) (by simp)
    have c1 := H.get (b := w.heap.size) (o := 1) (v := .int .i64 y) (by simp)
    have c2 := H.get (b := w.heap.size + 1) (o := 0) (v := .int .i64 x2) (by simp)
    have c3 := H.get (b := w.heap.size + 1) (o := 1) (v := .int .i64 y2) (by simp)
    have c4 := H.get (b := w.heap.size + 2) (o := 0) (v := .int .i64 0) (by simp)
    have c5 := H.get (b := w.heap.size + 2) (o := 1) (v := .int .i64 0) (by simp)
    have z0 := H.fz (b := w.heap.size + 2) (o := 0) (v := .int .i64 0) (by simp)
    have z1 := H.fz (b := w.heap.size + 2) (o := 1) (v := .int .i64 0) (by simp)
    obtain ⟨gs, g0, g1, gz⟩ := Gq.all (Gv.below hG H.below)
    go_wp2_with (first | (go_at_call 119; refine (hop _).mono ?_; rintro e w' ⟨rfl, hb⟩; replace H := H.call hb; have c0 := H.get (b := w.heap.size) (o := 0) (v := .int .i64 0) (by simp); have c1 := H.get (b := w.heap.size) (o := 1) (v := .int .i64 y) (by simp); have c2 := H.get (b := w.heap.size + 1) (o := 0) (v := .int .i64 x2) (by simp); have c3 := H.get (b := w.heap.size + 1) (o := 1) (v := .int .i64 y2) (by simp); have c4 := H.get (b := w.heap.size + 2) (o := 0) (v := .int .i64 0) (by simp); have c5 := H.get (b := w.heap.size + 2) (o := 1) (v := .int .i64 0) (by simp); have z0 := H.fz (b := w.heap.size + 2) (o := 0) (v := .int .i64 0) (by simp); have z1 := H.fz (b := w.heap.size + 2) (o := 1) (v := .int .i64 0) (by simp); obtain ⟨gs, g0, g1, gz⟩ := Gq.all (Gv.below hG H.below)) | (go_at_call 77; refine (iRestOk_xy _ _ _).mono ?_; rintro e w' ⟨rfl, hb⟩; (first | rw [h] | rw [h2]); replace H := H.call hb; have c0 := H.get (b := w.heap.size) (o := 0) (v := .int .i64 0) (by simp); have c1 := H.get (b := w.heap.size) (o := 1) (v := .int .i64 y) (by simp); have c2 := H.get (b := w.heap.size + 1) (o := 0) (v := .int .i64 x2) (by simp); have c3 := H.get (b := w.heap.size + 1) (o := 1) (v := .int .i64 y2) (by simp); have c4 := H.get (b := w.heap.size + 2) (o := 0) (v := .int .i64 0) (by simp); have c5 := H.get (b := w.heap.size + 2) (o := 1) (v := .int .i64 0) (by simp); have z0 := H.fz (b := w.heap.size + 2) (o := 0) (v := .int .i64 0) (by simp); have z1 := H.fz (b := w.heap.size + 2) (o := 1) (v := .int .i64 0) (by simp); obtain ⟨gs, g0, g1, gz⟩ := Gq.all (Gv.below hG H.below)) | (go_at_call 149; refine (single_xy _ _ _).mono ?_; rintro e w' ⟨rfl, hb⟩; (first | rw [hdx] | rw [hdy] | simp only [decide_true]); replace H := H.call hb; have c0 := H.get (b := w.heap.size) (o := 0) (v := .int .i64 0) (by simp); have c1 := H.get (b := w.heap.size) (o := 1) (v := .int .i64 y) (by simp); have c2 := H.get (b := w.heap.size + 1) (o := 0) (v := .int .i64 x2) (by simp); have c3 := H.get (b := w.heap.size + 1) (o := 1) (v := .int .i64 y2) (by simp); have c4 := H.get (b := w.heap.size + 2) (o := 0) (v := .int .i64 0) (by simp); have c5 := H.get (b := w.heap.size + 2) (o := 1) (v := .int .i64 0) (by simp); have z0 := H.fz (b := w.heap.size + 2) (o := 0) (v := .int .i64 0) (by simp); have z1 := H.fz (b := w.heap.size + 2) (o := 1) (v := .int .i64 0) (by simp); obtain ⟨gs, g0, g1, gz⟩ := Gq.all (Gv.below hG H.below)) | (go_at_call 157; refine (hro _).mono ?_; rintro e w' ⟨rfl, hcc, hcl, hb⟩; replace H := H.call hb; have c0 := H.get (b := w.heap.size) (o := 0) (v := .int .i64 0) (by simp); have c1 := H.get (b := w.heap.size) (o := 1) (v := .int .i64 y) (by simp); have c2 := H.get (b := w.heap.size + 1) (o := 0) (v := .int .i64 x2) (by simp); have c3 := H.get (b := w.heap.size + 1) (o := 1) (v := .int .i64 y2) (by simp); have c4 := H.get (b := w.heap.size + 2) (o := 0) (v := .int .i64 0) (by simp); have c5 := H.get (b := w.heap.size + 2) (o := 1) (v := .int .i64 0) (by simp); have z0 := H.fz (b := w.heap.size + 2) (o := 0) (v := .int .i64 0) (by simp); have z1 := H.fz (b := w.heap.size + 2) (o := 1) (v := .int .i64 0) (by simp); obtain ⟨gs, g0, g1, gz⟩ := Gq.all (Gv.below hG H.below)) | (go_at_call 206; refine (hcall _ _ hcc hcl).mono ?_; rintro e w' ⟨rfl, hb⟩; replace H := H.call hb; have c0 := H.get (b := w.heap.size) (o := 0) (v := .int .i64 0) (by simp); have c1 := H.get (b := w.heap.size) (o := 1) (v := .int .i64 y) (by simp); have c2 := H.get (b := w.heap.size + 1) (o := 0) (v := .int .i64 x2) (by simp); have c3 := H.get (b := w.heap.size + 1) (o := 1) (v := .int .i64 y2) (by simp); have c4 := H.get (b := w.heap.size + 2) (o := 0) (v := .int .i64 0) (by simp); have c5 := H.get (b := w.heap.size + 2) (o := 1) (v := .int .i64 0) (by simp); have z0 := H.fz (b := w.heap.size + 2) (o := 0) (v := .int .i64 0) (by simp); have z1 := H.fz (b := w.heap.size + 2) (o := 1) (v := .int .i64 0) (by simp)))
    obtain ⟨f0, f1, fb⟩ := H.fill (b := w.heap.size + 2) (x := .int .i64 0) (y := .int .i64 0) (by simp) (by simp) (by omega) (.int .i64 q.1) (.int .i64 q.2)
    refine bodyPost_ret (results_two rfl _ _ (w.heap.size + 2) (.int .i64 q.1) (.int .i64 q.2) _ rfl f0 f1 Tryd.underlying26 rfl (by kernel_rfl)) rfl ?_
    exact ⟨rfl, fb⟩
  · have hdx : decide (x = 0) = false := by simp [hx0]
    go_enter Tryd.func80, Tryd.ntmps80
    go_wp2_with fail
    rw [← hW]
    clear hW
    have c0 := H.get (b := w.heap.size) (o := 0) (v := .int .i64 x) (by simp)
    have c1 := H.get (b := w.heap.size) (o := 1) (v := .int .i64 y) (by simp)
    have c2 := H.get (b := w.heap.size + 1) (o := 0) (v := .int .i64 x2) (by simp)
    have c3 := H.get (b := w.heap.size + 1) (o := 1) (v := .int .i64 y2) (by simp)
    have c4 := H.get (b := w.heap.size + 2) (o := 0) (v := .int .i64 0) (by simp)
    have c5 := H.get (b := w.heap.size + 2) (o := 1) (v := .int .i64 0) (by simp)
    have z0 := H.fz (b := w.heap.size + 2) (o := 0) (v := .int .i64 0) (by simp)
    have z1 := H.fz (b := w.heap.size + 2) (o := 1) (v := .int .i64 0) (by simp)
    obtain ⟨gs, g0, g1, gz⟩ := Gq.all (Gv.below hG H.below)
    go_wp2_with (first | (go_at_call 119; refine (hop _).mono ?_; rintro e w' ⟨rfl, hb⟩; replace H := H.call hb; have c0 := H.get (b := w.heap.size) (o := 0) (v := .int .i64 x) (by simp); have c1 := H.get (b := w.heap.size) (o := 1) (v := .int .i64 y) (by simp); have c2 := H.get (b := w.heap.size + 1) (o := 0) (v := .int .i64 x2) (by simp); have c3 := H.get (b := w.heap.size + 1) (o := 1) (v := .int .i64 y2) (by simp); have c4 := H.get (b := w.heap.size + 2) (o := 0) (v := .int .i64 0) (by simp); have c5 := H.get (b := w.heap.size + 2) (o := 1) (v := .int .i64 0) (by simp); have z0 := H.fz (b := w.heap.size + 2) (o := 0) (v := .int .i64 0) (by simp); have z1 := H.fz (b := w.heap.size + 2) (o := 1) (v := .int .i64 0) (by simp); obtain ⟨gs, g0, g1, gz⟩ := Gq.all (Gv.below hG H.below)) | (go_at_call 77; refine (iRestOk_xy _ _ _).mono ?_; rintro e w' ⟨rfl, hb⟩; (first | rw [h] | rw [h2]); replace H := H.call hb; have c0 := H.get (b := w.heap.size) (o := 0) (v := .int .i64 x) (by simp); have c1 := H.get (b := w.heap.size) (o := 1) (v := .int .i64 y) (by simp); have c2 := H.get (b := w.heap.size + 1) (o := 0) (v := .int .i64 x2) (by simp); have c3 := H.get (b := w.heap.size + 1) (o := 1) (v := .int .i64 y2) (by simp); have c4 := H.get (b := w.heap.size + 2) (o := 0) (v := .int .i64 0) (by simp); have c5 := H.get (b := w.heap.size + 2) (o := 1) (v := .int .i64 0) (by simp); have z0 := H.fz (b := w.heap.size + 2) (o := 0) (v := .int .i64 0) (by simp); have z1 := H.fz (b := w.heap.size + 2) (o := 1) (v := .int .i64 0) (by simp); obtain ⟨gs, g0, g1, gz⟩ := Gq.all (Gv.below hG H.below)) | (go_at_call 149; refine (single_xy _ _ _).mono ?_; rintro e w' ⟨rfl, hb⟩; (first | rw [hdx] | rw [hdy] | simp only [decide_true]); replace H := H.call hb; have c0 := H.get (b := w.heap.size) (o := 0) (v := .int .i64 x) (by simp); have c1 := H.get (b := w.heap.size) (o := 1) (v := .int .i64 y) (by simp); have c2 := H.get (b := w.heap.size + 1) (o := 0) (v := .int .i64 x2) (by simp); have c3 := H.get (b := w.heap.size + 1) (o := 1) (v := .int .i64 y2) (by simp); have c4 := H.get (b := w.heap.size + 2) (o := 0) (v := .int .i64 0) (by simp); have c5 := H.get (b := w.heap.size + 2) (o := 1) (v := .int .i64 0) (by simp); have z0 := H.fz (b := w.heap.size + 2) (o := 0) (v := .int .i64 0) (by simp); have z1 := H.fz (b := w.heap.size + 2) (o := 1) (v := .int .i64 0) (by simp); obtain ⟨gs, g0, g1, gz⟩ := Gq.all (Gv.below hG H.below)) | (go_at_call 157; refine (hro _).mono ?_; rintro e w' ⟨rfl, hcc, hcl, hb⟩; replace H := H.call hb; have c0 := H.get (b := w.heap.size) (o := 0) (v := .int .i64 x) (by simp); have c1 := H.get (b := w.heap.size) (o := 1) (v := .int .i64 y) (by simp); have c2 := H.get (b := w.heap.size + 1) (o := 0) (v := .int .i64 x2) (by simp); have c3 := H.get (b := w.heap.size + 1) (o := 1) (v := .int .i64 y2) (by simp); have c4 := H.get (b := w.heap.size + 2) (o := 0) (v := .int .i64 0) (by simp); have c5 := H.get (b := w.heap.size + 2) (o := 1) (v := .int .i64 0) (by simp); have z0 := H.fz (b := w.heap.size + 2) (o := 0) (v := .int .i64 0) (by simp); have z1 := H.fz (b := w.heap.size + 2) (o := 1) (v := .int .i64 0) (by simp); obtain ⟨gs, g0, g1, gz⟩ := Gq.all (Gv.below hG H.below)) | (go_at_call 206; refine (hcall _ _ hcc hcl).mono ?_; rintro e w' ⟨rfl, hb⟩; replace H := H.call hb; have c0 := H.get (b := w.heap.size) (o := 0) (v := .int .i64 x) (by simp); have c1 := H.get (b := w.heap.size) (o := 1) (v := .int .i64 y) (by simp); have c2 := H.get (b := w.heap.size + 1) (o := 0) (v := .int .i64 x2) (by simp); have c3 := H.get (b := w.heap.size + 1) (o := 1) (v := .int .i64 y2) (by simp); have c4 := H.get (b := w.heap.size + 2) (o := 0) (v := .int .i64 0) (by simp); have c5 := H.get (b := w.heap.size + 2) (o := 1) (v := .int .i64 0) (by simp); have z0 := H.fz (b := w.heap.size + 2) (o := 0) (v := .int .i64 0) (by simp); have z1 := H.fz (b := w.heap.size + 2) (o := 1) (v := .int .i64 0) (by simp)))
    obtain ⟨f0, f1, fb⟩ := H.fill (b := w.heap.size + 2) (x := .int .i64 0) (y := .int .i64 0) (by simp) (by simp) (by omega) (.int .i64 q.1) (.int .i64 q.2)
    refine bodyPost_ret (results_two rfl _ _ (w.heap.size + 2) (.int .i64 q.1) (.int .i64 q.2) _ rfl f0 f1 Tryd.underlying26 rfl (by kernel_rfl)) rfl ?_
    exact ⟨rfl, fb⟩
end Go.Proofs.YthbbgkpkijlclaaDoor.num
namespace Go.Proofs.YthbbgkpkijlclaaDoor.num
open Go.ChangeShapes Go.WideShapes Go.ChangeAt Go.RowKit
set_option linter.unusedVariables false

set_option maxRecDepth 100000 in
set_option maxHeartbeats 4000000 in
theorem iDo_9rest (x y x2 y2 : Int) (h : qOk (x, y) = true) (h2 : qOk (x2, y2) = true) (hab : ¬ (x = 0 ∧ x2 = 0)) (w : World) (hG : Gq w) (hS : Gv w 4 (0, 31)) (hx2 : x2 ≠ 0) :
    Calls Tryd.prog 80 #[.int .i64 9, .agg #[.int .i64 x, .int .i64 y], .agg #[.int .i64 x2, .int .i64 y2]] w fun e w' => e = .returned (.agg #[.int .i64 (do9 9 (x, y) (x2, y2)).1, .int .i64 (do9 9 (x, y) (x2, y2)).2]) ∧ Below w.heap.size w w' := by
  have hef := eql_func
  have hen := eql_nil
  have hrf := eqlR_func
  have hrn := eqlR_nil
  have e : do9 9 (x, y) (x2, y2) = (1, 0) := by
    unfold do9
    rw [if_neg (by simp [h, h2]; decide), if_neg (by simp [hx2])]
    simp [hx2, all9]
  rw [e]
  have hcall : ∀ w1 : World, Gq w1 → Gv w1 4 (0, 31) → Calls Tryd.prog 208 #[.agg #[.int .i64 x, .int .i64 y], .agg #[.int .i64 x2, .int .i64 y2]] w1 fun e w' => e = .returned (.agg #[.int .i64 ((1, 0) : T9).1, .int .i64 ((1, 0) : T9).2]) ∧ Below w1.heap.size w1 w' := fun w1 hg hs2 => shiftR_rest x y x2 y2 w1 hg hs2 hx2
  generalize ((1, 0) : T9) = q at *
  have ho : inB 9 1 13 = true := by decide
  have hop : ∀ w1 : World, Calls Tryd.prog 119 #[.int .i64 9] w1 fun e w' => e = .returned (.func (Fn.func (kOf 9)) #[] #[]) ∧ Below w1.heap.size w1 w' := fun w1 => oper_any 9 ho w1
  have hro : ∀ w1 : World, Calls Tryd.prog 157 #[.int .i64 9] w1 fun e w' => e = .returned (.func (Fn.func 208) #[] #[]) ∧ w'.cell? ⟨w1.heap.size, 0, none⟩ = some (.int .i64 0) ∧ w1.heap.size < w'.heap.size ∧ Below w1.heap.size w1 w' := fun w1 => restOper_9 w1
  generalize kOf 9 = K at *
  obtain ⟨W, hW, H⟩ := Hd.three w (.int .i64 x) (.int .i64 y) (.int .i64 x2) (.int .i64 y2) (.int .i64 0) (.int .i64 0) 26 26 26
  have hdy : decide (x2 = 0) = decide (x2 = 0) := rfl
  by_cases hx0 : x = 0
  · subst hx0
    have hdx : decide ((0 : Int) = 0) = true := by simp
    have hdy : decide (x2 = 0) = false := by simp; omega
    go_enter Tryd.func80, Tryd.ntmps80
    go_wp2_with fail
    rw [← hW]
    clear hW
    have c0 := H.get (b := w.heap.size) (o := 0) (v := .int .i64 0) (by simp)
    have c1 := H.get (b := w.heap.size) (o := 1) (v := .int .i64 y) (by simp)
    have c2 := H.get (b := w.heap.size + 1) (o := 0) (v := .int .i64 x2) (by simp)
    have c3 := H.get (b := w.heap.size + 1) (o := 1) (v := .int .i64 y2) (by simp)
    have c4 := H.get (b := w.heap.size + 2) (o := 0) (v := .int .i64 0) (by simp)
    have c5 := H.get (b := w.heap.size + 2) (o := 1) (v := .int .i64 0) (by simp)
    have z0 := H.fz (b := w.heap.size + 2) (o := 0) (v := .int .i64 0) (by simp)
    have z1 := H.fz (b := w.heap.size + 2) (o := 1) (v := .int .i64 0) (by simp)
    obtain ⟨gs, g0, g1, gz⟩ := Gq.all (Gv.below hG H.below)
    go_wp2_with (first | (go_at_call 119; refine (hop _).mono ?_; rintro e w' ⟨rfl, hb⟩; replace H := H.call hb; have c0 := H.get (b := w.heap.size) (o := 0) (v := .int .i64 0) (by simp); have c1 := H.get (b := w.heap.size) (o := 1) (v := .int .i64 y) (by simp); have c2 := H.get (b := w.heap.size + 1) (o := 0) (v := .int .i64 x2) (by simp); have c3 := H.get (b := w.heap.size + 1) (o := 1) (v := .int .i64 y2) (by simp); have c4 := H.get (b := w.heap.size + 2) (o := 0) (v := .int .i64 0) (by simp); have c5 := H.get (b := w.heap.size + 2) (o := 1) (v := .int .i64 0) (by simp); have z0 := H.fz (b := w.heap.size + 2) (o := 0) (v := .int .i64 0) (by simp); have z1 := H.fz (b := w.heap.size + 2) (o := 1) (v := .int .i64 0) (by simp); obtain ⟨gs, g0, g1, gz⟩ := Gq.all (Gv.below hG H.below)) | (go_at_call 77; refine (iRestOk_xy _ _ _).mono ?_; rintro e w' ⟨rfl, hb⟩; (first | rw [h] | rw [h2]); replace H := H.call hb; have c0 := H.get (b := w.heap.size) (o := 0) (v := .int .i64 0) (by simp); have c1 := H.get (b := w.heap.size) (o := 1) (v := .int .i64 y) (by simp); have c2 := H.get (b := w.heap.size + 1) (o := 0) (v := .int .i64 x2) (by simp); have c3 := H.get (b := w.heap.size + 1) (o := 1) (v := .int .i64 y2) (by simp); have c4 := H.get (b := w.heap.size + 2) (o := 0) (v := .int .i64 0) (by simp); have c5 := H.get (b := w.heap.size + 2) (o := 1) (v := .int .i64 0) (by simp); have z0 := H.fz (b := w.heap.size + 2) (o := 0) (v := .int .i64 0) (by simp); have z1 := H.fz (b := w.heap.size + 2) (o := 1) (v := .int .i64 0) (by simp); obtain ⟨gs, g0, g1, gz⟩ := Gq.all (Gv.below hG H.below)) | (go_at_call 149; refine (single_xy _ _ _).mono ?_; rintro e w' ⟨rfl, hb⟩; (first | rw [hdx] | rw [hdy] | simp only [decide_true]); replace H := H.call hb; have c0 := H.get (b := w.heap.size) (o := 0) (v := .int .i64 0) (by simp); have c1 := H.get (b := w.heap.size) (o := 1) (v := .int .i64 y) (by simp); have c2 := H.get (b := w.heap.size + 1) (o := 0) (v := .int .i64 x2) (by simp); have c3 := H.get (b := w.heap.size + 1) (o := 1) (v := .int .i64 y2) (by simp); have c4 := H.get (b := w.heap.size + 2) (o := 0) (v := .int .i64 0) (by simp); have c5 := H.get (b := w.heap.size + 2) (o := 1) (v := .int .i64 0) (by simp); have z0 := H.fz (b := w.heap.size + 2) (o := 0) (v := .int .i64 0) (by simp); have z1 := H.fz (b := w.heap.size + 2) (o := 1) (v := .int .i64 0) (by simp); obtain ⟨gs, g0, g1, gz⟩ := Gq.all (Gv.below hG H.below)) | (go_at_call 157; refine (hro _).mono ?_; rintro e w' ⟨rfl, hcc, hcl, hb⟩; replace H := H.call hb; have c0 := H.get (b := w.heap.size) (o := 0) (v := .int .i64 0) (by simp); have c1 := H.get (b := w.heap.size) (o := 1) (v := .int .i64 y) (by simp); have c2 := H.get (b := w.heap.size + 1) (o := 0) (v := .int .i64 x2) (by simp); have c3 := H.get (b := w.heap.size + 1) (o := 1) (v := .int .i64 y2) (by simp); have c4 := H.get (b := w.heap.size + 2) (o := 0) (v := .int .i64 0) (by simp); have c5 := H.get (b := w.heap.size + 2) (o := 1) (v := .int .i64 0) (by simp); have z0 := H.fz (b := w.heap.size + 2) (o := 0) (v := .int .i64 0) (by simp); have z1 := H.fz (b := w.heap.size + 2) (o := 1) (v := .int .i64 0) (by simp); obtain ⟨gs, g0, g1, gz⟩ := Gq.all (Gv.below hG H.below)) | (go_at_call 208; refine (hcall _ (Gv.below hG H.below) (Gv.below hS H.below)).mono ?_; rintro e w' ⟨rfl, hb⟩; replace H := H.call hb; have c0 := H.get (b := w.heap.size) (o := 0) (v := .int .i64 0) (by simp); have c1 := H.get (b := w.heap.size) (o := 1) (v := .int .i64 y) (by simp); have c2 := H.get (b := w.heap.size + 1) (o := 0) (v := .int .i64 x2) (by simp); have c3 := H.get (b := w.heap.size + 1) (o := 1) (v := .int .i64 y2) (by simp); have c4 := H.get (b := w.heap.size + 2) (o := 0) (v := .int .i64 0) (by simp); have c5 := H.get (b := w.heap.size + 2) (o := 1) (v := .int .i64 0) (by simp); have z0 := H.fz (b := w.heap.size + 2) (o := 0) (v := .int .i64 0) (by simp); have z1 := H.fz (b := w.heap.size + 2) (o := 1) (v := .int .i64 0) (by simp)))
    obtain ⟨f0, f1, fb⟩ := H.fill (b := w.heap.size + 2) (x := .int .i64 0) (y := .int .i64 0) (by simp) (by simp) (by omega) (.int .i64 q.1) (.int .i64 q.2)
    refine bodyPost_ret (results_two rfl _ _ (w.heap.size + 2) (.int .i64 q.1) (.int .i64 q.2) _ rfl f0 f1 Tryd.underlying26 rfl (by kernel_rfl)) rfl ?_
    exact ⟨rfl, fb⟩
  · have hdx : decide (x = 0) = false := by simp [hx0]
    go_enter Tryd.func80, Tryd.ntmps80
    go_wp2_with fail
    rw [← hW]
    clear hW
    have c0 := H.get (b := w.heap.size) (o := 0) (v := .int .i64 x) (by simp)
    have c1 := H.get (b := w.heap.size) (o := 1) (v := .int .i64 y) (by simp)
    have c2 := H.get (b := w.heap.size + 1) (o := 0) (v := .int .i64 x2) (by simp)
    have c3 := H.get (b := w.heap.size + 1) (o := 1) (v := .int .i64 y2) (by simp)
    have c4 := H.get (b := w.heap.size + 2) (o := 0) (v := .int .i64 0) (by simp)
    have c5 := H.get (b := w.heap.size + 2) (o := 1) (v := .int .i64 0) (by simp)
    have z0 := H.fz (b := w.heap.size + 2) (o := 0) (v := .int .i64 0) (by simp)
    have z1 := H.fz (b := w.heap.size + 2) (o := 1) (v := .int .i64 0) (by simp)
    obtain ⟨gs, g0, g1, gz⟩ := Gq.all (Gv.below hG H.below)
    go_wp2_with (first | (go_at_call 119; refine (hop _).mono ?_; rintro e w' ⟨rfl, hb⟩; replace H := H.call hb; have c0 := H.get (b := w.heap.size) (o := 0) (v := .int .i64 x) (by simp); have c1 := H.get (b := w.heap.size) (o := 1) (v := .int .i64 y) (by simp); have c2 := H.get (b := w.heap.size + 1) (o := 0) (v := .int .i64 x2) (by simp); have c3 := H.get (b := w.heap.size + 1) (o := 1) (v := .int .i64 y2) (by simp); have c4 := H.get (b := w.heap.size + 2) (o := 0) (v := .int .i64 0) (by simp); have c5 := H.get (b := w.heap.size + 2) (o := 1) (v := .int .i64 0) (by simp); have z0 := H.fz (b := w.heap.size + 2) (o := 0) (v := .int .i64 0) (by simp); have z1 := H.fz (b := w.heap.size + 2) (o := 1) (v := .int .i64 0) (by simp); obtain ⟨gs, g0, g1, gz⟩ := Gq.all (Gv.below hG H.below)) | (go_at_call 77; refine (iRestOk_xy _ _ _).mono ?_; rintro e w' ⟨rfl, hb⟩; (first | rw [h] | rw [h2]); replace H := H.call hb; have c0 := H.get (b := w.heap.size) (o := 0) (v := .int .i64 x) (by simp); have c1 := H.get (b := w.heap.size) (o := 1) (v := .int .i64 y) (by simp); have c2 := H.get (b := w.heap.size + 1) (o := 0) (v := .int .i64 x2) (by simp); have c3 := H.get (b := w.heap.size + 1) (o := 1) (v := .int .i64 y2) (by simp); have c4 := H.get (b := w.heap.size + 2) (o := 0) (v := .int .i64 0) (by simp); have c5 := H.get (b := w.heap.size + 2) (o := 1) (v := .int .i64 0) (by simp); have z0 := H.fz (b := w.heap.size + 2) (o := 0) (v := .int .i64 0) (by simp); have z1 := H.fz (b := w.heap.size + 2) (o := 1) (v := .int .i64 0) (by simp); obtain ⟨gs, g0, g1, gz⟩ := Gq.all (Gv.below hG H.below)) | (go_at_call 149; refine (single_xy _ _ _).mono ?_; rintro e w' ⟨rfl, hb⟩; (first | rw [hdx] | rw [hdy] | simp only [decide_true]); replace H := H.call hb; have c0 := H.get (b := w.heap.size) (o := 0) (v := .int .i64 x) (by simp); have c1 := H.get (b := w.heap.size) (o := 1) (v := .int .i64 y) (by simp); have c2 := H.get (b := w.heap.size + 1) (o := 0) (v := .int .i64 x2) (by simp); have c3 := H.get (b := w.heap.size + 1) (o := 1) (v := .int .i64 y2) (by simp); have c4 := H.get (b := w.heap.size + 2) (o := 0) (v := .int .i64 0) (by simp); have c5 := H.get (b := w.heap.size + 2) (o := 1) (v := .int .i64 0) (by simp); have z0 := H.fz (b := w.heap.size + 2) (o := 0) (v := .int .i64 0) (by simp); have z1 := H.fz (b := w.heap.size + 2) (o := 1) (v := .int .i64 0) (by simp); obtain ⟨gs, g0, g1, gz⟩ := Gq.all (Gv.below hG H.below)) | (go_at_call 157; refine (hro _).mono ?_; rintro e w' ⟨rfl, hcc, hcl, hb⟩; replace H := H.call hb; have c0 := H.get (b := w.heap.size) (o := 0) (v := .int .i64 x) (by simp); have c1 := H.get (b := w.heap.size) (o := 1) (v := .int .i64 y) (by simp); have c2 := H.get (b := w.heap.size + 1) (o := 0) (v := .int .i64 x2) (by simp); have c3 := H.get (b := w.heap.size + 1) (o := 1) (v := .int .i64 y2) (by simp); have c4 := H.get (b := w.heap.size + 2) (o := 0) (v := .int .i64 0) (by simp); have c5 := H.get (b := w.heap.size + 2) (o := 1) (v := .int .i64 0) (by simp); have z0 := H.fz (b := w.heap.size + 2) (o := 0) (v := .int .i64 0) (by simp); have z1 := H.fz (b := w.heap.size + 2) (o := 1) (v := .int .i64 0) (by simp); obtain ⟨gs, g0, g1, gz⟩ := Gq.all (Gv.below hG H.below)) | (go_at_call 208; refine (hcall _ (Gv.below hG H.below) (Gv.below hS H.below)).mono ?_; rintro e w' ⟨rfl, hb⟩; replace H := H.call hb; have c0 := H.get (b := w.heap.size) (o := 0) (v := .int .i64 x) (by simp); have c1 := H.get (b := w.heap.size) (o := 1) (v := .int .i64 y) (by simp); have c2 := H.get (b := w.heap.size + 1) (o := 0) (v := .int .i64 x2) (by simp); have c3 := H.get (b := w.heap.size + 1) (o := 1) (v := .int .i64 y2) (by simp); have c4 := H.get (b := w.heap.size + 2) (o := 0) (v := .int .i64 0) (by simp); have c5 := H.get (b := w.heap.size + 2) (o := 1) (v := .int .i64 0) (by simp); have z0 := H.fz (b := w.heap.size + 2) (o := 0) (v := .int .i64 0) (by simp); have z1 := H.fz (b := w.heap.size + 2) (o := 1) (v := .int .i64 0) (by simp)))
    obtain ⟨f0, f1, fb⟩ := H.fill (b := w.heap.size + 2) (x := .int .i64 0) (y := .int .i64 0) (by simp) (by simp) (by omega) (.int .i64 q.1) (.int .i64 q.2)
    refine bodyPost_ret (results_two rfl _ _ (w.heap.size + 2) (.int .i64 q.1) (.int .i64 q.2) _ rfl f0 f1 Tryd.underlying26 rfl (by kernel_rfl)) rfl ?_
    exact ⟨rfl, fb⟩
set_option maxRecDepth 100000 in
set_option maxHeartbeats 4000000 in
theorem iDo_9out (x y y2 : Int) (h : qOk (x, y) = true) (h2 : qOk (0, y2) = true) (hx1 : x ≠ 0) (hs0 : inB y2 0 31 = false) (w : World) (hG : Gq w) (hS : Gv w 4 (0, 31)) :
    Calls Tryd.prog 80 #[.int .i64 9, .agg #[.int .i64 x, .int .i64 y], .agg #[.int .i64 0, .int .i64 y2]] w fun e w' => e = .returned (.agg #[.int .i64 (do9 9 (x, y) (0, y2)).1, .int .i64 (do9 9 (x, y) (0, y2)).2]) ∧ Below w.heap.size w w' := by
  have hs : ¬ (0 ≤ y2 ∧ y2 ≤ 31) := (inB_not _ _ _).1 hs0
  have hef := eql_func
  have hen := eql_nil
  have hrf := eqlR_func
  have hrn := eqlR_nil
  have e : do9 9 (x, y) (0, y2) = (1, 0) := by
    unfold do9
    rw [if_neg (by simp [h, h2]; decide), if_neg (by simp [hx1])]
    simp [hs0, all9]
  rw [e]
  have hcall : ∀ w1 : World, Gq w1 → Gv w1 4 (0, 31) → Calls Tryd.prog 208 #[.agg #[.int .i64 x, .int .i64 y], .agg #[.int .i64 0, .int .i64 y2]] w1 fun e w' => e = .returned (.agg #[.int .i64 ((1, 0) : T9).1, .int .i64 ((1, 0) : T9).2]) ∧ Below w1.heap.size w1 w' := fun w1 hg hs2 => shiftR_out x y y2 w1 hg hs2 hs
  generalize ((1, 0) : T9) = q at *
  have ho : inB 9 1 13 = true := by decide
  have hop : ∀ w1 : World, Calls Tryd.prog 119 #[.int .i64 9] w1 fun e w' => e = .returned (.func (Fn.func (kOf 9)) #[] #[]) ∧ Below w1.heap.size w1 w' := fun w1 => oper_any 9 ho w1
  have hro : ∀ w1 : World, Calls Tryd.prog 157 #[.int .i64 9] w1 fun e w' => e = .returned (.func (Fn.func 208) #[] #[]) ∧ w'.cell? ⟨w1.heap.size, 0, none⟩ = some (.int .i64 0) ∧ w1.heap.size < w'.heap.size ∧ Below w1.heap.size w1 w' := fun w1 => restOper_9 w1
  generalize kOf 9 = K at *
  obtain ⟨W, hW, H⟩ := Hd.three w (.int .i64 x) (.int .i64 y) (.int .i64 0) (.int .i64 y2) (.int .i64 0) (.int .i64 0) 26 26 26
  have hdx : decide (x = 0) = false := by simp [hx1]
  have hdy : decide (x = 0) = false := hdx
  go_enter Tryd.func80, Tryd.ntmps80
  go_wp2_with fail
  rw [← hW]
  clear hW
  have c0 := H.get (b := w.heap.size) (o := 0) (v := .int .i64 x) (by simp)
  have c1 := H.get (b := w.heap.size) (o := 1) (v := .int .i64 y) (by simp)
  have c2 := H.get (b := w.heap.size + 1) (o := 0) (v := .int .i64 0) (by simp)
  have c3 := H.get (b := w.heap.size + 1) (o := 1) (v := .int .i64 y2) (by simp)
  have c4 := H.get (b := w.heap.size + 2) (o := 0) (v := .int .i64 0) (by simp)
  have c5 := H.get (b := w.heap.size + 2) (o := 1) (v := .int .i64 0) (by simp)
  have z0 := H.fz (b := w.heap.size + 2) (o := 0) (v := .int .i64 0) (by simp)
  have z1 := H.fz (b := w.heap.size + 2) (o := 1) (v := .int .i64 0) (by simp)
  obtain ⟨gs, g0, g1, gz⟩ := Gq.all (Gv.below hG H.below)
  go_wp2_with (first | (go_at_call 119; refine (hop _).mono ?_; rintro e w' ⟨rfl, hb⟩; replace H := H.call hb; have c0 := H.get (b := w.heap.size) (o := 0) (v := .int .i64 x) (by simp); have c1 := H.get (b := w.heap.size) (o := 1) (v := .int .i64 y) (by simp); have c2 := H.get (b := w.heap.size + 1) (o := 0) (v := .int .i64 0) (by simp); have c3 := H.get (b := w.heap.size + 1) (o := 1) (v := .int .i64 y2) (by simp); have c4 := H.get (b := w.heap.size + 2) (o := 0) (v := .int .i64 0) (by simp); have c5 := H.get (b := w.heap.size + 2) (o := 1) (v := .int .i64 0) (by simp); have z0 := H.fz (b := w.heap.size + 2) (o := 0) (v := .int .i64 0) (by simp); have z1 := H.fz (b := w.heap.size + 2) (o := 1) (v := .int .i64 0) (by simp); obtain ⟨gs, g0, g1, gz⟩ := Gq.all (Gv.below hG H.below)) | (go_at_call 77; refine (iRestOk_xy _ _ _).mono ?_; rintro e w' ⟨rfl, hb⟩; (first | rw [h] | rw [h2]); replace H := H.call hb; have c0 := H.get (b := w.heap.size) (o := 0) (v := .int .i64 x) (by simp); have c1 := H.get (b := w.heap.size) (o := 1) (v := .int .i64 y) (by simp); have c2 := H.get (b := w.heap.size + 1) (o := 0) (v := .int .i64 0) (by simp); have c3 := H.get (b := w.heap.size + 1) (o := 1) (v := .int .i64 y2) (by simp); have c4 := H.get (b := w.heap.size + 2) (o := 0) (v := .int .i64 0) (by simp); have c5 := H.get (b := w.heap.size + 2) (o := 1) (v := .int .i64 0) (by simp); have z0 := H.fz (b := w.heap.size + 2) (o := 0) (v := .int .i64 0) (by simp); have z1 := H.fz (b := w.heap.size + 2) (o := 1) (v := .int .i64 0) (by simp); obtain ⟨gs, g0, g1, gz⟩ := Gq.all (Gv.below hG H.below)) | (go_at_call 149; refine (single_xy _ _ _).mono ?_; rintro e w' ⟨rfl, hb⟩; (first | rw [hdx] | rw [hdy] | simp only [decide_true]); replace H := H.call hb; have c0 := H.get (b := w.heap.size) (o := 0) (v := .int .i64 x) (by simp); have c1 := H.get (b := w.heap.size) (o := 1) (v := .int .i64 y) (by simp); have c2 := H.get (b := w.heap.size + 1) (o := 0) (v := .int .i64 0) (by simp); have c3 := H.get (b := w.heap.size + 1) (o := 1) (v := .int .i64 y2) (by simp); have c4 := H.get (b := w.heap.size + 2) (o := 0) (v := .int .i64 0) (by simp); have c5 := H.get (b := w.heap.size + 2) (o := 1) (v := .int .i64 0) (by simp); have z0 := H.fz (b := w.heap.size + 2) (o := 0) (v := .int .i64 0) (by simp); have z1 := H.fz (b := w.heap.size + 2) (o := 1) (v := .int .i64 0) (by simp); obtain ⟨gs, g0, g1, gz⟩ := Gq.all (Gv.below hG H.below)) | (go_at_call 157; refine (hro _).mono ?_; rintro e w' ⟨rfl, hcc, hcl, hb⟩; replace H := H.call hb; have c0 := H.get (b := w.heap.size) (o := 0) (v := .int .i64 x) (by simp); have c1 := H.get (b := w.heap.size) (o := 1) (v := .int .i64 y) (by simp); have c2 := H.get (b := w.heap.size + 1) (o := 0) (v := .int .i64 0) (by simp); have c3 := H.get (b := w.heap.size + 1) (o := 1) (v := .int .i64 y2) (by simp); have c4 := H.get (b := w.heap.size + 2) (o := 0) (v := .int .i64 0) (by simp); have c5 := H.get (b := w.heap.size + 2) (o := 1) (v := .int .i64 0) (by simp); have z0 := H.fz (b := w.heap.size + 2) (o := 0) (v := .int .i64 0) (by simp); have z1 := H.fz (b := w.heap.size + 2) (o := 1) (v := .int .i64 0) (by simp); obtain ⟨gs, g0, g1, gz⟩ := Gq.all (Gv.below hG H.below)) | (go_at_call 208; refine (hcall _ (Gv.below hG H.below) (Gv.below hS H.below)).mono ?_; rintro e w' ⟨rfl, hb⟩; replace H := H.call hb; have c0 := H.get (b := w.heap.size) (o := 0) (v := .int .i64 x) (by simp); have c1 := H.get (b := w.heap.size) (o := 1) (v := .int .i64 y) (by simp); have c2 := H.get (b := w.heap.size + 1) (o := 0) (v := .int .i64 0) (by simp); have c3 := H.get (b := w.heap.size + 1) (o := 1) (v := .int .i64 y2) (by simp); have c4 := H.get (b := w.heap.size + 2) (o := 0) (v := .int .i64 0) (by simp); have c5 := H.get (b := w.heap.size + 2) (o := 1) (v := .int .i64 0) (by simp); have z0 := H.fz (b := w.heap.size + 2) (o := 0) (v := .int .i64 0) (by simp); have z1 := H.fz (b := w.heap.size + 2) (o := 1) (v := .int .i64 0) (by simp)))
  obtain ⟨f0, f1, fb⟩ := H.fill (b := w.heap.size + 2) (x := .int .i64 0) (y := .int .i64 0) (by simp) (by simp) (by omega) (.int .i64 q.1) (.int .i64 q.2)
  refine bodyPost_ret (results_two rfl _ _ (w.heap.size + 2) (.int .i64 q.1) (.int .i64 q.2) _ rfl f0 f1 Tryd.underlying26 rfl (by kernel_rfl)) rfl ?_
  exact ⟨rfl, fb⟩
set_option maxRecDepth 100000 in
set_option maxHeartbeats 4000000 in
theorem iDo_9in (x y y2 : Int) (h : qOk (x, y) = true) (h2 : qOk (0, y2) = true) (hx1 : x ≠ 0) (hs0 : inB y2 0 31 = true) (w : World) (hG : Gq w) (hS : Gv w 4 (0, 31)) :
    Calls Tryd.prog 80 #[.int .i64 9, .agg #[.int .i64 x, .int .i64 y], .agg #[.int .i64 0, .int .i64 y2]] w fun e w' => e = .returned (.agg #[.int .i64 (do9 9 (x, y) (0, y2)).1, .int .i64 (do9 9 (x, y) (0, y2)).2]) ∧ Below w.heap.size w w' := by
  have hs : (0 ≤ y2 ∧ y2 ≤ 31) := (inB_iff _ _ _).1 hs0
  have hef := eql_func
  have hen := eql_nil
  have hrf := eqlR_func
  have hrn := eqlR_nil
  have e : do9 9 (x, y) (0, y2) = make9 (x * 2 ^ y2.toNat) (y * 2 ^ y2.toNat) := by
    unfold do9
    rw [if_neg (by simp [h, h2]; decide), if_neg (by simp [hx1])]
    simp [hs0]
  rw [e]
  have hcall : ∀ w1 : World, Gq w1 → Gv w1 4 (0, 31) → Calls Tryd.prog 208 #[.agg #[.int .i64 x, .int .i64 y], .agg #[.int .i64 0, .int .i64 y2]] w1 fun e w' => e = .returned (.agg #[.int .i64 (make9 (x * 2 ^ y2.toNat) (y * 2 ^ y2.toNat)).1, .int .i64 (make9 (x * 2 ^ y2.toNat) (y * 2 ^ y2.toNat)).2]) ∧ Below w1.heap.size w1 w' := fun w1 hg hs2 => shiftR_in x y y2 w1 hg hs2 hs h
  generalize (make9 (x * 2 ^ y2.toNat) (y * 2 ^ y2.toNat)) = q at *
  have ho : inB 9 1 13 = true := by decide
  have hop : ∀ w1 : World, Calls Tryd.prog 119 #[.int .i64 9] w1 fun e w' => e = .returned (.func (Fn.func (kOf 9)) #[] #[]) ∧ Below w1.heap.size w1 w' := fun w1 => oper_any 9 ho w1
  have hro : ∀ w1 : World, Calls Tryd.prog 157 #[.int .i64 9] w1 fun e w' => e = .returned (.func (Fn.func 208) #[] #[]) ∧ w'.cell? ⟨w1.heap.size, 0, none⟩ = some (.int .i64 0) ∧ w1.heap.size < w'.heap.size ∧ Below w1.heap.size w1 w' := fun w1 => restOper_9 w1
  generalize kOf 9 = K at *
  obtain ⟨W, hW, H⟩ := Hd.three w (.int .i64 x) (.int .i64 y) (.int .i64 0) (.int .i64 y2) (.int .i64 0) (.int .i64 0) 26 26 26
  have hdx : decide (x = 0) = false := by simp [hx1]
  have hdy : decide (x = 0) = false := hdx
  go_enter Tryd.func80, Tryd.ntmps80
  go_wp2_with fail
  rw [← hW]
  clear hW
  have c0 := H.get (b := w.heap.size) (o := 0) (v := .int .i64 x) (by simp)
  have c1 := H.get (b := w.heap.size) (o := 1) (v := .int .i64 y) (by simp)
  have c2 := H.get (b := w.heap.size + 1) (o := 0) (v := .int .i64 0) (by simp)
  have c3 := H.get (b := w.heap.size + 1) (o := 1) (v := .int .i64 y2) (by simp)
  have c4 := H.get (b := w.heap.size + 2) (o := 0) (v := .int .i64 0) (by simp)
  have c5 := H.get (b := w.heap.size + 2) (o := 1) (v := .int .i64 0) (by simp)
  have z0 := H.fz (b := w.heap.size + 2) (o := 0) (v := .int .i64 0) (by simp)
  have z1 := H.fz (b := w.heap.size + 2) (o := 1) (v := .int .i64 0) (by simp)
  obtain ⟨gs, g0, g1, gz⟩ := Gq.all (Gv.below hG H.below)
  go_wp2_with (first | (go_at_call 119; refine (hop _).mono ?_; rintro e w' ⟨rfl, hb⟩; replace H := H.call hb; have c0 := H.get (b := w.heap.size) (o := 0) (v := .int .i64 x) (by simp); have c1 := H.get (b := w.heap.size) (o := 1) (v := .int .i64 y) (by simp); have c2 := H.get (b := w.heap.size + 1) (o := 0) (v := .int .i64 0) (by simp); have c3 := H.get (b := w.heap.size + 1) (o := 1) (v := .int .i64 y2) (by simp); have c4 := H.get (b := w.heap.size + 2) (o := 0) (v := .int .i64 0) (by simp); have c5 := H.get (b := w.heap.size + 2) (o := 1) (v := .int .i64 0) (by simp); have z0 := H.fz (b := w.heap.size + 2) (o := 0) (v := .int .i64 0) (by simp); have z1 := H.fz (b := w.heap.size + 2) (o := 1) (v := .int .i64 0) (by simp); obtain ⟨gs, g0, g1, gz⟩ := Gq.all (Gv.below hG H.below)) | (go_at_call 77; refine (iRestOk_xy _ _ _).mono ?_; rintro e w' ⟨rfl, hb⟩; (first | rw [h] | rw [h2]); replace H := H.call hb; have c0 := H.get (b := w.heap.size) (o := 0) (v := .int .i64 x) (by simp); have c1 := H.get (b := w.heap.size) (o := 1) (v := .int .i64 y) (by simp); have c2 := H.get (b := w.heap.size + 1) (o := 0) (v := .int .i64 0) (by simp); have c3 := H.get (b := w.heap.size + 1) (o := 1) (v := .int .i64 y2) (by simp); have c4 := H.get (b := w.heap.size + 2) (o := 0) (v := .int .i64 0) (by simp); have c5 := H.get (b := w.heap.size + 2) (o := 1) (v := .int .i64 0) (by simp); have z0 := H.fz (b := w.heap.size + 2) (o := 0) (v := .int .i64 0) (by simp); have z1 := H.fz (b := w.heap.size + 2) (o := 1) (v := .int .i64 0) (by simp); obtain ⟨gs, g0, g1, gz⟩ := Gq.all (Gv.below hG H.below)) | (go_at_call 149; refine (single_xy _ _ _).mono ?_; rintro e w' ⟨rfl, hb⟩; (first | rw [hdx] | rw [hdy] | simp only [decide_true]); replace H := H.call hb; have c0 := H.get (b := w.heap.size) (o := 0) (v := .int .i64 x) (by simp); have c1 := H.get (b := w.heap.size) (o := 1) (v := .int .i64 y) (by simp); have c2 := H.get (b := w.heap.size + 1) (o := 0) (v := .int .i64 0) (by simp); have c3 := H.get (b := w.heap.size + 1) (o := 1) (v := .int .i64 y2) (by simp); have c4 := H.get (b := w.heap.size + 2) (o := 0) (v := .int .i64 0) (by simp); have c5 := H.get (b := w.heap.size + 2) (o := 1) (v := .int .i64 0) (by simp); have z0 := H.fz (b := w.heap.size + 2) (o := 0) (v := .int .i64 0) (by simp); have z1 := H.fz (b := w.heap.size + 2) (o := 1) (v := .int .i64 0) (by simp); obtain ⟨gs, g0, g1, gz⟩ := Gq.all (Gv.below hG H.below)) | (go_at_call 157; refine (hro _).mono ?_; rintro e w' ⟨rfl, hcc, hcl, hb⟩; replace H := H.call hb; have c0 := H.get (b := w.heap.size) (o := 0) (v := .int .i64 x) (by simp); have c1 := H.get (b := w.heap.size) (o := 1) (v := .int .i64 y) (by simp); have c2 := H.get (b := w.heap.size + 1) (o := 0) (v := .int .i64 0) (by simp); have c3 := H.get (b := w.heap.size + 1) (o := 1) (v := .int .i64 y2) (by simp); have c4 := H.get (b := w.heap.size + 2) (o := 0) (v := .int .i64 0) (by simp); have c5 := H.get (b := w.heap.size + 2) (o := 1) (v := .int .i64 0) (by simp); have z0 := H.fz (b := w.heap.size + 2) (o := 0) (v := .int .i64 0) (by simp); have z1 := H.fz (b := w.heap.size + 2) (o := 1) (v := .int .i64 0) (by simp); obtain ⟨gs, g0, g1, gz⟩ := Gq.all (Gv.below hG H.below)) | (go_at_call 208; refine (hcall _ (Gv.below hG H.below) (Gv.below hS H.below)).mono ?_; rintro e w' ⟨rfl, hb⟩; replace H := H.call hb; have c0 := H.get (b := w.heap.size) (o := 0) (v := .int .i64 x) (by simp); have c1 := H.get (b := w.heap.size) (o := 1) (v := .int .i64 y) (by simp); have c2 := H.get (b := w.heap.size + 1) (o := 0) (v := .int .i64 0) (by simp); have c3 := H.get (b := w.heap.size + 1) (o := 1) (v := .int .i64 y2) (by simp); have c4 := H.get (b := w.heap.size + 2) (o := 0) (v := .int .i64 0) (by simp); have c5 := H.get (b := w.heap.size + 2) (o := 1) (v := .int .i64 0) (by simp); have z0 := H.fz (b := w.heap.size + 2) (o := 0) (v := .int .i64 0) (by simp); have z1 := H.fz (b := w.heap.size + 2) (o := 1) (v := .int .i64 0) (by simp)))
  obtain ⟨f0, f1, fb⟩ := H.fill (b := w.heap.size + 2) (x := .int .i64 0) (y := .int .i64 0) (by simp) (by simp) (by omega) (.int .i64 q.1) (.int .i64 q.2)
  refine bodyPost_ret (results_two rfl _ _ (w.heap.size + 2) (.int .i64 q.1) (.int .i64 q.2) _ rfl f0 f1 Tryd.underlying26 rfl (by kernel_rfl)) rfl ?_
  exact ⟨rfl, fb⟩
theorem iDo_xy (op x y x2 y2 : Int) (w : World) (hG : Gq w) (hS : Gv w 4 (0, 31)) :
    Calls Tryd.prog 80 #[.int .i64 op, .agg #[.int .i64 x, .int .i64 y], .agg #[.int .i64 x2, .int .i64 y2]] w fun e w' => e = .returned (.agg #[.int .i64 (do9 op (x, y) (x2, y2)).1, .int .i64 (do9 op (x, y) (x2, y2)).2]) ∧ Below w.heap.size w w' := by
  by_cases hbad : inB op 1 13 = false ∨ qOk (x, y) = false ∨ qOk (x2, y2) = false
  · exact iDo_bad op x y x2 y2 hbad w hG
  · have ho : inB op 1 13 = true := by cases hh : inB op 1 13; (exact absurd (.inl hh) hbad); rfl
    have h : qOk (x, y) = true := by cases hh : qOk (x, y); (exact absurd (.inr (.inl hh)) hbad); rfl
    have h2 : qOk (x2, y2) = true := by cases hh : qOk (x2, y2); (exact absurd (.inr (.inr hh)) hbad); rfl
    by_cases hab : x = 0 ∧ x2 = 0
    · obtain ⟨rfl, rfl⟩ := hab
      exact iDo_single op y y2 ho h h2 w hG
    · rcases op_cases op ho with rfl | rfl | rfl | rfl | rfl | rfl | rfl | rfl | rfl | rfl | rfl | rfl | rfl
      · exact iDo_1 x y x2 y2 h h2 hab w hG
      · exact iDo_2 x y x2 y2 h h2 hab w hG
      · by_cases hz : apart9 (x, y) (x2, y2) = 0
        · exact iDo_3z x y x2 y2 h h2 hab w hG hz
        · exact iDo_3n x y x2 y2 h h2 hab w hG hz
      · exact iDo_4 x y x2 y2 h h2 hab w hG
      · exact iDo_5 x y x2 y2 h h2 hab w hG
      · exact iDo_6 x y x2 y2 h h2 hab w hG
      · exact iDo_7 x y x2 y2 h h2 hab w hG
      · exact iDo_8 x y x2 y2 h h2 hab w hG
      · by_cases hx2 : x2 = 0
        · subst hx2
          have hx0 : x ≠ 0 := fun e => hab ⟨e, rfl⟩
          cases hs0 : inB y2 0 31
          · exact iDo_9out x y y2 h h2 hx0 hs0 w hG hS
          · exact iDo_9in x y y2 h h2 hx0 hs0 w hG hS
        · exact iDo_9rest x y x2 y2 h h2 hab w hG hS hx2
      · exact iDo_10 x y x2 y2 h h2 hab w hG
      · exact iDo_11 x y x2 y2 h h2 hab w hG
      · exact iDo_12 x y x2 y2 h h2 hab w hG
      · by_cases hz : apart9 (x, y) (x2, y2) = 0
        · exact iDo_13z x y x2 y2 h h2 hab w hG hz
        · exact iDo_13n x y x2 y2 h h2 hab w hG hz
end Go.Proofs.YthbbgkpkijlclaaDoor.num
