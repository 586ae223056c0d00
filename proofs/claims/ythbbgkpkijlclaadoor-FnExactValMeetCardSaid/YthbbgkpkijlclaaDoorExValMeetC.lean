/-
  For every arguments the law FnExactValMeet returns true and writes nothing that was there; the walks of both ValMeets are laid here too.
-/
import Derived.Test.YthbbgkpkijlclaaDoorLB
import Derived.Test.YthbbgkpkijlclaaDoorVc
import Derived.Test.YthbbgkpkijlclaaDoorRg10
import Derived.Test.YthbbgkpkijlclaaDoorUM
import Derived.Test.YthbbgkpkijlclaaDoorMA
import Derived.Test.YthbbgkpkijlclaaDoorRg10
import Derived.SevenTiedAt
import Derived.Stop.LaidErr
import Derived.ShutString
import Derived.ChangeOld
import Derived.Below
import Derived.Test.YthbbgkpkijlclaaDoorKc
import Derived.Test.YthbbgkpkijlclaaDoorTie
import Derived.Test.YthbbgkpkijlclaaDoorCards
namespace Go.Proofs.YthbbgkpkijlclaaDoor.num
open Go.ChangeShapes Go.WideShapes Go.ChangeAt Go.RowKit
set_option linter.unusedVariables false

set_option maxRecDepth 100000 in
set_option maxHeartbeats 4000000 in
theorem sVMeet_no (x y m t x2 y2 m2 t2 : Int) (h : ok10 (x, y, m, t) = true) (h2 : ok10 (x2, y2, m2, t2) = true) (e1 : ((x, y, m, t) : V10) ≠ (1, 0, 0, 0)) (e2 : ((x2, y2, m2, t2) : V10) ≠ (1, 0, 0, 0)) (hm : (meet9 (m, t) (m2, t2)).2 = false) (w : World) :
    Calls Tryd.prog 35 #[.agg #[.int .i64 x, .int .i64 y, .int .i64 m, .int .i64 t], .agg #[.int .i64 x2, .int .i64 y2, .int .i64 m2, .int .i64 t2]] w fun e w' => e = .returned (.agg #[.int .i64 (meet10 (x, y, m, t) (x2, y2, m2, t2)).1, .int .i64 (meet10 (x, y, m, t) (x2, y2, m2, t2)).2.1, .int .i64 (meet10 (x, y, m, t) (x2, y2, m2, t2)).2.2.1, .int .i64 (meet10 (x, y, m, t) (x2, y2, m2, t2)).2.2.2]) ∧ Below w.heap.size w w' := by
  have s1 : some10 (x, y, m, t) = true := (some10_iff _).2 ⟨h, e1⟩
  have s2 : some10 (x2, y2, m2, t2) = true := (some10_iff _).2 ⟨h2, e2⟩
  have e : meet10 (x, y, m, t) (x2, y2, m2, t2) = none10 := by
    unfold meet10
    rw [if_neg (by simp [s1, s2]), if_neg]
    rw [show meet9 (rst (x, y, m, t)) (rst (x2, y2, m2, t2)) = meet9 (m, t) (m2, t2) from rfl, hm]; simp
  rw [e]
  clear e s1 s2
  have hq1 := @ne4_if x y m t 1 0 0 0 e1
  have hq2 := @ne4_if x2 y2 m2 t2 1 0 0 0 e2
  have hT := fun w => sMeet_xy m t m2 t2 w
  generalize meet9 (m, t) (m2, t2) = r at *
  obtain ⟨⟨r1, r2⟩, r3⟩ := r
  simp only at hm
  subst hm
  simp only [mv9] at hT
  obtain ⟨W, hW, H⟩ : ∃ W, W = ((w.alloc (.cells #[.int .i64 x, .int .i64 y, .int .i64 m, .int .i64 t] 30)).alloc (.cells #[.int .i64 x2, .int .i64 y2, .int .i64 m2, .int .i64 t2] 30)).alloc (.cells #[.int .i64 0, .int .i64 0, .int .i64 0, .int .i64 0] 30) ∧ Hd w [(w.heap.size + 2, 0, .int .i64 0), (w.heap.size + 2, 1, .int .i64 0), (w.heap.size + 2, 2, .int .i64 0), (w.heap.size + 2, 3, .int .i64 0), (w.heap.size + 1, 0, .int .i64 x2), (w.heap.size + 1, 1, .int .i64 y2), (w.heap.size + 1, 2, .int .i64 m2), (w.heap.size + 1, 3, .int .i64 t2), (w.heap.size, 0, .int .i64 x), (w.heap.size, 1, .int .i64 y), (w.heap.size, 2, .int .i64 m), (w.heap.size, 3, .int .i64 t)] W := ⟨_, rfl, by
    have h := ((((Hd.start w).box4 (.int .i64 x) (.int .i64 y) (.int .i64 m) (.int .i64 t) 30).box4 (.int .i64 x2) (.int .i64 y2) (.int .i64 m2) (.int .i64 t2) 30).box4 (.int .i64 0) (.int .i64 0) (.int .i64 0) (.int .i64 0) 30)
    simp only [size_alloc1] at h
    exact h⟩
  go_enter Tryd.func35, Tryd.ntmps35
  go_wp2_with fail
  rw [← hW]
  clear hW
  have k0 := fun p : Over _ => H.over (b := w.heap.size) (o := 0) (v := .int .i64 x) (by simp) p
  have k1 := fun p : Over _ => H.over (b := w.heap.size) (o := 1) (v := .int .i64 y) (by simp) p
  have k2 := fun p : Over _ => H.over (b := w.heap.size) (o := 2) (v := .int .i64 m) (by simp) p
  have k3 := fun p : Over _ => H.over (b := w.heap.size) (o := 3) (v := .int .i64 t) (by simp) p
  have k4 := fun p : Over _ => H.over (b := w.heap.size + 1) (o := 0) (v := .int .i64 x2) (by simp) p
  have k5 := fun p : Over _ => H.over (b := w.heap.size + 1) (o := 1) (v := .int .i64 y2) (by simp) p
  have k6 := fun p : Over _ => H.over (b := w.heap.size + 1) (o := 2) (v := .int .i64 m2) (by simp) p
  have k7 := fun p : Over _ => H.over (b := w.heap.size + 1) (o := 3) (v := .int .i64 t2) (by simp) p
  have k8 := fun p : Over _ => H.over (b := w.heap.size + 2) (o := 0) (v := .int .i64 0) (by simp) p
  have k9 := fun p : Over _ => H.over (b := w.heap.size + 2) (o := 1) (v := .int .i64 0) (by simp) p
  have k10 := fun p : Over _ => H.over (b := w.heap.size + 2) (o := 2) (v := .int .i64 0) (by simp) p
  have k11 := fun p : Over _ => H.over (b := w.heap.size + 2) (o := 3) (v := .int .i64 0) (by simp) p
  refine wp_region_over (by kernel_rfl) (by kernel_rfl) ?_
  repeat (go_big_quiet_step (first | (go_at_call 37; rename_i p; refine (sVOk_xy _ _ _ _ _).mono ?_; rintro e' w' ⟨rfl, hb1⟩; exact ⟨by (first | rw [h] | rw [h2]), p.next hb1⟩) | (go_at_call 90; rename_i p; refine (l10None_any _).mono ?_; rintro e' w' ⟨rfl, hb1⟩; exact ⟨rfl, p.next hb1⟩)))
  refine wpQuiet_nil ?_
  rintro _ ⟨p, rfl⟩
  replace H := H.call p.below
  clear k0 k1 k2 k3 k4 k5 k6 k7 k8 k9 k10 k11
  generalize p.w = w3 at *
  clear p
  go_wp2_with fail
  have c0 := H.get (b := w.heap.size) (o := 0) (v := .int .i64 x) (by simp)
  have c1 := H.get (b := w.heap.size) (o := 1) (v := .int .i64 y) (by simp)
  have c2 := H.get (b := w.heap.size) (o := 2) (v := .int .i64 m) (by simp)
  have c3 := H.get (b := w.heap.size) (o := 3) (v := .int .i64 t) (by simp)
  have c4 := H.get (b := w.heap.size + 1) (o := 0) (v := .int .i64 x2) (by simp)
  have c5 := H.get (b := w.heap.size + 1) (o := 1) (v := .int .i64 y2) (by simp)
  have c6 := H.get (b := w.heap.size + 1) (o := 2) (v := .int .i64 m2) (by simp)
  have c7 := H.get (b := w.heap.size + 1) (o := 3) (v := .int .i64 t2) (by simp)
  have l0 := H.lt (b := w.heap.size) (o := 0) (v := .int .i64 x) (by simp)
  have l1 := H.lt (b := w.heap.size + 1) (o := 0) (v := .int .i64 x2) (by simp)
  have l2 := H.lt (b := w.heap.size + 2) (o := 0) (v := .int .i64 0) (by simp)
  go_cut [5, 6] from 5 (fun t5 t6 wx => ∃ g, t5 = .pointer (some ⟨g, 0, none⟩) ∧ t6 = .bool false ∧ w.heap.size + 2 < g ∧ Hd w ((g, 0, .int .i64 r1) :: (g, 1, .int .i64 r2) :: [(w.heap.size + 2, 0, .int .i64 0), (w.heap.size + 2, 1, .int .i64 0), (w.heap.size + 2, 2, .int .i64 0), (w.heap.size + 2, 3, .int .i64 0), (w.heap.size + 1, 0, .int .i64 x2), (w.heap.size + 1, 1, .int .i64 y2), (w.heap.size + 1, 2, .int .i64 m2), (w.heap.size + 1, 3, .int .i64 t2), (w.heap.size, 0, .int .i64 x), (w.heap.size, 1, .int .i64 y), (w.heap.size, 2, .int .i64 m), (w.heap.size, 3, .int .i64 t)]) wx)
  case first =>
    go_region_held3 (fun w' => w'.cell? ⟨w.heap.size, 0, none⟩ = some (.int .i64 x) ∧ w'.cell? ⟨w.heap.size, 1, none⟩ = some (.int .i64 y) ∧ w'.cell? ⟨w.heap.size, 2, none⟩ = some (.int .i64 m) ∧ w'.cell? ⟨w.heap.size, 3, none⟩ = some (.int .i64 t) ∧ w'.cell? ⟨w.heap.size + 1, 0, none⟩ = some (.int .i64 x2) ∧ w'.cell? ⟨w.heap.size + 1, 1, none⟩ = some (.int .i64 y2) ∧ w'.cell? ⟨w.heap.size + 1, 2, none⟩ = some (.int .i64 m2) ∧ w'.cell? ⟨w.heap.size + 1, 3, none⟩ = some (.int .i64 t2)) (first | exact ⟨c0, c1, c2, c3, c4, c5, c6, c7⟩ | (simp [go_sem, *]; done)) (first | (go_at_call 105; refine (l10Rest_xy _ _ _ _ _).mono ?_; rintro e w' ⟨rfl, hb⟩; (first | (replace H := H.call hb) | (replace H := (H.drewN 1).call hb) | (replace H := (H.box _ _ _).call hb) | (replace H := ((H.box _ _ _).drewN 1).call hb) | (replace H := ((H.drewN 1).box _ _ _).call hb)); obtain ⟨n0, n1, n2, n3, n4⟩ := H.top; have c0 := H.get (b := w.heap.size) (o := 0) (v := .int .i64 x) (by simp); have c1 := H.get (b := w.heap.size) (o := 1) (v := .int .i64 y) (by simp); have c2 := H.get (b := w.heap.size) (o := 2) (v := .int .i64 m) (by simp); have c3 := H.get (b := w.heap.size) (o := 3) (v := .int .i64 t) (by simp); have c4 := H.get (b := w.heap.size + 1) (o := 0) (v := .int .i64 x2) (by simp); have c5 := H.get (b := w.heap.size + 1) (o := 1) (v := .int .i64 y2) (by simp); have c6 := H.get (b := w.heap.size + 1) (o := 2) (v := .int .i64 m2) (by simp); have c7 := H.get (b := w.heap.size + 1) (o := 3) (v := .int .i64 t2) (by simp); have l0 := H.lt (b := w.heap.size) (o := 0) (v := .int .i64 x) (by simp); have l1 := H.lt (b := w.heap.size + 1) (o := 0) (v := .int .i64 x2) (by simp); have l2 := H.lt (b := w.heap.size + 2) (o := 0) (v := .int .i64 0) (by simp)) | (go_at_call 73; refine (hT _).mono ?_; rintro e w' ⟨rfl, hb⟩; (first | (replace H := H.call hb) | (replace H := (H.drewN 1).call hb) | (replace H := (H.box _ _ _).call hb) | (replace H := ((H.box _ _ _).drewN 1).call hb) | (replace H := ((H.drewN 1).box _ _ _).call hb)); obtain ⟨n0, n1, n2, n3, n4⟩ := H.top; have c0 := H.get (b := w.heap.size) (o := 0) (v := .int .i64 x) (by simp); have c1 := H.get (b := w.heap.size) (o := 1) (v := .int .i64 y) (by simp); have c2 := H.get (b := w.heap.size) (o := 2) (v := .int .i64 m) (by simp); have c3 := H.get (b := w.heap.size) (o := 3) (v := .int .i64 t) (by simp); have c4 := H.get (b := w.heap.size + 1) (o := 0) (v := .int .i64 x2) (by simp); have c5 := H.get (b := w.heap.size + 1) (o := 1) (v := .int .i64 y2) (by simp); have c6 := H.get (b := w.heap.size + 1) (o := 2) (v := .int .i64 m2) (by simp); have c7 := H.get (b := w.heap.size + 1) (o := 3) (v := .int .i64 t2) (by simp); have l0 := H.lt (b := w.heap.size) (o := 0) (v := .int .i64 x) (by simp); have l1 := H.lt (b := w.heap.size + 1) (o := 0) (v := .int .i64 x2) (by simp); have l2 := H.lt (b := w.heap.size + 2) (o := 0) (v := .int .i64 0) (by simp)))
    all_goals
      go_wp2_with fail
      go_meet
      first
        | exact ⟨_, rfl, rfl, by omega, H.box _ _ _⟩
        | exact ⟨_, rfl, rfl, by omega, H.set2 (by omega) (by simp; omega) _ _⟩
  case rest =>
    obtain ⟨g, rfl, rfl, hg, H'⟩ := hcut
    clear H c0 c1 c2 c3 c4 c5 c6 c7 l0 l1 l2
    have H := H'
    clear H'
    go_wp2_with (go_at_call 90; refine (l10None_any _).mono ?_; rintro e w' ⟨rfl, hb⟩; replace H := H.call hb; clear hb; have rc0 := H.get (b := w.heap.size + 2) (o := 0) (v := .int .i64 0) (by simp); have rc1 := H.get (b := w.heap.size + 2) (o := 1) (v := .int .i64 0) (by simp); have rc2 := H.get (b := w.heap.size + 2) (o := 2) (v := .int .i64 0) (by simp); have rc3 := H.get (b := w.heap.size + 2) (o := 3) (v := .int .i64 0) (by simp); have rz0 := H.fz (b := w.heap.size + 2) (o := 0) (v := .int .i64 0) (by simp); have rz1 := H.fz (b := w.heap.size + 2) (o := 1) (v := .int .i64 0) (by simp); have rz2 := H.fz (b := w.heap.size + 2) (o := 2) (v := .int .i64 0) (by simp); have rz3 := H.fz (b := w.heap.size + 2) (o := 3) (v := .int .i64 0) (by simp))
    obtain ⟨f0, f1, f2, f3, fb⟩ := H.fill4 (b := w.heap.size + 2) (x := .int .i64 0) (y := .int .i64 0) (z := .int .i64 0) (u := .int .i64 0) (by simp) (by simp) (by simp) (by simp) (by omega) (.int .i64 1) (.int .i64 0) (.int .i64 0) (.int .i64 0)
    refine bodyPost_ret (results_four rfl _ _ (w.heap.size + 2) (.int .i64 1) (.int .i64 0) (.int .i64 0) (.int .i64 0) _ rfl f0 f1 f2 f3 Tryd.underlying30 rfl (by kernel_rfl)) rfl ?_
    exact ⟨rfl, fb⟩
end Go.Proofs.YthbbgkpkijlclaaDoor.num
namespace Go.Proofs.YthbbgkpkijlclaaDoor.num
open Go.ChangeShapes Go.WideShapes Go.ChangeAt Go.RowKit
set_option linter.unusedVariables false

set_option maxRecDepth 100000 in
set_option maxHeartbeats 4000000 in
theorem sVMeet_some (x y m t x2 y2 m2 t2 : Int) (h : ok10 (x, y, m, t) = true) (h2 : ok10 (x2, y2, m2, t2) = true) (e1 : ((x, y, m, t) : V10) ≠ (1, 0, 0, 0)) (e2 : ((x2, y2, m2, t2) : V10) ≠ (1, 0, 0, 0)) (hm : (meet9 (m, t) (m2, t2)).2 = true) (w : World) :
    Calls Tryd.prog 35 #[.agg #[.int .i64 x, .int .i64 y, .int .i64 m, .int .i64 t], .agg #[.int .i64 x2, .int .i64 y2, .int .i64 m2, .int .i64 t2]] w fun e w' => e = .returned (.agg #[.int .i64 (meet10 (x, y, m, t) (x2, y2, m2, t2)).1, .int .i64 (meet10 (x, y, m, t) (x2, y2, m2, t2)).2.1, .int .i64 (meet10 (x, y, m, t) (x2, y2, m2, t2)).2.2.1, .int .i64 (meet10 (x, y, m, t) (x2, y2, m2, t2)).2.2.2]) ∧ Below w.heap.size w w' := by
  have s1 : some10 (x, y, m, t) = true := (some10_iff _).2 ⟨h, e1⟩
  have s2 : some10 (x2, y2, m2, t2) = true := (some10_iff _).2 ⟨h2, e2⟩
  have e : meet10 (x, y, m, t) (x2, y2, m2, t2) = make10 (meet8 (x, y) (x2, y2)) (meet9 (m, t) (m2, t2)).1 := by
    unfold meet10
    rw [if_neg (by simp [s1, s2]), if_pos (show (meet9 (rst (x, y, m, t)) (rst (x2, y2, m2, t2))).2 = true from hm)]
    rfl
  rw [e]
  clear e s1 s2
  have hq1 := @ne4_if x y m t 1 0 0 0 e1
  have hq2 := @ne4_if x2 y2 m2 t2 1 0 0 0 e2
  have hT := fun w => sMeet_xy m t m2 t2 w
  generalize meet9 (m, t) (m2, t2) = r at *
  obtain ⟨⟨r1, r2⟩, r3⟩ := r
  simp only at hm ⊢
  subst hm
  simp only [mv9] at hT
  have hJ := fun w => RangeMeet_xy x y x2 y2 w
  generalize meet8 (x, y) (x2, y2) = j at *
  obtain ⟨j1, j2⟩ := j
  have hM := fun w => sMake_xy j1 j2 r1 r2 w
  generalize make10 (j1, j2) (r1, r2) = q at *
  obtain ⟨W, hW, H⟩ : ∃ W, W = ((w.alloc (.cells #[.int .i64 x, .int .i64 y, .int .i64 m, .int .i64 t] 30)).alloc (.cells #[.int .i64 x2, .int .i64 y2, .int .i64 m2, .int .i64 t2] 30)).alloc (.cells #[.int .i64 0, .int .i64 0, .int .i64 0, .int .i64 0] 30) ∧ Hd w [(w.heap.size + 2, 0, .int .i64 0), (w.heap.size + 2, 1, .int .i64 0), (w.heap.size + 2, 2, .int .i64 0), (w.heap.size + 2, 3, .int .i64 0), (w.heap.size + 1, 0, .int .i64 x2), (w.heap.size + 1, 1, .int .i64 y2), (w.heap.size + 1, 2, .int .i64 m2), (w.heap.size + 1, 3, .int .i64 t2), (w.heap.size, 0, .int .i64 x), (w.heap.size, 1, .int .i64 y), (w.heap.size, 2, .int .i64 m), (w.heap.size, 3, .int .i64 t)] W := ⟨_, rfl, by
    have h := ((((Hd.start w).box4 (.int .i64 x) (.int .i64 y) (.int .i64 m) (.int .i64 t) 30).box4 (.int .i64 x2) (.int .i64 y2) (.int .i64 m2) (.int .i64 t2) 30).box4 (.int .i64 0) (.int .i64 0) (.int .i64 0) (.int .i64 0) 30)
    simp only [size_alloc1] at h
    exact h⟩
  go_enter Tryd.func35, Tryd.ntmps35
  go_wp2_with fail
  rw [← hW]
  clear hW
  have k0 := fun p : Over _ => H.over (b := w.heap.size) (o := 0) (v := .int .i64 x) (by simp) p
  have k1 := fun p : Over _ => H.over (b := w.heap.size) (o := 1) (v := .int .i64 y) (by simp) p
  have k2 := fun p : Over _ => H.over (b := w.heap.size) (o := 2) (v := .int .i64 m) (by simp) p
  have k3 := fun p : Over _ => H.over (b := w.heap.size) (o := 3) (v := .int .i64 t) (by simp) p
  have k4 := fun p : Over _ => H.over (b := w.heap.size + 1) (o := 0) (v := .int .i64 x2) (by simp) p
  have k5 := fun p : Over _ => H.over (b := w.heap.size + 1) (o := 1) (v := .int .i64 y2) (by simp) p
  have k6 := fun p : Over _ => H.over (b := w.heap.size + 1) (o := 2) (v := .int .i64 m2) (by simp) p
  have k7 := fun p : Over _ => H.over (b := w.heap.size + 1) (o := 3) (v := .int .i64 t2) (by simp) p
  have k8 := fun p : Over _ => H.over (b := w.heap.size + 2) (o := 0) (v := .int .i64 0) (by simp) p
  have k9 := fun p : Over _ => H.over (b := w.heap.size + 2) (o := 1) (v := .int .i64 0) (by simp) p
  have k10 := fun p : Over _ => H.over (b := w.heap.size + 2) (o := 2) (v := .int .i64 0) (by simp) p
  have k11 := fun p : Over _ => H.over (b := w.heap.size + 2) (o := 3) (v := .int .i64 0) (by simp) p
  refine wp_region_over (by kernel_rfl) (by kernel_rfl) ?_
  repeat (go_big_quiet_step (first | (go_at_call 37; rename_i p; refine (sVOk_xy _ _ _ _ _).mono ?_; rintro e' w' ⟨rfl, hb1⟩; exact ⟨by (first | rw [h] | rw [h2]), p.next hb1⟩) | (go_at_call 90; rename_i p; refine (l10None_any _).mono ?_; rintro e' w' ⟨rfl, hb1⟩; exact ⟨rfl, p.next hb1⟩)))
  refine wpQuiet_nil ?_
  rintro _ ⟨p, rfl⟩
  replace H := H.call p.below
  clear k0 k1 k2 k3 k4 k5 k6 k7 k8 k9 k10 k11
  generalize p.w = w3 at *
  clear p
  go_wp2_with fail
  have c0 := H.get (b := w.heap.size) (o := 0) (v := .int .i64 x) (by simp)
  have c1 := H.get (b := w.heap.size) (o := 1) (v := .int .i64 y) (by simp)
  have c2 := H.get (b := w.heap.size) (o := 2) (v := .int .i64 m) (by simp)
  have c3 := H.get (b := w.heap.size) (o := 3) (v := .int .i64 t) (by simp)
  have c4 := H.get (b := w.heap.size + 1) (o := 0) (v := .int .i64 x2) (by simp)
  have c5 := H.get (b := w.heap.size + 1) (o := 1) (v := .int .i64 y2) (by simp)
  have c6 := H.get (b := w.heap.size + 1) (o := 2) (v := .int .i64 m2) (by simp)
  have c7 := H.get (b := w.heap.size + 1) (o := 3) (v := .int .i64 t2) (by simp)
  have l0 := H.lt (b := w.heap.size) (o := 0) (v := .int .i64 x) (by simp)
  have l1 := H.lt (b := w.heap.size + 1) (o := 0) (v := .int .i64 x2) (by simp)
  have l2 := H.lt (b := w.heap.size + 2) (o := 0) (v := .int .i64 0) (by simp)
  go_cut [5, 6] from 5 (fun t5 t6 wx => ∃ g, t5 = .pointer (some ⟨g, 0, none⟩) ∧ t6 = .bool true ∧ w.heap.size + 2 < g ∧ Hd w ((g, 0, .int .i64 r1) :: (g, 1, .int .i64 r2) :: [(w.heap.size + 2, 0, .int .i64 0), (w.heap.size + 2, 1, .int .i64 0), (w.heap.size + 2, 2, .int .i64 0), (w.heap.size + 2, 3, .int .i64 0), (w.heap.size + 1, 0, .int .i64 x2), (w.heap.size + 1, 1, .int .i64 y2), (w.heap.size + 1, 2, .int .i64 m2), (w.heap.size + 1, 3, .int .i64 t2), (w.heap.size, 0, .int .i64 x), (w.heap.size, 1, .int .i64 y), (w.heap.size, 2, .int .i64 m), (w.heap.size, 3, .int .i64 t)]) wx)
  case first =>
    go_region_held3 (fun w' => w'.cell? ⟨w.heap.size, 0, none⟩ = some (.int .i64 x) ∧ w'.cell? ⟨w.heap.size, 1, none⟩ = some (.int .i64 y) ∧ w'.cell? ⟨w.heap.size, 2, none⟩ = some (.int .i64 m) ∧ w'.cell? ⟨w.heap.size, 3, none⟩ = some (.int .i64 t) ∧ w'.cell? ⟨w.heap.size + 1, 0, none⟩ = some (.int .i64 x2) ∧ w'.cell? ⟨w.heap.size + 1, 1, none⟩ = some (.int .i64 y2) ∧ w'.cell? ⟨w.heap.size + 1, 2, none⟩ = some (.int .i64 m2) ∧ w'.cell? ⟨w.heap.size + 1, 3, none⟩ = some (.int .i64 t2)) (first | exact ⟨c0, c1, c2, c3, c4, c5, c6, c7⟩ | (simp [go_sem, *]; done)) (first | (go_at_call 105; refine (l10Rest_xy _ _ _ _ _).mono ?_; rintro e w' ⟨rfl, hb⟩; (first | (replace H := H.call hb) | (replace H := (H.drewN 1).call hb) | (replace H := (H.box _ _ _).call hb) | (replace H := ((H.box _ _ _).drewN 1).call hb) | (replace H := ((H.drewN 1).box _ _ _).call hb)); obtain ⟨n0, n1, n2, n3, n4⟩ := H.top; have c0 := H.get (b := w.heap.size) (o := 0) (v := .int .i64 x) (by simp); have c1 := H.get (b := w.heap.size) (o := 1) (v := .int .i64 y) (by simp); have c2 := H.get (b := w.heap.size) (o := 2) (v := .int .i64 m) (by simp); have c3 := H.get (b := w.heap.size) (o := 3) (v := .int .i64 t) (by simp); have c4 := H.get (b := w.heap.size + 1) (o := 0) (v := .int .i64 x2) (by simp); have c5 := H.get (b := w.heap.size + 1) (o := 1) (v := .int .i64 y2) (by simp); have c6 := H.get (b := w.heap.size + 1) (o := 2) (v := .int .i64 m2) (by simp); have c7 := H.get (b := w.heap.size + 1) (o := 3) (v := .int .i64 t2) (by simp); have l0 := H.lt (b := w.heap.size) (o := 0) (v := .int .i64 x) (by simp); have l1 := H.lt (b := w.heap.size + 1) (o := 0) (v := .int .i64 x2) (by simp); have l2 := H.lt (b := w.heap.size + 2) (o := 0) (v := .int .i64 0) (by simp)) | (go_at_call 73; refine (hT _).mono ?_; rintro e w' ⟨rfl, hb⟩; (first | (replace H := H.call hb) | (replace H := (H.drewN 1).call hb) | (replace H := (H.box _ _ _).call hb) | (replace H := ((H.box _ _ _).drewN 1).call hb) | (replace H := ((H.drewN 1).box _ _ _).call hb)); obtain ⟨n0, n1, n2, n3, n4⟩ := H.top; have c0 := H.get (b := w.heap.size) (o := 0) (v := .int .i64 x) (by simp); have c1 := H.get (b := w.heap.size) (o := 1) (v := .int .i64 y) (by simp); have c2 := H.get (b := w.heap.size) (o := 2) (v := .int .i64 m) (by simp); have c3 := H.get (b := w.heap.size) (o := 3) (v := .int .i64 t) (by simp); have c4 := H.get (b := w.heap.size + 1) (o := 0) (v := .int .i64 x2) (by simp); have c5 := H.get (b := w.heap.size + 1) (o := 1) (v := .int .i64 y2) (by simp); have c6 := H.get (b := w.heap.size + 1) (o := 2) (v := .int .i64 m2) (by simp); have c7 := H.get (b := w.heap.size + 1) (o := 3) (v := .int .i64 t2) (by simp); have l0 := H.lt (b := w.heap.size) (o := 0) (v := .int .i64 x) (by simp); have l1 := H.lt (b := w.heap.size + 1) (o := 0) (v := .int .i64 x2) (by simp); have l2 := H.lt (b := w.heap.size + 2) (o := 0) (v := .int .i64 0) (by simp)))
    all_goals
      go_wp2_with fail
      go_meet
      first
        | exact ⟨_, rfl, rfl, by omega, H.box _ _ _⟩
        | exact ⟨_, rfl, rfl, by omega, H.set2 (by omega) (by simp; omega) _ _⟩
  case rest =>
    obtain ⟨g, rfl, rfl, hg, H'⟩ := hcut
    clear H c0 c1 c2 c3 c4 c5 c6 c7 l0 l1 l2
    have H := H'
    clear H'
    go_wp2_with fail
    have k0 := fun p : Over _ => H.over (b := w.heap.size) (o := 0) (v := .int .i64 x) (by simp) p
    have k1 := fun p : Over _ => H.over (b := w.heap.size) (o := 1) (v := .int .i64 y) (by simp) p
    have k2 := fun p : Over _ => H.over (b := w.heap.size) (o := 2) (v := .int .i64 m) (by simp) p
    have k3 := fun p : Over _ => H.over (b := w.heap.size) (o := 3) (v := .int .i64 t) (by simp) p
    have k4 := fun p : Over _ => H.over (b := w.heap.size + 1) (o := 0) (v := .int .i64 x2) (by simp) p
    have k5 := fun p : Over _ => H.over (b := w.heap.size + 1) (o := 1) (v := .int .i64 y2) (by simp) p
    have k6 := fun p : Over _ => H.over (b := w.heap.size + 1) (o := 2) (v := .int .i64 m2) (by simp) p
    have k7 := fun p : Over _ => H.over (b := w.heap.size + 1) (o := 3) (v := .int .i64 t2) (by simp) p
    have k8 := fun p : Over _ => H.over (b := g) (o := 0) (v := .int .i64 r1) (by simp) p
    have k9 := fun p : Over _ => H.over (b := g) (o := 1) (v := .int .i64 r2) (by simp) p
    refine wp_region_tail_over rfl rfl rfl rfl (by kernel_rfl) (by kernel_rfl) (by kernel_rfl) ?_
    simp only [List.dropLast, tv, List.cons_append, List.nil_append]
    repeat (go_big_quiet_step (first | (go_at_call 104; rename_i p; refine (l10Range_xy _ _ _ _ _).mono ?_; rintro e' w' ⟨rfl, hb1⟩; exact ⟨rfl, p.next hb1⟩) | (go_at_call 106; rename_i p; refine (hJ _).mono ?_; rintro e' w' ⟨rfl, hb1⟩; exact ⟨rfl, p.next hb1⟩) | (go_at_call 23; rename_i p; refine (hM _).mono ?_; rintro e' w' ⟨rfl, hb1⟩; exact ⟨rfl, p.next hb1⟩)))
    refine wpQuiet_nil ?_
    rintro _ ⟨p, rfl⟩
    replace H := H.call p.below
    clear k0 k1 k2 k3 k4 k5 k6 k7 k8 k9
    generalize p.w = w6 at *
    clear p
    have rc0 := H.get (b := w.heap.size + 2) (o := 0) (v := .int .i64 0) (by simp)
    have rc1 := H.get (b := w.heap.size + 2) (o := 1) (v := .int .i64 0) (by simp)
    have rc2 := H.get (b := w.heap.size + 2) (o := 2) (v := .int .i64 0) (by simp)
    have rc3 := H.get (b := w.heap.size + 2) (o := 3) (v := .int .i64 0) (by simp)
    have rz0 := H.fz (b := w.heap.size + 2) (o := 0) (v := .int .i64 0) (by simp)
    have rz1 := H.fz (b := w.heap.size + 2) (o := 1) (v := .int .i64 0) (by simp)
    have rz2 := H.fz (b := w.heap.size + 2) (o := 2) (v := .int .i64 0) (by simp)
    have rz3 := H.fz (b := w.heap.size + 2) (o := 3) (v := .int .i64 0) (by simp)
    go_simp
    go_wp2
    obtain ⟨f0, f1, f2, f3, fb⟩ := H.fill4 (b := w.heap.size + 2) (x := .int .i64 0) (y := .int .i64 0) (z := .int .i64 0) (u := .int .i64 0) (by simp) (by simp) (by simp) (by simp) (by omega) (.int .i64 q.1) (.int .i64 q.2.1) (.int .i64 q.2.2.1) (.int .i64 q.2.2.2)
    refine bodyPost_ret (results_four rfl _ _ (w.heap.size + 2) (.int .i64 q.1) (.int .i64 q.2.1) (.int .i64 q.2.2.1) (.int .i64 q.2.2.2) _ rfl f0 f1 f2 f3 Tryd.underlying30 rfl (by kernel_rfl)) rfl ?_
    exact ⟨rfl, fb⟩
end Go.Proofs.YthbbgkpkijlclaaDoor.num
namespace Go.Proofs.YthbbgkpkijlclaaDoor.num
open Go.ChangeShapes Go.WideShapes Go.ChangeAt Go.RowKit
set_option linter.unusedVariables false

set_option maxRecDepth 100000 in
set_option maxHeartbeats 4000000 in
theorem sVMeet_xy (x y m t x2 y2 m2 t2 : Int) (w : World) :
    Calls Tryd.prog 35 #[.agg #[.int .i64 x, .int .i64 y, .int .i64 m, .int .i64 t], .agg #[.int .i64 x2, .int .i64 y2, .int .i64 m2, .int .i64 t2]] w fun e w' => e = .returned (.agg #[.int .i64 (meet10 (x, y, m, t) (x2, y2, m2, t2)).1, .int .i64 (meet10 (x, y, m, t) (x2, y2, m2, t2)).2.1, .int .i64 (meet10 (x, y, m, t) (x2, y2, m2, t2)).2.2.1, .int .i64 (meet10 (x, y, m, t) (x2, y2, m2, t2)).2.2.2]) ∧ Below w.heap.size w w' := by
  cases h : ok10 (x, y, m, t)
  · have e : meet10 (x, y, m, t) (x2, y2, m2, t2) = none10 := by unfold meet10; rw [if_pos (.inl (by unfold some10; rw [h]; rfl))]
    rw [e]
    clear e
    obtain ⟨W, hW, H⟩ : ∃ W, W = ((w.alloc (.cells #[.int .i64 x, .int .i64 y, .int .i64 m, .int .i64 t] 30)).alloc (.cells #[.int .i64 x2, .int .i64 y2, .int .i64 m2, .int .i64 t2] 30)).alloc (.cells #[.int .i64 0, .int .i64 0, .int .i64 0, .int .i64 0] 30) ∧ Hd w [(w.heap.size + 2, 0, .int .i64 0), (w.heap.size + 2, 1, .int .i64 0), (w.heap.size + 2, 2, .int .i64 0), (w.heap.size + 2, 3, .int .i64 0), (w.heap.size + 1, 0, .int .i64 x2), (w.heap.size + 1, 1, .int .i64 y2), (w.heap.size + 1, 2, .int .i64 m2), (w.heap.size + 1, 3, .int .i64 t2), (w.heap.size, 0, .int .i64 x), (w.heap.size, 1, .int .i64 y), (w.heap.size, 2, .int .i64 m), (w.heap.size, 3, .int .i64 t)] W := ⟨_, rfl, by
      have h := ((((Hd.start w).box4 (.int .i64 x) (.int .i64 y) (.int .i64 m) (.int .i64 t) 30).box4 (.int .i64 x2) (.int .i64 y2) (.int .i64 m2) (.int .i64 t2) 30).box4 (.int .i64 0) (.int .i64 0) (.int .i64 0) (.int .i64 0) 30)
      simp only [size_alloc1] at h
      exact h⟩
    go_enter Tryd.func35, Tryd.ntmps35
    go_wp2_with fail
    rw [← hW]
    clear hW
    have k0 := fun p : Over _ => H.over (b := w.heap.size) (o := 0) (v := .int .i64 x) (by simp) p
    have k1 := fun p : Over _ => H.over (b := w.heap.size) (o := 1) (v := .int .i64 y) (by simp) p
    have k2 := fun p : Over _ => H.over (b := w.heap.size) (o := 2) (v := .int .i64 m) (by simp) p
    have k3 := fun p : Over _ => H.over (b := w.heap.size) (o := 3) (v := .int .i64 t) (by simp) p
    have k4 := fun p : Over _ => H.over (b := w.heap.size + 1) (o := 0) (v := .int .i64 x2) (by simp) p
    have k5 := fun p : Over _ => H.over (b := w.heap.size + 1) (o := 1) (v := .int .i64 y2) (by simp) p
    have k6 := fun p : Over _ => H.over (b := w.heap.size + 1) (o := 2) (v := .int .i64 m2) (by simp) p
    have k7 := fun p : Over _ => H.over (b := w.heap.size + 1) (o := 3) (v := .int .i64 t2) (by simp) p
    have k8 := fun p : Over _ => H.over (b := w.heap.size + 2) (o := 0) (v := .int .i64 0) (by simp) p
    have k9 := fun p : Over _ => H.over (b := w.heap.size + 2) (o := 1) (v := .int .i64 0) (by simp) p
    have k10 := fun p : Over _ => H.over (b := w.heap.size + 2) (o := 2) (v := .int .i64 0) (by simp) p
    have k11 := fun p : Over _ => H.over (b := w.heap.size + 2) (o := 3) (v := .int .i64 0) (by simp) p
    refine wp_region_over (by kernel_rfl) (by kernel_rfl) ?_
    repeat (go_big_quiet_step (first | (go_at_call 37; rename_i p; refine (sVOk_xy _ _ _ _ _).mono ?_; rintro e' w' ⟨rfl, hb1⟩; exact ⟨by (first | rw [h]), p.next hb1⟩) | (go_at_call 90; rename_i p; refine (l10None_any _).mono ?_; rintro e' w' ⟨rfl, hb1⟩; exact ⟨rfl, p.next hb1⟩)))
    refine wpQuiet_nil ?_
    rintro _ ⟨p, rfl⟩
    replace H := H.call p.below
    clear k0 k1 k2 k3 k4 k5 k6 k7 k8 k9 k10 k11
    generalize p.w = w3 at *
    clear p
    go_wp2_with (go_at_call 90; refine (l10None_any _).mono ?_; rintro e w' ⟨rfl, hb⟩; replace H := H.call hb; clear hb; have rc0 := H.get (b := w.heap.size + 2) (o := 0) (v := .int .i64 0) (by simp); have rc1 := H.get (b := w.heap.size + 2) (o := 1) (v := .int .i64 0) (by simp); have rc2 := H.get (b := w.heap.size + 2) (o := 2) (v := .int .i64 0) (by simp); have rc3 := H.get (b := w.heap.size + 2) (o := 3) (v := .int .i64 0) (by simp); have rz0 := H.fz (b := w.heap.size + 2) (o := 0) (v := .int .i64 0) (by simp); have rz1 := H.fz (b := w.heap.size + 2) (o := 1) (v := .int .i64 0) (by simp); have rz2 := H.fz (b := w.heap.size + 2) (o := 2) (v := .int .i64 0) (by simp); have rz3 := H.fz (b := w.heap.size + 2) (o := 3) (v := .int .i64 0) (by simp))
    obtain ⟨f0, f1, f2, f3, fb⟩ := H.fill4 (b := w.heap.size + 2) (x := .int .i64 0) (y := .int .i64 0) (z := .int .i64 0) (u := .int .i64 0) (by simp) (by simp) (by simp) (by simp) (by omega) (.int .i64 1) (.int .i64 0) (.int .i64 0) (.int .i64 0)
    refine bodyPost_ret (results_four rfl _ _ (w.heap.size + 2) (.int .i64 1) (.int .i64 0) (.int .i64 0) (.int .i64 0) _ rfl f0 f1 f2 f3 Tryd.underlying30 rfl (by kernel_rfl)) rfl ?_
    exact ⟨rfl, fb⟩
  cases h2 : ok10 (x2, y2, m2, t2)
  · have e : meet10 (x, y, m, t) (x2, y2, m2, t2) = none10 := by unfold meet10; rw [if_pos (.inr (by unfold some10; rw [h2]; rfl))]
    rw [e]
    clear e
    obtain ⟨W, hW, H⟩ : ∃ W, W = ((w.alloc (.cells #[.int .i64 x, .int .i64 y, .int .i64 m, .int .i64 t] 30)).alloc (.cells #[.int .i64 x2, .int .i64 y2, .int .i64 m2, .int .i64 t2] 30)).alloc (.cells #[.int .i64 0, .int .i64 0, .int .i64 0, .int .i64 0] 30) ∧ Hd w [(w.heap.size + 2, 0, .int .i64 0), (w.heap.size + 2, 1, .int .i64 0), (w.heap.size + 2, 2, .int .i64 0), (w.heap.size + 2, 3, .int .i64 0), (w.heap.size + 1, 0, .int .i64 x2), (w.heap.size + 1, 1, .int .i64 y2), (w.heap.size + 1, 2, .int .i64 m2), (w.heap.size + 1, 3, .int .i64 t2), (w.heap.size, 0, .int .i64 x), (w.heap.size, 1, .int .i64 y), (w.heap.size, 2, .int .i64 m), (w.heap.size, 3, .int .i64 t)] W := ⟨_, rfl, by
      have h := ((((Hd.start w).box4 (.int .i64 x) (.int .i64 y) (.int .i64 m) (.int .i64 t) 30).box4 (.int .i64 x2) (.int .i64 y2) (.int .i64 m2) (.int .i64 t2) 30).box4 (.int .i64 0) (.int .i64 0) (.int .i64 0) (.int .i64 0) 30)
      simp only [size_alloc1] at h
      exact h⟩
    go_enter Tryd.func35, Tryd.ntmps35
    go_wp2_with fail
    rw [← hW]
    clear hW
    have k0 := fun p : Over _ => H.over (b := w.heap.size) (o := 0) (v := .int .i64 x) (by simp) p
    have k1 := fun p : Over _ => H.over (b := w.heap.size) (o := 1) (v := .int .i64 y) (by simp) p
    have k2 := fun p : Over _ => H.over (b := w.heap.size) (o := 2) (v := .int .i64 m) (by simp) p
    have k3 := fun p : Over _ => H.over (b := w.heap.size) (o := 3) (v := .int .i64 t) (by simp) p
    have k4 := fun p : Over _ => H.over (b := w.heap.size + 1) (o := 0) (v := .int .i64 x2) (by simp) p
    have k5 := fun p : Over _ => H.over (b := w.heap.size + 1) (o := 1) (v := .int .i64 y2) (by simp) p
    have k6 := fun p : Over _ => H.over (b := w.heap.size + 1) (o := 2) (v := .int .i64 m2) (by simp) p
    have k7 := fun p : Over _ => H.over (b := w.heap.size + 1) (o := 3) (v := .int .i64 t2) (by simp) p
    have k8 := fun p : Over _ => H.over (b := w.heap.size + 2) (o := 0) (v := .int .i64 0) (by simp) p
    have k9 := fun p : Over _ => H.over (b := w.heap.size + 2) (o := 1) (v := .int .i64 0) (by simp) p
    have k10 := fun p : Over _ => H.over (b := w.heap.size + 2) (o := 2) (v := .int .i64 0) (by simp) p
    have k11 := fun p : Over _ => H.over (b := w.heap.size + 2) (o := 3) (v := .int .i64 0) (by simp) p
    refine wp_region_over (by kernel_rfl) (by kernel_rfl) ?_
    repeat (go_big_quiet_step (first | (go_at_call 37; rename_i p; refine (sVOk_xy _ _ _ _ _).mono ?_; rintro e' w' ⟨rfl, hb1⟩; exact ⟨by (first | rw [h] | rw [h2]), p.next hb1⟩) | (go_at_call 90; rename_i p; refine (l10None_any _).mono ?_; rintro e' w' ⟨rfl, hb1⟩; exact ⟨rfl, p.next hb1⟩)))
    refine wpQuiet_nil ?_
    rintro _ ⟨p, rfl⟩
    replace H := H.call p.below
    clear k0 k1 k2 k3 k4 k5 k6 k7 k8 k9 k10 k11
    generalize p.w = w3 at *
    clear p
    go_wp2_with (go_at_call 90; refine (l10None_any _).mono ?_; rintro e w' ⟨rfl, hb⟩; replace H := H.call hb; clear hb; have rc0 := H.get (b := w.heap.size + 2) (o := 0) (v := .int .i64 0) (by simp); have rc1 := H.get (b := w.heap.size + 2) (o := 1) (v := .int .i64 0) (by simp); have rc2 := H.get (b := w.heap.size + 2) (o := 2) (v := .int .i64 0) (by simp); have rc3 := H.get (b := w.heap.size + 2) (o := 3) (v := .int .i64 0) (by simp); have rz0 := H.fz (b := w.heap.size + 2) (o := 0) (v := .int .i64 0) (by simp); have rz1 := H.fz (b := w.heap.size + 2) (o := 1) (v := .int .i64 0) (by simp); have rz2 := H.fz (b := w.heap.size + 2) (o := 2) (v := .int .i64 0) (by simp); have rz3 := H.fz (b := w.heap.size + 2) (o := 3) (v := .int .i64 0) (by simp))
    obtain ⟨f0, f1, f2, f3, fb⟩ := H.fill4 (b := w.heap.size + 2) (x := .int .i64 0) (y := .int .i64 0) (z := .int .i64 0) (u := .int .i64 0) (by simp) (by simp) (by simp) (by simp) (by omega) (.int .i64 1) (.int .i64 0) (.int .i64 0) (.int .i64 0)
    refine bodyPost_ret (results_four rfl _ _ (w.heap.size + 2) (.int .i64 1) (.int .i64 0) (.int .i64 0) (.int .i64 0) _ rfl f0 f1 f2 f3 Tryd.underlying30 rfl (by kernel_rfl)) rfl ?_
    exact ⟨rfl, fb⟩
  rcases isN10 x y m t with e1 | e1
  · have e : meet10 (x, y, m, t) (x2, y2, m2, t2) = none10 := by rw [e1]; unfold meet10; rw [if_pos (.inl (by decide))]
    rw [e]
    clear e
    simp only [none10, Prod.mk.injEq] at e1
    obtain ⟨rfl, rfl, rfl, rfl⟩ := e1
    obtain ⟨W, hW, H⟩ : ∃ W, W = ((w.alloc (.cells #[.int .i64 1, .int .i64 0, .int .i64 0, .int .i64 0] 30)).alloc (.cells #[.int .i64 x2, .int .i64 y2, .int .i64 m2, .int .i64 t2] 30)).alloc (.cells #[.int .i64 0, .int .i64 0, .int .i64 0, .int .i64 0] 30) ∧ Hd w [(w.heap.size + 2, 0, .int .i64 0), (w.heap.size + 2, 1, .int .i64 0), (w.heap.size + 2, 2, .int .i64 0), (w.heap.size + 2, 3, .int .i64 0), (w.heap.size + 1, 0, .int .i64 x2), (w.heap.size + 1, 1, .int .i64 y2), (w.heap.size + 1, 2, .int .i64 m2), (w.heap.size + 1, 3, .int .i64 t2), (w.heap.size, 0, .int .i64 1), (w.heap.size, 1, .int .i64 0), (w.heap.size, 2, .int .i64 0), (w.heap.size, 3, .int .i64 0)] W := ⟨_, rfl, by
      have h := ((((Hd.start w).box4 (.int .i64 1) (.int .i64 0) (.int .i64 0) (.int .i64 0) 30).box4 (.int .i64 x2) (.int .i64 y2) (.int .i64 m2) (.int .i64 t2) 30).box4 (.int .i64 0) (.int .i64 0) (.int .i64 0) (.int .i64 0) 30)
      simp only [size_alloc1] at h
      exact h⟩
    go_enter Tryd.func35, Tryd.ntmps35
    go_wp2_with fail
    rw [← hW]
    clear hW
    have k0 := fun p : Over _ => H.over (b := w.heap.size) (o := 0) (v := .int .i64 1) (by simp) p
    have k1 := fun p : Over _ => H.over (b := w.heap.size) (o := 1) (v := .int .i64 0) (by simp) p
    have k2 := fun p : Over _ => H.over (b := w.heap.size) (o := 2) (v := .int .i64 0) (by simp) p
    have k3 := fun p : Over _ => H.over (b := w.heap.size) (o := 3) (v := .int .i64 0) (by simp) p
    have k4 := fun p : Over _ => H.over (b := w.heap.size + 1) (o := 0) (v := .int .i64 x2) (by simp) p
    have k5 := fun p : Over _ => H.over (b := w.heap.size + 1) (o := 1) (v := .int .i64 y2) (by simp) p
    have k6 := fun p : Over _ => H.over (b := w.heap.size + 1) (o := 2) (v := .int .i64 m2) (by simp) p
    have k7 := fun p : Over _ => H.over (b := w.heap.size + 1) (o := 3) (v := .int .i64 t2) (by simp) p
    have k8 := fun p : Over _ => H.over (b := w.heap.size + 2) (o := 0) (v := .int .i64 0) (by simp) p
    have k9 := fun p : Over _ => H.over (b := w.heap.size + 2) (o := 1) (v := .int .i64 0) (by simp) p
    have k10 := fun p : Over _ => H.over (b := w.heap.size + 2) (o := 2) (v := .int .i64 0) (by simp) p
    have k11 := fun p : Over _ => H.over (b := w.heap.size + 2) (o := 3) (v := .int .i64 0) (by simp) p
    refine wp_region_over (by kernel_rfl) (by kernel_rfl) ?_
    repeat (go_big_quiet_step (first | (go_at_call 37; rename_i p; refine (sVOk_xy _ _ _ _ _).mono ?_; rintro e' w' ⟨rfl, hb1⟩; exact ⟨by (first | rw [h] | rw [h2]), p.next hb1⟩) | (go_at_call 90; rename_i p; refine (l10None_any _).mono ?_; rintro e' w' ⟨rfl, hb1⟩; exact ⟨rfl, p.next hb1⟩)))
    refine wpQuiet_nil ?_
    rintro _ ⟨p, rfl⟩
    replace H := H.call p.below
    clear k0 k1 k2 k3 k4 k5 k6 k7 k8 k9 k10 k11
    generalize p.w = w3 at *
    clear p
    go_wp2_with (go_at_call 90; refine (l10None_any _).mono ?_; rintro e w' ⟨rfl, hb⟩; replace H := H.call hb; clear hb; have rc0 := H.get (b := w.heap.size + 2) (o := 0) (v := .int .i64 0) (by simp); have rc1 := H.get (b := w.heap.size + 2) (o := 1) (v := .int .i64 0) (by simp); have rc2 := H.get (b := w.heap.size + 2) (o := 2) (v := .int .i64 0) (by simp); have rc3 := H.get (b := w.heap.size + 2) (o := 3) (v := .int .i64 0) (by simp); have rz0 := H.fz (b := w.heap.size + 2) (o := 0) (v := .int .i64 0) (by simp); have rz1 := H.fz (b := w.heap.size + 2) (o := 1) (v := .int .i64 0) (by simp); have rz2 := H.fz (b := w.heap.size + 2) (o := 2) (v := .int .i64 0) (by simp); have rz3 := H.fz (b := w.heap.size + 2) (o := 3) (v := .int .i64 0) (by simp))
    obtain ⟨f0, f1, f2, f3, fb⟩ := H.fill4 (b := w.heap.size + 2) (x := .int .i64 0) (y := .int .i64 0) (z := .int .i64 0) (u := .int .i64 0) (by simp) (by simp) (by simp) (by simp) (by omega) (.int .i64 1) (.int .i64 0) (.int .i64 0) (.int .i64 0)
    refine bodyPost_ret (results_four rfl _ _ (w.heap.size + 2) (.int .i64 1) (.int .i64 0) (.int .i64 0) (.int .i64 0) _ rfl f0 f1 f2 f3 Tryd.underlying30 rfl (by kernel_rfl)) rfl ?_
    exact ⟨rfl, fb⟩
  have hq1 := @ne4_if x y m t 1 0 0 0 e1
  rcases isN10 x2 y2 m2 t2 with e2 | e2
  · have e : meet10 (x, y, m, t) (x2, y2, m2, t2) = none10 := by rw [e2]; unfold meet10; rw [if_pos (.inr (by decide))]
    rw [e]
    clear e e1
    simp only [none10, Prod.mk.injEq] at e2
    obtain ⟨rfl, rfl, rfl, rfl⟩ := e2
    obtain ⟨W, hW, H⟩ : ∃ W, W = ((w.alloc (.cells #[.int .i64 x, .int .i64 y, .int .i64 m, .int .i64 t] 30)).alloc (.cells #[.int .i64 1, .int .i64 0, .int .i64 0, .int .i64 0] 30)).alloc (.cells #[.int .i64 0, .int .i64 0, .int .i64 0, .int .i64 0] 30) ∧ Hd w [(w.heap.size + 2, 0, .int .i64 0), (w.heap.size + 2, 1, .int .i64 0), (w.heap.size + 2, 2, .int .i64 0), (w.heap.size + 2, 3, .int .i64 0), (w.heap.size + 1, 0, .int .i64 1), (w.heap.size + 1, 1, .int .i64 0), (w.heap.size + 1, 2, .int .i64 0), (w.heap.size + 1, 3, .int .i64 0), (w.heap.size, 0, .int .i64 x), (w.heap.size, 1, .int .i64 y), (w.heap.size, 2, .int .i64 m), (w.heap.size, 3, .int .i64 t)] W := ⟨_, rfl, by
      have h := ((((Hd.start w).box4 (.int .i64 x) (.int .i64 y) (.int .i64 m) (.int .i64 t) 30).box4 (.int .i64 1) (.int .i64 0) (.int .i64 0) (.int .i64 0) 30).box4 (.int .i64 0) (.int .i64 0) (.int .i64 0) (.int .i64 0) 30)
      simp only [size_alloc1] at h
      exact h⟩
    go_enter Tryd.func35, Tryd.ntmps35
    go_wp2_with fail
    rw [← hW]
    clear hW
    have k0 := fun p : Over _ => H.over (b := w.heap.size) (o := 0) (v := .int .i64 x) (by simp) p
    have k1 := fun p : Over _ => H.over (b := w.heap.size) (o := 1) (v := .int .i64 y) (by simp) p
    have k2 := fun p : Over _ => H.over (b := w.heap.size) (o := 2) (v := .int .i64 m) (by simp) p
    have k3 := fun p : Over _ => H.over (b := w.heap.size) (o := 3) (v := .int .i64 t) (by simp) p
    have k4 := fun p : Over _ => H.over (b := w.heap.size + 1) (o := 0) (v := .int .i64 1) (by simp) p
    have k5 := fun p : Over _ => H.over (b := w.heap.size + 1) (o := 1) (v := .int .i64 0) (by simp) p
    have k6 := fun p : Over _ => H.over (b := w.heap.size + 1) (o := 2) (v := .int .i64 0) (by simp) p
    have k7 := fun p : Over _ => H.over (b := w.heap.size + 1) (o := 3) (v := .int .i64 0) (by simp) p
    have k8 := fun p : Over _ => H.over (b := w.heap.size + 2) (o := 0) (v := .int .i64 0) (by simp) p
    have k9 := fun p : Over _ => H.over (b := w.heap.size + 2) (o := 1) (v := .int .i64 0) (by simp) p
    have k10 := fun p : Over _ => H.over (b := w.heap.size + 2) (o := 2) (v := .int .i64 0) (by simp) p
    have k11 := fun p : Over _ => H.over (b := w.heap.size + 2) (o := 3) (v := .int .i64 0) (by simp) p
    refine wp_region_over (by kernel_rfl) (by kernel_rfl) ?_
    repeat (go_big_quiet_step (first | (go_at_call 37; rename_i p; refine (sVOk_xy _ _ _ _ _).mono ?_; rintro e' w' ⟨rfl, hb1⟩; exact ⟨by (first | rw [h] | rw [h2]), p.next hb1⟩) | (go_at_call 90; rename_i p; refine (l10None_any _).mono ?_; rintro e' w' ⟨rfl, hb1⟩; exact ⟨rfl, p.next hb1⟩)))
    refine wpQuiet_nil ?_
    rintro _ ⟨p, rfl⟩
    replace H := H.call p.below
    clear k0 k1 k2 k3 k4 k5 k6 k7 k8 k9 k10 k11
    generalize p.w = w3 at *
    clear p
    go_wp2_with (go_at_call 90; refine (l10None_any _).mono ?_; rintro e w' ⟨rfl, hb⟩; replace H := H.call hb; clear hb; have rc0 := H.get (b := w.heap.size + 2) (o := 0) (v := .int .i64 0) (by simp); have rc1 := H.get (b := w.heap.size + 2) (o := 1) (v := .int .i64 0) (by simp); have rc2 := H.get (b := w.heap.size + 2) (o := 2) (v := .int .i64 0) (by simp); have rc3 := H.get (b := w.heap.size + 2) (o := 3) (v := .int .i64 0) (by simp); have rz0 := H.fz (b := w.heap.size + 2) (o := 0) (v := .int .i64 0) (by simp); have rz1 := H.fz (b := w.heap.size + 2) (o := 1) (v := .int .i64 0) (by simp); have rz2 := H.fz (b := w.heap.size + 2) (o := 2) (v := .int .i64 0) (by simp); have rz3 := H.fz (b := w.heap.size + 2) (o := 3) (v := .int .i64 0) (by simp))
    obtain ⟨f0, f1, f2, f3, fb⟩ := H.fill4 (b := w.heap.size + 2) (x := .int .i64 0) (y := .int .i64 0) (z := .int .i64 0) (u := .int .i64 0) (by simp) (by simp) (by simp) (by simp) (by omega) (.int .i64 1) (.int .i64 0) (.int .i64 0) (.int .i64 0)
    refine bodyPost_ret (results_four rfl _ _ (w.heap.size + 2) (.int .i64 1) (.int .i64 0) (.int .i64 0) (.int .i64 0) _ rfl f0 f1 f2 f3 Tryd.underlying30 rfl (by kernel_rfl)) rfl ?_
    exact ⟨rfl, fb⟩
  · cases hm : (meet9 (m, t) (m2, t2)).2
    · exact sVMeet_no x y m t x2 y2 m2 t2 h h2 e1 e2 hm w
    · exact sVMeet_some x y m t x2 y2 m2 t2 h h2 e1 e2 hm w
end Go.Proofs.YthbbgkpkijlclaaDoor.num
namespace Go.Proofs.YthbbgkpkijlclaaDoor.num
open Go.ChangeShapes Go.WideShapes Go.ChangeAt Go.RowKit
set_option linter.unusedVariables false

set_option maxRecDepth 100000 in
set_option maxHeartbeats 4000000 in
theorem iVMeet_bad (x y m t x2 y2 m2 t2 : Int) (hb : some10 (x, y, m, t) = false ∨ some10 (x2, y2, m2, t2) = false) (w : World) (hN : Gn w) (hR : Gv w 1 none8) :
    Calls Tryd.prog 32 #[.agg #[.int .i64 x, .int .i64 y, .int .i64 m, .int .i64 t], .agg #[.int .i64 x2, .int .i64 y2, .int .i64 m2, .int .i64 t2]] w fun e w' => e = .returned (.agg #[.int .i64 (meet10 (x, y, m, t) (x2, y2, m2, t2)).1, .int .i64 (meet10 (x, y, m, t) (x2, y2, m2, t2)).2.1, .int .i64 (meet10 (x, y, m, t) (x2, y2, m2, t2)).2.2.1, .int .i64 (meet10 (x, y, m, t) (x2, y2, m2, t2)).2.2.2]) ∧ Below w.heap.size w w' := by
  have e : meet10 (x, y, m, t) (x2, y2, m2, t2) = none10 := by unfold meet10; rw [if_pos hb]
  rw [e]
  clear e
  cases h : some10 (x, y, m, t)
  · clear hb
    obtain ⟨W, hW, H⟩ : ∃ W, W = ((w.alloc (.cells #[.int .i64 x, .int .i64 y, .int .i64 m, .int .i64 t] 30)).alloc (.cells #[.int .i64 x2, .int .i64 y2, .int .i64 m2, .int .i64 t2] 30)).alloc (.cells #[.int .i64 0, .int .i64 0, .int .i64 0, .int .i64 0] 30) ∧ Hd w [(w.heap.size + 2, 0, .int .i64 0), (w.heap.size + 2, 1, .int .i64 0), (w.heap.size + 2, 2, .int .i64 0), (w.heap.size + 2, 3, .int .i64 0), (w.heap.size + 1, 0, .int .i64 x2), (w.heap.size + 1, 1, .int .i64 y2), (w.heap.size + 1, 2, .int .i64 m2), (w.heap.size + 1, 3, .int .i64 t2), (w.heap.size, 0, .int .i64 x), (w.heap.size, 1, .int .i64 y), (w.heap.size, 2, .int .i64 m), (w.heap.size, 3, .int .i64 t)] W := ⟨_, rfl, by
      have h := ((((Hd.start w).box4 (.int .i64 x) (.int .i64 y) (.int .i64 m) (.int .i64 t) 30).box4 (.int .i64 x2) (.int .i64 y2) (.int .i64 m2) (.int .i64 t2) 30).box4 (.int .i64 0) (.int .i64 0) (.int .i64 0) (.int .i64 0) 30)
      simp only [size_alloc1] at h
      exact h⟩
    go_enter Tryd.func32, Tryd.ntmps32
    go_wp2_with fail
    rw [← hW]
    clear hW
    have c0 := H.get (b := w.heap.size) (o := 0) (v := .int .i64 x) (by simp)
    have c1 := H.get (b := w.heap.size) (o := 1) (v := .int .i64 y) (by simp)
    have c2 := H.get (b := w.heap.size) (o := 2) (v := .int .i64 m) (by simp)
    have c3 := H.get (b := w.heap.size) (o := 3) (v := .int .i64 t) (by simp)
    have c4 := H.get (b := w.heap.size + 1) (o := 0) (v := .int .i64 x2) (by simp)
    have c5 := H.get (b := w.heap.size + 1) (o := 1) (v := .int .i64 y2) (by simp)
    have c6 := H.get (b := w.heap.size + 1) (o := 2) (v := .int .i64 m2) (by simp)
    have c7 := H.get (b := w.heap.size + 1) (o := 3) (v := .int .i64 t2) (by simp)
    have c8 := H.get (b := w.heap.size + 2) (o := 0) (v := .int .i64 0) (by simp)
    have c9 := H.get (b := w.heap.size + 2) (o := 1) (v := .int .i64 0) (by simp)
    have c10 := H.get (b := w.heap.size + 2) (o := 2) (v := .int .i64 0) (by simp)
    have c11 := H.get (b := w.heap.size + 2) (o := 3) (v := .int .i64 0) (by simp)
    have z0 := H.fz (b := w.heap.size + 2) (o := 0) (v := .int .i64 0) (by simp)
    have z1 := H.fz (b := w.heap.size + 2) (o := 1) (v := .int .i64 0) (by simp)
    have z2 := H.fz (b := w.heap.size + 2) (o := 2) (v := .int .i64 0) (by simp)
    have z3 := H.fz (b := w.heap.size + 2) (o := 3) (v := .int .i64 0) (by simp)
    obtain ⟨gs, n0, n1, n2, n3⟩ := Gn.all (hN.below H.below)
    go_wp2_with (first | (go_at_call 101; refine (isome_xy _ _ _ _ _ (hN.below H.below) (hR.below H.below)).mono ?_; rintro e w' ⟨rfl, hb⟩; (first | rw [h]); replace H := H.call hb; clear hb; have c0 := H.get (b := w.heap.size) (o := 0) (v := .int .i64 x) (by simp); have c1 := H.get (b := w.heap.size) (o := 1) (v := .int .i64 y) (by simp); have c2 := H.get (b := w.heap.size) (o := 2) (v := .int .i64 m) (by simp); have c3 := H.get (b := w.heap.size) (o := 3) (v := .int .i64 t) (by simp); have c4 := H.get (b := w.heap.size + 1) (o := 0) (v := .int .i64 x2) (by simp); have c5 := H.get (b := w.heap.size + 1) (o := 1) (v := .int .i64 y2) (by simp); have c6 := H.get (b := w.heap.size + 1) (o := 2) (v := .int .i64 m2) (by simp); have c7 := H.get (b := w.heap.size + 1) (o := 3) (v := .int .i64 t2) (by simp); have c8 := H.get (b := w.heap.size + 2) (o := 0) (v := .int .i64 0) (by simp); have c9 := H.get (b := w.heap.size + 2) (o := 1) (v := .int .i64 0) (by simp); have c10 := H.get (b := w.heap.size + 2) (o := 2) (v := .int .i64 0) (by simp); have c11 := H.get (b := w.heap.size + 2) (o := 3) (v := .int .i64 0) (by simp); have z0 := H.fz (b := w.heap.size + 2) (o := 0) (v := .int .i64 0) (by simp); have z1 := H.fz (b := w.heap.size + 2) (o := 1) (v := .int .i64 0) (by simp); have z2 := H.fz (b := w.heap.size + 2) (o := 2) (v := .int .i64 0) (by simp); have z3 := H.fz (b := w.heap.size + 2) (o := 3) (v := .int .i64 0) (by simp); obtain ⟨gs, n0, n1, n2, n3⟩ := Gn.all (hN.below H.below)))
    obtain ⟨f0, f1, f2, f3, fb⟩ := H.fill4 (b := w.heap.size + 2) (x := .int .i64 0) (y := .int .i64 0) (z := .int .i64 0) (u := .int .i64 0) (by simp) (by simp) (by simp) (by simp) (by omega) (.int .i64 1) (.int .i64 0) (.int .i64 0) (.int .i64 0)
    refine bodyPost_ret (results_four rfl _ _ (w.heap.size + 2) (.int .i64 1) (.int .i64 0) (.int .i64 0) (.int .i64 0) _ rfl f0 f1 f2 f3 Tryd.underlying30 rfl (by kernel_rfl)) rfl ?_
    exact ⟨rfl, fb⟩
  · have h2 : some10 (x2, y2, m2, t2) = false := by rw [h] at hb; simpa using hb
    clear hb
    obtain ⟨W, hW, H⟩ : ∃ W, W = ((w.alloc (.cells #[.int .i64 x, .int .i64 y, .int .i64 m, .int .i64 t] 30)).alloc (.cells #[.int .i64 x2, .int .i64 y2, .int .i64 m2, .int .i64 t2] 30)).alloc (.cells #[.int .i64 0, .int .i64 0, .int .i64 0, .int .i64 0] 30) ∧ Hd w [(w.heap.size + 2, 0, .int .i64 0), (w.heap.size + 2, 1, .int .i64 0), (w.heap.size + 2, 2, .int .i64 0), (w.heap.size + 2, 3, .int .i64 0), (w.heap.size + 1, 0, .int .i64 x2), (w.heap.size + 1, 1, .int .i64 y2), (w.heap.size + 1, 2, .int .i64 m2), (w.heap.size + 1, 3, .int .i64 t2), (w.heap.size, 0, .int .i64 x), (w.heap.size, 1, .int .i64 y), (w.heap.size, 2, .int .i64 m), (w.heap.size, 3, .int .i64 t)] W := ⟨_, rfl, by
      have h := ((((Hd.start w).box4 (.int .i64 x) (.int .i64 y) (.int .i64 m) (.int .i64 t) 30).box4 (.int .i64 x2) (.int .i64 y2) (.int .i64 m2) (.int .i64 t2) 30).box4 (.int .i64 0) (.int .i64 0) (.int .i64 0) (.int .i64 0) 30)
      simp only [size_alloc1] at h
      exact h⟩
    go_enter Tryd.func32, Tryd.ntmps32
    go_wp2_with fail
    rw [← hW]
    clear hW
    have c0 := H.get (b := w.heap.size) (o := 0) (v := .int .i64 x) (by simp)
    have c1 := H.get (b := w.heap.size) (o := 1) (v := .int .i64 y) (by simp)
    have c2 := H.get (b := w.heap.size) (o := 2) (v := .int .i64 m) (by simp)
    have c3 := H.get (b := w.heap.size) (o := 3) (v := .int .i64 t) (by simp)
    have c4 := H.get (b := w.heap.size + 1) (o := 0) (v := .int .i64 x2) (by simp)
    have c5 := H.get (b := w.heap.size + 1) (o := 1) (v := .int .i64 y2) (by simp)
    have c6 := H.get (b := w.heap.size + 1) (o := 2) (v := .int .i64 m2) (by simp)
    have c7 := H.get (b := w.heap.size + 1) (o := 3) (v := .int .i64 t2) (by simp)
    have c8 := H.get (b := w.heap.size + 2) (o := 0) (v := .int .i64 0) (by simp)
    have c9 := H.get (b := w.heap.size + 2) (o := 1) (v := .int .i64 0) (by simp)
    have c10 := H.get (b := w.heap.size + 2) (o := 2) (v := .int .i64 0) (by simp)
    have c11 := H.get (b := w.heap.size + 2) (o := 3) (v := .int .i64 0) (by simp)
    have z0 := H.fz (b := w.heap.size + 2) (o := 0) (v := .int .i64 0) (by simp)
    have z1 := H.fz (b := w.heap.size + 2) (o := 1) (v := .int .i64 0) (by simp)
    have z2 := H.fz (b := w.heap.size + 2) (o := 2) (v := .int .i64 0) (by simp)
    have z3 := H.fz (b := w.heap.size + 2) (o := 3) (v := .int .i64 0) (by simp)
    obtain ⟨gs, n0, n1, n2, n3⟩ := Gn.all (hN.below H.below)
    go_wp2_with (first | (go_at_call 101; refine (isome_xy _ _ _ _ _ (hN.below H.below) (hR.below H.below)).mono ?_; rintro e w' ⟨rfl, hb⟩; (first | rw [h] | rw [h2]); replace H := H.call hb; clear hb; have c0 := H.get (b := w.heap.size) (o := 0) (v := .int .i64 x) (by simp); have c1 := H.get (b := w.heap.size) (o := 1) (v := .int .i64 y) (by simp); have c2 := H.get (b := w.heap.size) (o := 2) (v := .int .i64 m) (by simp); have c3 := H.get (b := w.heap.size) (o := 3) (v := .int .i64 t) (by simp); have c4 := H.get (b := w.heap.size + 1) (o := 0) (v := .int .i64 x2) (by simp); have c5 := H.get (b := w.heap.size + 1) (o := 1) (v := .int .i64 y2) (by simp); have c6 := H.get (b := w.heap.size + 1) (o := 2) (v := .int .i64 m2) (by simp); have c7 := H.get (b := w.heap.size + 1) (o := 3) (v := .int .i64 t2) (by simp); have c8 := H.get (b := w.heap.size + 2) (o := 0) (v := .int .i64 0) (by simp); have c9 := H.get (b := w.heap.size + 2) (o := 1) (v := .int .i64 0) (by simp); have c10 := H.get (b := w.heap.size + 2) (o := 2) (v := .int .i64 0) (by simp); have c11 := H.get (b := w.heap.size + 2) (o := 3) (v := .int .i64 0) (by simp); have z0 := H.fz (b := w.heap.size + 2) (o := 0) (v := .int .i64 0) (by simp); have z1 := H.fz (b := w.heap.size + 2) (o := 1) (v := .int .i64 0) (by simp); have z2 := H.fz (b := w.heap.size + 2) (o := 2) (v := .int .i64 0) (by simp); have z3 := H.fz (b := w.heap.size + 2) (o := 3) (v := .int .i64 0) (by simp); obtain ⟨gs, n0, n1, n2, n3⟩ := Gn.all (hN.below H.below)))
    obtain ⟨f0, f1, f2, f3, fb⟩ := H.fill4 (b := w.heap.size + 2) (x := .int .i64 0) (y := .int .i64 0) (z := .int .i64 0) (u := .int .i64 0) (by simp) (by simp) (by simp) (by simp) (by omega) (.int .i64 1) (.int .i64 0) (.int .i64 0) (.int .i64 0)
    refine bodyPost_ret (results_four rfl _ _ (w.heap.size + 2) (.int .i64 1) (.int .i64 0) (.int .i64 0) (.int .i64 0) _ rfl f0 f1 f2 f3 Tryd.underlying30 rfl (by kernel_rfl)) rfl ?_
    exact ⟨rfl, fb⟩
end Go.Proofs.YthbbgkpkijlclaaDoor.num
namespace Go.Proofs.YthbbgkpkijlclaaDoor.num
open Go.ChangeShapes Go.WideShapes Go.ChangeAt Go.RowKit
set_option linter.unusedVariables false

set_option maxRecDepth 100000 in
set_option maxHeartbeats 4000000 in
theorem iVMeet_no (x y m t x2 y2 m2 t2 : Int) (h : some10 (x, y, m, t) = true) (h2 : some10 (x2, y2, m2, t2) = true) (hm : (meet9 (m, t) (m2, t2)).2 = false) (w : World) (hN : Gn w) (hR : Gv w 1 none8) :
    Calls Tryd.prog 32 #[.agg #[.int .i64 x, .int .i64 y, .int .i64 m, .int .i64 t], .agg #[.int .i64 x2, .int .i64 y2, .int .i64 m2, .int .i64 t2]] w fun e w' => e = .returned (.agg #[.int .i64 (meet10 (x, y, m, t) (x2, y2, m2, t2)).1, .int .i64 (meet10 (x, y, m, t) (x2, y2, m2, t2)).2.1, .int .i64 (meet10 (x, y, m, t) (x2, y2, m2, t2)).2.2.1, .int .i64 (meet10 (x, y, m, t) (x2, y2, m2, t2)).2.2.2]) ∧ Below w.heap.size w w' := by
  have e : meet10 (x, y, m, t) (x2, y2, m2, t2) = none10 := by
    unfold meet10
    rw [if_neg (by simp [h, h2]), if_neg]
    rw [show meet9 (rst (x, y, m, t)) (rst (x2, y2, m2, t2)) = meet9 (m, t) (m2, t2) from rfl, hm]; simp
  rw [e]
  clear e
  have hT := fun w => iMeet_xy9 m t m2 t2 w
  generalize meet9 (m, t) (m2, t2) = r at *
  obtain ⟨⟨r1, r2⟩, r3⟩ := r
  simp only at hm
  subst hm
  simp only [mv9] at hT
  obtain ⟨W, hW, H⟩ : ∃ W, W = ((w.alloc (.cells #[.int .i64 x, .int .i64 y, .int .i64 m, .int .i64 t] 30)).alloc (.cells #[.int .i64 x2, .int .i64 y2, .int .i64 m2, .int .i64 t2] 30)).alloc (.cells #[.int .i64 0, .int .i64 0, .int .i64 0, .int .i64 0] 30) ∧ Hd w [(w.heap.size + 2, 0, .int .i64 0), (w.heap.size + 2, 1, .int .i64 0), (w.heap.size + 2, 2, .int .i64 0), (w.heap.size + 2, 3, .int .i64 0), (w.heap.size + 1, 0, .int .i64 x2), (w.heap.size + 1, 1, .int .i64 y2), (w.heap.size + 1, 2, .int .i64 m2), (w.heap.size + 1, 3, .int .i64 t2), (w.heap.size, 0, .int .i64 x), (w.heap.size, 1, .int .i64 y), (w.heap.size, 2, .int .i64 m), (w.heap.size, 3, .int .i64 t)] W := ⟨_, rfl, by
    have h := ((((Hd.start w).box4 (.int .i64 x) (.int .i64 y) (.int .i64 m) (.int .i64 t) 30).box4 (.int .i64 x2) (.int .i64 y2) (.int .i64 m2) (.int .i64 t2) 30).box4 (.int .i64 0) (.int .i64 0) (.int .i64 0) (.int .i64 0) 30)
    simp only [size_alloc1] at h
    exact h⟩
  go_enter Tryd.func32, Tryd.ntmps32
  go_wp2_with fail
  rw [← hW]
  clear hW
  have c0 := H.get (b := w.heap.size) (o := 0) (v := .int .i64 x) (by simp)
  have c1 := H.get (b := w.heap.size) (o := 1) (v := .int .i64 y) (by simp)
  have c2 := H.get (b := w.heap.size) (o := 2) (v := .int .i64 m) (by simp)
  have c3 := H.get (b := w.heap.size) (o := 3) (v := .int .i64 t) (by simp)
  have c4 := H.get (b := w.heap.size + 1) (o := 0) (v := .int .i64 x2) (by simp)
  have c5 := H.get (b := w.heap.size + 1) (o := 1) (v := .int .i64 y2) (by simp)
  have c6 := H.get (b := w.heap.size + 1) (o := 2) (v := .int .i64 m2) (by simp)
  have c7 := H.get (b := w.heap.size + 1) (o := 3) (v := .int .i64 t2) (by simp)
  have c8 := H.get (b := w.heap.size + 2) (o := 0) (v := .int .i64 0) (by simp)
  have c9 := H.get (b := w.heap.size + 2) (o := 1) (v := .int .i64 0) (by simp)
  have c10 := H.get (b := w.heap.size + 2) (o := 2) (v := .int .i64 0) (by simp)
  have c11 := H.get (b := w.heap.size + 2) (o := 3) (v := .int .i64 0) (by simp)
  have z0 := H.fz (b := w.heap.size + 2) (o := 0) (v := .int .i64 0) (by simp)
  have z1 := H.fz (b := w.heap.size + 2) (o := 1) (v := .int .i64 0) (by simp)
  have z2 := H.fz (b := w.heap.size + 2) (o := 2) (v := .int .i64 0) (by simp)
  have z3 := H.fz (b := w.heap.size + 2) (o := 3) (v := .int .i64 0) (by simp)
  obtain ⟨gs, n0, n1, n2, n3⟩ := Gn.all (hN.below H.below)
  go_wp2_with (first | (go_at_call 101; refine (isome_xy _ _ _ _ _ (hN.below H.below) (hR.below H.below)).mono ?_; rintro e w' ⟨rfl, hb⟩; (first | rw [h] | rw [h2]); replace H := H.call hb; clear hb; have c0 := H.get (b := w.heap.size) (o := 0) (v := .int .i64 x) (by simp); have c1 := H.get (b := w.heap.size) (o := 1) (v := .int .i64 y) (by simp); have c2 := H.get (b := w.heap.size) (o := 2) (v := .int .i64 m) (by simp); have c3 := H.get (b := w.heap.size) (o := 3) (v := .int .i64 t) (by simp); have c4 := H.get (b := w.heap.size + 1) (o := 0) (v := .int .i64 x2) (by simp); have c5 := H.get (b := w.heap.size + 1) (o := 1) (v := .int .i64 y2) (by simp); have c6 := H.get (b := w.heap.size + 1) (o := 2) (v := .int .i64 m2) (by simp); have c7 := H.get (b := w.heap.size + 1) (o := 3) (v := .int .i64 t2) (by simp); have c8 := H.get (b := w.heap.size + 2) (o := 0) (v := .int .i64 0) (by simp); have c9 := H.get (b := w.heap.size + 2) (o := 1) (v := .int .i64 0) (by simp); have c10 := H.get (b := w.heap.size + 2) (o := 2) (v := .int .i64 0) (by simp); have c11 := H.get (b := w.heap.size + 2) (o := 3) (v := .int .i64 0) (by simp); have z0 := H.fz (b := w.heap.size + 2) (o := 0) (v := .int .i64 0) (by simp); have z1 := H.fz (b := w.heap.size + 2) (o := 1) (v := .int .i64 0) (by simp); have z2 := H.fz (b := w.heap.size + 2) (o := 2) (v := .int .i64 0) (by simp); have z3 := H.fz (b := w.heap.size + 2) (o := 3) (v := .int .i64 0) (by simp); obtain ⟨gs, n0, n1, n2, n3⟩ := Gn.all (hN.below H.below)))
  apply wp_region_free2 6 4 5 5 6 (.cells #[.int .i64 0, .int .i64 0, .int .i64 0, .int .i64 0] 98) (.cells #[.int .i64 0, .int .i64 0, .int .i64 0, .int .i64 0] 98) (by decide) (by decide) (Nat.le_of_ble_eq_true rfl) (by kernel_rfl) (by kernel_rfl) (by kernel_rfl) (by kernel_rfl) (by intro o ho; have ho' := Option.some.inj ho; subst ho'; intro a w; kernel_rfl) (by intro o ho; have ho' := Option.some.inj ho; subst ho'; intro a w; kernel_rfl)
  case hq =>
    intro W hWB
    replace H := H.call hWB
    have k0 := fun p : Over _ => H.over (b := w.heap.size) (o := 0) (v := .int .i64 x) (by simp) p
    have k1 := fun p : Over _ => H.over (b := w.heap.size) (o := 1) (v := .int .i64 y) (by simp) p
    have k2 := fun p : Over _ => H.over (b := w.heap.size) (o := 2) (v := .int .i64 m) (by simp) p
    have k3 := fun p : Over _ => H.over (b := w.heap.size) (o := 3) (v := .int .i64 t) (by simp) p
    have k4 := fun p : Over _ => H.over (b := w.heap.size + 1) (o := 0) (v := .int .i64 x2) (by simp) p
    have k5 := fun p : Over _ => H.over (b := w.heap.size + 1) (o := 1) (v := .int .i64 y2) (by simp) p
    have k6 := fun p : Over _ => H.over (b := w.heap.size + 1) (o := 2) (v := .int .i64 m2) (by simp) p
    have k7 := fun p : Over _ => H.over (b := w.heap.size + 1) (o := 3) (v := .int .i64 t2) (by simp) p
    simp only [rep, List.take_succ_cons, List.take_zero, List.contains_cons, List.contains_nil, Nat.reduceBEq, Bool.or_false, Bool.or_true, Bool.false_eq_true, ↓reduceIte, Nat.reduceAdd, Nat.zero_add, tv, tw, Bool.or_self, beq_self_eq_true]
    repeat (go_big_quiet_step (first | (go_at_call 93; rename_i p; refine (parts_xy _ _ _ _ _).mono ?_; rintro e' w' ⟨rfl, hb1⟩; exact ⟨rfl, p.next hb1⟩)))
    exact wpQuiet_nil rfl
  case hk =>
    intro w4 g g2 hb hg0 hg1 hg hg3 hg4 hg5 hne
    simp only [List.drop_succ_cons, List.drop_zero, Act.put, ptr0, List.setIfInBounds_toArray, List.set_cons_succ, List.set_cons_zero]
    have hl0 := H.lt (b := w.heap.size + 2) (o := 0) (v := .int .i64 0) (by simp)
    have H1 := ((H.call hb).new4 hg1 hg).new4 hg4 hg5
    have dc0 := H1.get (b := g) (o := 0) (v := .int .i64 0) (by simp)
    have dc1 := H1.get (b := g) (o := 1) (v := .int .i64 0) (by simp)
    have dc2 := H1.get (b := g) (o := 2) (v := .int .i64 0) (by simp)
    have dc3 := H1.get (b := g) (o := 3) (v := .int .i64 0) (by simp)
    have dc4 := H1.get (b := g2) (o := 0) (v := .int .i64 0) (by simp)
    have dc5 := H1.get (b := g2) (o := 1) (v := .int .i64 0) (by simp)
    have dc6 := H1.get (b := g2) (o := 2) (v := .int .i64 0) (by simp)
    have dc7 := H1.get (b := g2) (o := 3) (v := .int .i64 0) (by simp)
    have dz0 := H1.fz (b := g) (o := 0) (v := .int .i64 0) (by simp)
    have dz1 := H1.fz (b := g) (o := 1) (v := .int .i64 0) (by simp)
    have dz2 := H1.fz (b := g) (o := 2) (v := .int .i64 0) (by simp)
    have dz3 := H1.fz (b := g) (o := 3) (v := .int .i64 0) (by simp)
    have dz4 := H1.fz (b := g2) (o := 0) (v := .int .i64 0) (by simp)
    have dz5 := H1.fz (b := g2) (o := 1) (v := .int .i64 0) (by simp)
    have dz6 := H1.fz (b := g2) (o := 2) (v := .int .i64 0) (by simp)
    have dz7 := H1.fz (b := g2) (o := 3) (v := .int .i64 0) (by simp)
    obtain ⟨w5, hw5, H5⟩ : ∃ W5, W5 = ((((((((w4.setCell ⟨g, 0, none⟩ (.int .i64 x)).setCell ⟨g, 1, none⟩ (.int .i64 y)).setCell ⟨g, 2, none⟩ (.int .i64 m)).setCell ⟨g, 3, none⟩ (.int .i64 t)).setCell ⟨g2, 0, none⟩ (.int .i64 x2)).setCell ⟨g2, 1, none⟩ (.int .i64 y2)).setCell ⟨g2, 2, none⟩ (.int .i64 m2)).setCell ⟨g2, 3, none⟩ (.int .i64 t2)) ∧ Hd w [(g2, 0, .int .i64 x2), (g2, 1, .int .i64 y2), (g2, 2, .int .i64 m2), (g2, 3, .int .i64 t2), (g, 0, .int .i64 x), (g, 1, .int .i64 y), (g, 2, .int .i64 m), (g, 3, .int .i64 t), (w.heap.size + 2, 0, .int .i64 0), (w.heap.size + 2, 1, .int .i64 0), (w.heap.size + 2, 2, .int .i64 0), (w.heap.size + 2, 3, .int .i64 0), (w.heap.size + 1, 0, .int .i64 x2), (w.heap.size + 1, 1, .int .i64 y2), (w.heap.size + 1, 2, .int .i64 m2), (w.heap.size + 1, 3, .int .i64 t2), (w.heap.size, 0, .int .i64 x), (w.heap.size, 1, .int .i64 y), (w.heap.size, 2, .int .i64 m), (w.heap.size, 3, .int .i64 t)] W5 := ⟨_, rfl, by
      have k1 : Hd w [(g, 0, .int .i64 0), (g, 1, .int .i64 0), (g, 2, .int .i64 0), (g, 3, .int .i64 0), (g2, 0, .int .i64 0), (g2, 1, .int .i64 0), (g2, 2, .int .i64 0), (g2, 3, .int .i64 0), (w.heap.size + 2, 0, .int .i64 0), (w.heap.size + 2, 1, .int .i64 0), (w.heap.size + 2, 2, .int .i64 0), (w.heap.size + 2, 3, .int .i64 0), (w.heap.size + 1, 0, .int .i64 x2), (w.heap.size + 1, 1, .int .i64 y2), (w.heap.size + 1, 2, .int .i64 m2), (w.heap.size + 1, 3, .int .i64 t2), (w.heap.size, 0, .int .i64 x), (w.heap.size, 1, .int .i64 y), (w.heap.size, 2, .int .i64 m), (w.heap.size, 3, .int .i64 t)] w4 := H1.weak (by simp; try grind)
      have k2 := Hd.setF k1 (by omega) (by simp; omega) (.int .i64 x) (.int .i64 y) (.int .i64 m) (.int .i64 t)
      have k3 : Hd w [(g2, 0, .int .i64 0), (g2, 1, .int .i64 0), (g2, 2, .int .i64 0), (g2, 3, .int .i64 0), (g, 0, .int .i64 x), (g, 1, .int .i64 y), (g, 2, .int .i64 m), (g, 3, .int .i64 t), (w.heap.size + 2, 0, .int .i64 0), (w.heap.size + 2, 1, .int .i64 0), (w.heap.size + 2, 2, .int .i64 0), (w.heap.size + 2, 3, .int .i64 0), (w.heap.size + 1, 0, .int .i64 x2), (w.heap.size + 1, 1, .int .i64 y2), (w.heap.size + 1, 2, .int .i64 m2), (w.heap.size + 1, 3, .int .i64 t2), (w.heap.size, 0, .int .i64 x), (w.heap.size, 1, .int .i64 y), (w.heap.size, 2, .int .i64 m), (w.heap.size, 3, .int .i64 t)] _ := k2.weak (by simp; try grind)
      exact Hd.setF k3 (by omega) (by simp; omega) (.int .i64 x2) (.int .i64 y2) (.int .i64 m2) (.int .i64 t2)⟩
    go_simp
    go_wp2_with (go_at_call 72; rw [← hw5]; clear hw5 H H1 hb c0 c1 c2 c3 c4 c5 c6 c7 c8 c9 c10 c11 z0 z1 z2 z3 gs n0 n1 n2 n3 dc0 dc1 dc2 dc3 dc4 dc5 dc6 dc7 dz0 dz1 dz2 dz3 dz4 dz5 dz6 dz7; have H := H5; clear H5; replace hN := hN.below H.below; replace hR := hR.below H.below; refine (hT _).mono ?_; rintro e w' ⟨rfl, hb⟩; replace H := H.call hb; replace hN := hN.below hb; replace hR := hR.below hb; clear hb; have gl := H.lt (b := g) (o := 0) (v := .int .i64 x) (by simp); have gl2 := H.lt (b := g2) (o := 0) (v := .int .i64 x2) (by simp); have gr := H.lt (b := w.heap.size + 2) (o := 0) (v := .int .i64 0) (by simp); obtain ⟨gs, n0, n1, n2, n3⟩ := Gn.all hN; have cc0 := H.get (b := g) (o := 0) (v := .int .i64 x) (by simp); have cc1 := H.get (b := g) (o := 1) (v := .int .i64 y) (by simp); have cc2 := H.get (b := g) (o := 2) (v := .int .i64 m) (by simp); have cc3 := H.get (b := g) (o := 3) (v := .int .i64 t) (by simp); have cc4 := H.get (b := g2) (o := 0) (v := .int .i64 x2) (by simp); have cc5 := H.get (b := g2) (o := 1) (v := .int .i64 y2) (by simp); have cc6 := H.get (b := g2) (o := 2) (v := .int .i64 m2) (by simp); have cc7 := H.get (b := g2) (o := 3) (v := .int .i64 t2) (by simp); have rc0 := H.get (b := w.heap.size + 2) (o := 0) (v := .int .i64 0) (by simp); have rc1 := H.get (b := w.heap.size + 2) (o := 1) (v := .int .i64 0) (by simp); have rc2 := H.get (b := w.heap.size + 2) (o := 2) (v := .int .i64 0) (by simp); have rc3 := H.get (b := w.heap.size + 2) (o := 3) (v := .int .i64 0) (by simp); have rz0 := H.fz (b := w.heap.size + 2) (o := 0) (v := .int .i64 0) (by simp); have rz1 := H.fz (b := w.heap.size + 2) (o := 1) (v := .int .i64 0) (by simp); have rz2 := H.fz (b := w.heap.size + 2) (o := 2) (v := .int .i64 0) (by simp); have rz3 := H.fz (b := w.heap.size + 2) (o := 3) (v := .int .i64 0) (by simp))
    have H9 : Hd w [(w.heap.size + 2, 0, .int .i64 0), (w.heap.size + 2, 1, .int .i64 0), (w.heap.size + 2, 2, .int .i64 0), (w.heap.size + 2, 3, .int .i64 0)] w' := H.weak (by simp)
    have HA := (Hd.setF H9 (by omega) (by simp) (.int .i64 1) (.int .i64 0) (.int .i64 0) (.int .i64 0)).alloc (.cells #[.int .i64 r1, .int .i64 r2] 26)
    refine bodyPost_ret (results_four rfl _ _ (w.heap.size + 2) (.int .i64 1) (.int .i64 0) (.int .i64 0) (.int .i64 0) _ rfl (HA.get (o := 0) (by simp)) (HA.get (o := 1) (by simp)) (HA.get (o := 2) (by simp)) (HA.get (o := 3) (by simp)) Tryd.underlying30 rfl (by kernel_rfl)) rfl ?_
    exact ⟨rfl, HA.below⟩
end Go.Proofs.YthbbgkpkijlclaaDoor.num
namespace Go.Proofs.YthbbgkpkijlclaaDoor.num
open Go.ChangeShapes Go.WideShapes Go.ChangeAt Go.RowKit
set_option linter.unusedVariables false

set_option maxRecDepth 100000 in
set_option maxHeartbeats 4000000 in
theorem iVMeet_some (x y m t x2 y2 m2 t2 : Int) (h : some10 (x, y, m, t) = true) (h2 : some10 (x2, y2, m2, t2) = true) (hm : (meet9 (m, t) (m2, t2)).2 = true) (w : World) (hN : Gn w) (hR : Gv w 1 none8) :
    Calls Tryd.prog 32 #[.agg #[.int .i64 x, .int .i64 y, .int .i64 m, .int .i64 t], .agg #[.int .i64 x2, .int .i64 y2, .int .i64 m2, .int .i64 t2]] w fun e w' => e = .returned (.agg #[.int .i64 (meet10 (x, y, m, t) (x2, y2, m2, t2)).1, .int .i64 (meet10 (x, y, m, t) (x2, y2, m2, t2)).2.1, .int .i64 (meet10 (x, y, m, t) (x2, y2, m2, t2)).2.2.1, .int .i64 (meet10 (x, y, m, t) (x2, y2, m2, t2)).2.2.2]) ∧ Below w.heap.size w w' := by
  have e : meet10 (x, y, m, t) (x2, y2, m2, t2) = make10 (meet8 (x, y) (x2, y2)) (meet9 (m, t) (m2, t2)).1 := by
    unfold meet10
    rw [if_neg (by simp [h, h2]), if_pos (show (meet9 (rst (x, y, m, t)) (rst (x2, y2, m2, t2))).2 = true from hm)]
    rfl
  rw [e]
  clear e
  have hT := fun w => iMeet_xy9 m t m2 t2 w
  generalize meet9 (m, t) (m2, t2) = r at *
  obtain ⟨⟨r1, r2⟩, r3⟩ := r
  simp only at hm ⊢
  subst hm
  simp only [mv9] at hT
  have hJ := fun w (hR : Gv w 1 none8) => iMeet_xy x y x2 y2 w hR
  generalize meet8 (x, y) (x2, y2) = j at *
  obtain ⟨j1, j2⟩ := j
  have hM := fun w (hN : Gn w) (hR : Gv w 1 none8) => iMake_xy j1 j2 r1 r2 w hN hR
  generalize make10 (j1, j2) (r1, r2) = q at *
  obtain ⟨W, hW, H⟩ : ∃ W, W = ((w.alloc (.cells #[.int .i64 x, .int .i64 y, .int .i64 m, .int .i64 t] 30)).alloc (.cells #[.int .i64 x2, .int .i64 y2, .int .i64 m2, .int .i64 t2] 30)).alloc (.cells #[.int .i64 0, .int .i64 0, .int .i64 0, .int .i64 0] 30) ∧ Hd w [(w.heap.size + 2, 0, .int .i64 0), (w.heap.size + 2, 1, .int .i64 0), (w.heap.size + 2, 2, .int .i64 0), (w.heap.size + 2, 3, .int .i64 0), (w.heap.size + 1, 0, .int .i64 x2), (w.heap.size + 1, 1, .int .i64 y2), (w.heap.size + 1, 2, .int .i64 m2), (w.heap.size + 1, 3, .int .i64 t2), (w.heap.size, 0, .int .i64 x), (w.heap.size, 1, .int .i64 y), (w.heap.size, 2, .int .i64 m), (w.heap.size, 3, .int .i64 t)] W := ⟨_, rfl, by
    have h := ((((Hd.start w).box4 (.int .i64 x) (.int .i64 y) (.int .i64 m) (.int .i64 t) 30).box4 (.int .i64 x2) (.int .i64 y2) (.int .i64 m2) (.int .i64 t2) 30).box4 (.int .i64 0) (.int .i64 0) (.int .i64 0) (.int .i64 0) 30)
    simp only [size_alloc1] at h
    exact h⟩
  go_enter Tryd.func32, Tryd.ntmps32
  go_wp2_with fail
  rw [← hW]
  clear hW
  have c0 := H.get (b := w.heap.size) (o := 0) (v := .int .i64 x) (by simp)
  have c1 := H.get (b := w.heap.size) (o := 1) (v := .int .i64 y) (by simp)
  have c2 := H.get (b := w.heap.size) (o := 2) (v := .int .i64 m) (by simp)
  have c3 := H.get (b := w.heap.size) (o := 3) (v := .int .i64 t) (by simp)
  have c4 := H.get (b := w.heap.size + 1) (o := 0) (v := .int .i64 x2) (by simp)
  have c5 := H.get (b := w.heap.size + 1) (o := 1) (v := .int .i64 y2) (by simp)
  have c6 := H.get (b := w.heap.size + 1) (o := 2) (v := .int .i64 m2) (by simp)
  have c7 := H.get (b := w.heap.size + 1) (o := 3) (v := .int .i64 t2) (by simp)
  have c8 := H.get (b := w.heap.size + 2) (o := 0) (v := .int .i64 0) (by simp)
  have c9 := H.get (b := w.heap.size + 2) (o := 1) (v := .int .i64 0) (by simp)
  have c10 := H.get (b := w.heap.size + 2) (o := 2) (v := .int .i64 0) (by simp)
  have c11 := H.get (b := w.heap.size + 2) (o := 3) (v := .int .i64 0) (by simp)
  have z0 := H.fz (b := w.heap.size + 2) (o := 0) (v := .int .i64 0) (by simp)
  have z1 := H.fz (b := w.heap.size + 2) (o := 1) (v := .int .i64 0) (by simp)
  have z2 := H.fz (b := w.heap.size + 2) (o := 2) (v := .int .i64 0) (by simp)
  have z3 := H.fz (b := w.heap.size + 2) (o := 3) (v := .int .i64 0) (by simp)
  obtain ⟨gs, n0, n1, n2, n3⟩ := Gn.all (hN.below H.below)
  go_wp2_with (first | (go_at_call 101; refine (isome_xy _ _ _ _ _ (hN.below H.below) (hR.below H.below)).mono ?_; rintro e w' ⟨rfl, hb⟩; (first | rw [h] | rw [h2]); replace H := H.call hb; clear hb; have c0 := H.get (b := w.heap.size) (o := 0) (v := .int .i64 x) (by simp); have c1 := H.get (b := w.heap.size) (o := 1) (v := .int .i64 y) (by simp); have c2 := H.get (b := w.heap.size) (o := 2) (v := .int .i64 m) (by simp); have c3 := H.get (b := w.heap.size) (o := 3) (v := .int .i64 t) (by simp); have c4 := H.get (b := w.heap.size + 1) (o := 0) (v := .int .i64 x2) (by simp); have c5 := H.get (b := w.heap.size + 1) (o := 1) (v := .int .i64 y2) (by simp); have c6 := H.get (b := w.heap.size + 1) (o := 2) (v := .int .i64 m2) (by simp); have c7 := H.get (b := w.heap.size + 1) (o := 3) (v := .int .i64 t2) (by simp); have c8 := H.get (b := w.heap.size + 2) (o := 0) (v := .int .i64 0) (by simp); have c9 := H.get (b := w.heap.size + 2) (o := 1) (v := .int .i64 0) (by simp); have c10 := H.get (b := w.heap.size + 2) (o := 2) (v := .int .i64 0) (by simp); have c11 := H.get (b := w.heap.size + 2) (o := 3) (v := .int .i64 0) (by simp); have z0 := H.fz (b := w.heap.size + 2) (o := 0) (v := .int .i64 0) (by simp); have z1 := H.fz (b := w.heap.size + 2) (o := 1) (v := .int .i64 0) (by simp); have z2 := H.fz (b := w.heap.size + 2) (o := 2) (v := .int .i64 0) (by simp); have z3 := H.fz (b := w.heap.size + 2) (o := 3) (v := .int .i64 0) (by simp); obtain ⟨gs, n0, n1, n2, n3⟩ := Gn.all (hN.below H.below)))
  apply wp_region_free2 6 4 5 5 6 (.cells #[.int .i64 0, .int .i64 0, .int .i64 0, .int .i64 0] 98) (.cells #[.int .i64 0, .int .i64 0, .int .i64 0, .int .i64 0] 98) (by decide) (by decide) (Nat.le_of_ble_eq_true rfl) (by kernel_rfl) (by kernel_rfl) (by kernel_rfl) (by kernel_rfl) (by intro o ho; have ho' := Option.some.inj ho; subst ho'; intro a w; kernel_rfl) (by intro o ho; have ho' := Option.some.inj ho; subst ho'; intro a w; kernel_rfl)
  case hq =>
    intro W hWB
    replace H := H.call hWB
    have k0 := fun p : Over _ => H.over (b := w.heap.size) (o := 0) (v := .int .i64 x) (by simp) p
    have k1 := fun p : Over _ => H.over (b := w.heap.size) (o := 1) (v := .int .i64 y) (by simp) p
    have k2 := fun p : Over _ => H.over (b := w.heap.size) (o := 2) (v := .int .i64 m) (by simp) p
    have k3 := fun p : Over _ => H.over (b := w.heap.size) (o := 3) (v := .int .i64 t) (by simp) p
    have k4 := fun p : Over _ => H.over (b := w.heap.size + 1) (o := 0) (v := .int .i64 x2) (by simp) p
    have k5 := fun p : Over _ => H.over (b := w.heap.size + 1) (o := 1) (v := .int .i64 y2) (by simp) p
    have k6 := fun p : Over _ => H.over (b := w.heap.size + 1) (o := 2) (v := .int .i64 m2) (by simp) p
    have k7 := fun p : Over _ => H.over (b := w.heap.size + 1) (o := 3) (v := .int .i64 t2) (by simp) p
    simp only [rep, List.take_succ_cons, List.take_zero, List.contains_cons, List.contains_nil, Nat.reduceBEq, Bool.or_false, Bool.or_true, Bool.false_eq_true, ↓reduceIte, Nat.reduceAdd, Nat.zero_add, tv, tw, Bool.or_self, beq_self_eq_true]
    repeat (go_big_quiet_step (first | (go_at_call 93; rename_i p; refine (parts_xy _ _ _ _ _).mono ?_; rintro e' w' ⟨rfl, hb1⟩; exact ⟨rfl, p.next hb1⟩)))
    exact wpQuiet_nil rfl
  case hk =>
    intro w4 g g2 hb hg0 hg1 hg hg3 hg4 hg5 hne
    simp only [List.drop_succ_cons, List.drop_zero, Act.put, ptr0, List.setIfInBounds_toArray, List.set_cons_succ, List.set_cons_zero]
    have hl0 := H.lt (b := w.heap.size + 2) (o := 0) (v := .int .i64 0) (by simp)
    have H1 := ((H.call hb).new4 hg1 hg).new4 hg4 hg5
    have dc0 := H1.get (b := g) (o := 0) (v := .int .i64 0) (by simp)
    have dc1 := H1.get (b := g) (o := 1) (v := .int .i64 0) (by simp)
    have dc2 := H1.get (b := g) (o := 2) (v := .int .i64 0) (by simp)
    have dc3 := H1.get (b := g) (o := 3) (v := .int .i64 0) (by simp)
    have dc4 := H1.get (b := g2) (o := 0) (v := .int .i64 0) (by simp)
    have dc5 := H1.get (b := g2) (o := 1) (v := .int .i64 0) (by simp)
    have dc6 := H1.get (b := g2) (o := 2) (v := .int .i64 0) (by simp)
    have dc7 := H1.get (b := g2) (o := 3) (v := .int .i64 0) (by simp)
    have dz0 := H1.fz (b := g) (o := 0) (v := .int .i64 0) (by simp)
    have dz1 := H1.fz (b := g) (o := 1) (v := .int .i64 0) (by simp)
    have dz2 := H1.fz (b := g) (o := 2) (v := .int .i64 0) (by simp)
    have dz3 := H1.fz (b := g) (o := 3) (v := .int .i64 0) (by simp)
    have dz4 := H1.fz (b := g2) (o := 0) (v := .int .i64 0) (by simp)
    have dz5 := H1.fz (b := g2) (o := 1) (v := .int .i64 0) (by simp)
    have dz6 := H1.fz (b := g2) (o := 2) (v := .int .i64 0) (by simp)
    have dz7 := H1.fz (b := g2) (o := 3) (v := .int .i64 0) (by simp)
    obtain ⟨w5, hw5, H5⟩ : ∃ W5, W5 = ((((((((w4.setCell ⟨g, 0, none⟩ (.int .i64 x)).setCell ⟨g, 1, none⟩ (.int .i64 y)).setCell ⟨g, 2, none⟩ (.int .i64 m)).setCell ⟨g, 3, none⟩ (.int .i64 t)).setCell ⟨g2, 0, none⟩ (.int .i64 x2)).setCell ⟨g2, 1, none⟩ (.int .i64 y2)).setCell ⟨g2, 2, none⟩ (.int .i64 m2)).setCell ⟨g2, 3, none⟩ (.int .i64 t2)) ∧ Hd w [(g2, 0, .int .i64 x2), (g2, 1, .int .i64 y2), (g2, 2, .int .i64 m2), (g2, 3, .int .i64 t2), (g, 0, .int .i64 x), (g, 1, .int .i64 y), (g, 2, .int .i64 m), (g, 3, .int .i64 t), (w.heap.size + 2, 0, .int .i64 0), (w.heap.size + 2, 1, .int .i64 0), (w.heap.size + 2, 2, .int .i64 0), (w.heap.size + 2, 3, .int .i64 0), (w.heap.size + 1, 0, .int .i64 x2), (w.heap.size + 1, 1, .int .i64 y2), (w.heap.size + 1, 2, .int .i64 m2), (w.heap.size + 1, 3, .int .i64 t2), (w.heap.size, 0, .int .i64 x), (w.heap.size, 1, .int .i64 y), (w.heap.size, 2, .int .i64 m), (w.heap.size, 3, .int .i64 t)] W5 := ⟨_, rfl, by
      have k1 : Hd w [(g, 0, .int .i64 0), (g, 1, .int .i64 0), (g, 2, .int .i64 0), (g, 3, .int .i64 0), (g2, 0, .int .i64 0), (g2, 1, .int .i64 0), (g2, 2, .int .i64 0), (g2, 3, .int .i64 0), (w.heap.size + 2, 0, .int .i64 0), (w.heap.size + 2, 1, .int .i64 0), (w.heap.size + 2, 2, .int .i64 0), (w.heap.size + 2, 3, .int .i64 0), (w.heap.size + 1, 0, .int .i64 x2), (w.heap.size + 1, 1, .int .i64 y2), (w.heap.size + 1, 2, .int .i64 m2), (w.heap.size + 1, 3, .int .i64 t2), (w.heap.size, 0, .int .i64 x), (w.heap.size, 1, .int .i64 y), (w.heap.size, 2, .int .i64 m), (w.heap.size, 3, .int .i64 t)] w4 := H1.weak (by simp; try grind)
      have k2 := Hd.setF k1 (by omega) (by simp; omega) (.int .i64 x) (.int .i64 y) (.int .i64 m) (.int .i64 t)
      have k3 : Hd w [(g2, 0, .int .i64 0), (g2, 1, .int .i64 0), (g2, 2, .int .i64 0), (g2, 3, .int .i64 0), (g, 0, .int .i64 x), (g, 1, .int .i64 y), (g, 2, .int .i64 m), (g, 3, .int .i64 t), (w.heap.size + 2, 0, .int .i64 0), (w.heap.size + 2, 1, .int .i64 0), (w.heap.size + 2, 2, .int .i64 0), (w.heap.size + 2, 3, .int .i64 0), (w.heap.size + 1, 0, .int .i64 x2), (w.heap.size + 1, 1, .int .i64 y2), (w.heap.size + 1, 2, .int .i64 m2), (w.heap.size + 1, 3, .int .i64 t2), (w.heap.size, 0, .int .i64 x), (w.heap.size, 1, .int .i64 y), (w.heap.size, 2, .int .i64 m), (w.heap.size, 3, .int .i64 t)] _ := k2.weak (by simp; try grind)
      exact Hd.setF k3 (by omega) (by simp; omega) (.int .i64 x2) (.int .i64 y2) (.int .i64 m2) (.int .i64 t2)⟩
    go_simp
    go_wp2_with (go_at_call 72; rw [← hw5]; clear hw5 H H1 hb c0 c1 c2 c3 c4 c5 c6 c7 c8 c9 c10 c11 z0 z1 z2 z3 gs n0 n1 n2 n3 dc0 dc1 dc2 dc3 dc4 dc5 dc6 dc7 dz0 dz1 dz2 dz3 dz4 dz5 dz6 dz7; have H := H5; clear H5; replace hN := hN.below H.below; replace hR := hR.below H.below; refine (hT _).mono ?_; rintro e w' ⟨rfl, hb⟩; replace H := H.call hb; replace hN := hN.below hb; replace hR := hR.below hb; clear hb; have gl := H.lt (b := g) (o := 0) (v := .int .i64 x) (by simp); have gl2 := H.lt (b := g2) (o := 0) (v := .int .i64 x2) (by simp); have gr := H.lt (b := w.heap.size + 2) (o := 0) (v := .int .i64 0) (by simp); obtain ⟨gs, n0, n1, n2, n3⟩ := Gn.all hN; have cc0 := H.get (b := g) (o := 0) (v := .int .i64 x) (by simp); have cc1 := H.get (b := g) (o := 1) (v := .int .i64 y) (by simp); have cc2 := H.get (b := g) (o := 2) (v := .int .i64 m) (by simp); have cc3 := H.get (b := g) (o := 3) (v := .int .i64 t) (by simp); have cc4 := H.get (b := g2) (o := 0) (v := .int .i64 x2) (by simp); have cc5 := H.get (b := g2) (o := 1) (v := .int .i64 y2) (by simp); have cc6 := H.get (b := g2) (o := 2) (v := .int .i64 m2) (by simp); have cc7 := H.get (b := g2) (o := 3) (v := .int .i64 t2) (by simp); have rc0 := H.get (b := w.heap.size + 2) (o := 0) (v := .int .i64 0) (by simp); have rc1 := H.get (b := w.heap.size + 2) (o := 1) (v := .int .i64 0) (by simp); have rc2 := H.get (b := w.heap.size + 2) (o := 2) (v := .int .i64 0) (by simp); have rc3 := H.get (b := w.heap.size + 2) (o := 3) (v := .int .i64 0) (by simp); have rz0 := H.fz (b := w.heap.size + 2) (o := 0) (v := .int .i64 0) (by simp); have rz1 := H.fz (b := w.heap.size + 2) (o := 1) (v := .int .i64 0) (by simp); have rz2 := H.fz (b := w.heap.size + 2) (o := 2) (v := .int .i64 0) (by simp); have rz3 := H.fz (b := w.heap.size + 2) (o := 3) (v := .int .i64 0) (by simp))
    have H2 := H.box (.int .i64 r1) (.int .i64 r2) 26
    have hbb := (Below.refl w'.heap.size w').alloc (Nat.le_refl _) (.cells #[.int .i64 r1, .int .i64 r2] 26)
    replace hN := hN.below hbb
    replace hR := hR.below hbb
    generalize w'.alloc (.cells #[.int .i64 r1, .int .i64 r2] 26) = W2 at *
    generalize w'.heap.size = g3 at *
    clear H hbb gs n0 n1 n2 n3 cc0 cc1 cc2 cc3 cc4 cc5 cc6 cc7 rc0 rc1 rc2 rc3 rz0 rz1 rz2 rz3
    have H := H2
    clear H2
    have k0 := fun p : Over _ => H.over (b := g) (o := 0) (v := .int .i64 x) (by simp) p
    have k1 := fun p : Over _ => H.over (b := g) (o := 1) (v := .int .i64 y) (by simp) p
    have k2 := fun p : Over _ => H.over (b := g) (o := 2) (v := .int .i64 m) (by simp) p
    have k3 := fun p : Over _ => H.over (b := g) (o := 3) (v := .int .i64 t) (by simp) p
    have k4 := fun p : Over _ => H.over (b := g2) (o := 0) (v := .int .i64 x2) (by simp) p
    have k5 := fun p : Over _ => H.over (b := g2) (o := 1) (v := .int .i64 y2) (by simp) p
    have k6 := fun p : Over _ => H.over (b := g2) (o := 2) (v := .int .i64 m2) (by simp) p
    have k7 := fun p : Over _ => H.over (b := g2) (o := 3) (v := .int .i64 t2) (by simp) p
    have k8 := fun p : Over _ => H.over (b := g3) (o := 0) (v := .int .i64 r1) (by simp) p
    have k9 := fun p : Over _ => H.over (b := g3) (o := 1) (v := .int .i64 r2) (by simp) p
    refine wp_region_tail_over rfl rfl rfl rfl (by kernel_rfl) (by kernel_rfl) (by kernel_rfl) ?_
    simp only [List.dropLast, tv, List.cons_append, List.nil_append]
    repeat (go_big_quiet_step (first | (go_at_call 102; rename_i p; refine (hJ _ (hR.over p)).mono ?_; rintro e' w' ⟨rfl, hb1⟩; exact ⟨rfl, p.next hb1⟩) | (go_at_call 22; rename_i p; refine (hM _ (hN.over p) (hR.over p)).mono ?_; rintro e' w' ⟨rfl, hb1⟩; exact ⟨rfl, p.next hb1⟩)))
    refine wpQuiet_nil ?_
    rintro _ ⟨p, rfl⟩
    replace H := H.call p.below
    clear k0 k1 k2 k3 k4 k5 k6 k7 k8 k9
    generalize p.w = w6 at *
    clear p
    have rc0 := H.get (b := w.heap.size + 2) (o := 0) (v := .int .i64 0) (by simp)
    have rc1 := H.get (b := w.heap.size + 2) (o := 1) (v := .int .i64 0) (by simp)
    have rc2 := H.get (b := w.heap.size + 2) (o := 2) (v := .int .i64 0) (by simp)
    have rc3 := H.get (b := w.heap.size + 2) (o := 3) (v := .int .i64 0) (by simp)
    have rz0 := H.fz (b := w.heap.size + 2) (o := 0) (v := .int .i64 0) (by simp)
    have rz1 := H.fz (b := w.heap.size + 2) (o := 1) (v := .int .i64 0) (by simp)
    have rz2 := H.fz (b := w.heap.size + 2) (o := 2) (v := .int .i64 0) (by simp)
    have rz3 := H.fz (b := w.heap.size + 2) (o := 3) (v := .int .i64 0) (by simp)
    go_simp
    go_wp2
    obtain ⟨f0, f1, f2, f3, fb⟩ := H.fill4 (b := w.heap.size + 2) (x := .int .i64 0) (y := .int .i64 0) (z := .int .i64 0) (u := .int .i64 0) (by simp) (by simp) (by simp) (by simp) (by omega) (.int .i64 q.1) (.int .i64 q.2.1) (.int .i64 q.2.2.1) (.int .i64 q.2.2.2)
    refine bodyPost_ret (results_four rfl _ _ (w.heap.size + 2) (.int .i64 q.1) (.int .i64 q.2.1) (.int .i64 q.2.2.1) (.int .i64 q.2.2.2) _ rfl f0 f1 f2 f3 Tryd.underlying30 rfl (by kernel_rfl)) rfl ?_
    exact ⟨rfl, fb⟩
end Go.Proofs.YthbbgkpkijlclaaDoor.num
namespace Go.Proofs.YthbbgkpkijlclaaDoor.num
open Go.ChangeShapes Go.WideShapes Go.ChangeAt Go.RowKit
set_option linter.unusedVariables false

theorem iVMeet_xy (x y m t x2 y2 m2 t2 : Int) (w : World) (hN : Gn w) (hR : Gv w 1 none8) :
    Calls Tryd.prog 32 #[.agg #[.int .i64 x, .int .i64 y, .int .i64 m, .int .i64 t], .agg #[.int .i64 x2, .int .i64 y2, .int .i64 m2, .int .i64 t2]] w fun e w' => e = .returned (.agg #[.int .i64 (meet10 (x, y, m, t) (x2, y2, m2, t2)).1, .int .i64 (meet10 (x, y, m, t) (x2, y2, m2, t2)).2.1, .int .i64 (meet10 (x, y, m, t) (x2, y2, m2, t2)).2.2.1, .int .i64 (meet10 (x, y, m, t) (x2, y2, m2, t2)).2.2.2]) ∧ Below w.heap.size w w' := by
  by_cases hb : some10 (x, y, m, t) = false ∨ some10 (x2, y2, m2, t2) = false
  · exact iVMeet_bad x y m t x2 y2 m2 t2 hb w hN hR
  · simp only [not_or, Bool.not_eq_false] at hb
    cases hm : (meet9 (m, t) (m2, t2)).2
    · exact iVMeet_no x y m t x2 y2 m2 t2 hb.1 hb.2 hm w hN hR
    · exact iVMeet_some x y m t x2 y2 m2 t2 hb.1 hb.2 hm w hN hR
end Go.Proofs.YthbbgkpkijlclaaDoor.num
namespace Go.Proofs.YthbbgkpkijlclaaDoor.fnExactValMeet
open Go.ChangeShapes Go.WideShapes Go.ChangeAt Go.RowKit Go.Proofs.YthbbgkpkijlclaaDoor.num
set_option linter.unusedVariables false

/-- The variables that the row lists. -/
abbrev laid : List (String × DataW Unit) := Rows.fnExactValMeetRow.laid
/-- The door's own heap meets the condition. -/
theorem door_met (os : Os) (args : Array Value) : laidMetH Tryd.prog laid ((World.doorLaid Tryd.prog 400 os).forCall (fun _ _ => 0) ⟨#[], args, []⟩).memory :=
  laidMetH_of_parts3 (fuel := 8) (laidMet_of_run' 8 (by kernel_rfl) (by kernel_rfl)) (by kernel_rfl) (by kernel_rfl)
theorem laid_of {W : World} (h : laidMetH Tryd.prog laid W) : Gn W ∧ Gv W 1 (1, 0) := by
  rw [MakeChecks.laidMetH_plain _ _ _ (by kernel_rfl)] at h
  exact ⟨gn_of_head (by kernel_rfl) (by kernel_rfl) h, gv_of_head (by kernel_rfl) (by kernel_rfl) (laidMet.tail h)⟩
set_option maxRecDepth 100000 in
set_option maxHeartbeats 4000000 in
theorem walk (x y m t x2 y2 m2 t2 : Int) (w : World) (hN : Gn w) (hR : Gv w 1 (1, 0)) :
    Calls Tryd.prog 11 #[.agg #[.int .i64 x, .int .i64 y, .int .i64 m, .int .i64 t], .agg #[.int .i64 x2, .int .i64 y2, .int .i64 m2, .int .i64 t2]] w fun e w' => e = .returned (.bool true) ∧ Below w.heap.size w w' := by
  have hS := fun w => sVMeet_xy x y m t x2 y2 m2 t2 w
  have hI := fun w (hN : Gn w) (hR : Gv w 1 none8) => iVMeet_xy x y m t x2 y2 m2 t2 w hN hR
  generalize meet10 (x, y, m, t) (x2, y2, m2, t2) = q at *
  obtain ⟨W, hW, H⟩ : ∃ W, W = (w.alloc (.cells #[.int .i64 x, .int .i64 y, .int .i64 m, .int .i64 t] 56)).alloc (.cells #[.int .i64 x2, .int .i64 y2, .int .i64 m2, .int .i64 t2] 56) ∧ Hd w [(w.heap.size + 1, 0, .int .i64 x2), (w.heap.size + 1, 1, .int .i64 y2), (w.heap.size + 1, 2, .int .i64 m2), (w.heap.size + 1, 3, .int .i64 t2), (w.heap.size, 0, .int .i64 x), (w.heap.size, 1, .int .i64 y), (w.heap.size, 2, .int .i64 m), (w.heap.size, 3, .int .i64 t)] W := ⟨_, rfl, by
    have h := (((Hd.start w).box4 (.int .i64 x) (.int .i64 y) (.int .i64 m) (.int .i64 t) 56).box4 (.int .i64 x2) (.int .i64 y2) (.int .i64 m2) (.int .i64 t2) 56)
    simp only [size_alloc1] at h
    exact h⟩
  go_enter Tryd.func11, Tryd.ntmps11
  go_wp2_with fail
  rw [← hW]
  clear hW
  apply wp_region_free1 6 5 5 (.cells #[.int .i64 0, .int .i64 0, .int .i64 0, .int .i64 0] 30) (Nat.le_of_ble_eq_true rfl) (by kernel_rfl) (by kernel_rfl) (by kernel_rfl) (by kernel_rfl) (by intro o ho; have ho' := Option.some.inj ho; subst ho'; intro a w; kernel_rfl)
  case hq =>
    intro W hWB
    replace H := H.call hWB
    have hN1 := hN.below H.below
    have hR1 := hR.below H.below
    have k0 := fun p : Over _ => H.over (b := w.heap.size + 1) (o := 0) (v := .int .i64 x2) (by simp) p
    have k1 := fun p : Over _ => H.over (b := w.heap.size + 1) (o := 1) (v := .int .i64 y2) (by simp) p
    have k2 := fun p : Over _ => H.over (b := w.heap.size + 1) (o := 2) (v := .int .i64 m2) (by simp) p
    have k3 := fun p : Over _ => H.over (b := w.heap.size + 1) (o := 3) (v := .int .i64 t2) (by simp) p
    have k4 := fun p : Over _ => H.over (b := w.heap.size) (o := 0) (v := .int .i64 x) (by simp) p
    have k5 := fun p : Over _ => H.over (b := w.heap.size) (o := 1) (v := .int .i64 y) (by simp) p
    have k6 := fun p : Over _ => H.over (b := w.heap.size) (o := 2) (v := .int .i64 m) (by simp) p
    have k7 := fun p : Over _ => H.over (b := w.heap.size) (o := 3) (v := .int .i64 t) (by simp) p
    simp only [rep, List.take_succ_cons, List.take_zero, List.contains_cons, List.contains_nil, Nat.reduceBEq, Bool.or_false, Bool.false_eq_true, ↓reduceIte, Nat.reduceAdd, Nat.zero_add, tv, tw, Bool.or_self, beq_self_eq_true]
    repeat (go_big_quiet_step (first | (go_at_call 48; rename_i p; refine (toVal_xy _ _ _ _ _).mono ?_; rintro e' w' ⟨rfl, hb1⟩; exact ⟨rfl, p.next hb1⟩) | (go_at_call 35; rename_i p; refine (hS _).mono ?_; rintro e' w' ⟨rfl, hb1⟩; exact ⟨rfl, p.next hb1⟩)))
    exact wpQuiet_nil rfl
  case hk =>
    intro w4 g hb hg0 hg1 hg
    simp only [List.drop_succ_cons, List.drop_zero, Act.put, ptr0, List.setIfInBounds_toArray, List.set_cons_succ, List.set_cons_zero]
    have hl0 := H.lt (b := w.heap.size + 1) (o := 0) (v := .int .i64 x2) (by simp)
    have hl1 := H.lt (b := w.heap.size) (o := 0) (v := .int .i64 x) (by simp)
    have H1 := (H.call hb).new4 hg1 hg
    have dc0 := H1.get (b := g) (o := 0) (v := .int .i64 0) (by simp)
    have dc1 := H1.get (b := g) (o := 1) (v := .int .i64 0) (by simp)
    have dc2 := H1.get (b := g) (o := 2) (v := .int .i64 0) (by simp)
    have dc3 := H1.get (b := g) (o := 3) (v := .int .i64 0) (by simp)
    have dz0 := H1.fz (b := g) (o := 0) (v := .int .i64 0) (by simp)
    have dz1 := H1.fz (b := g) (o := 1) (v := .int .i64 0) (by simp)
    have dz2 := H1.fz (b := g) (o := 2) (v := .int .i64 0) (by simp)
    have dz3 := H1.fz (b := g) (o := 3) (v := .int .i64 0) (by simp)
    obtain ⟨w5, hw5, H5⟩ : ∃ W5, W5 = ((((w4.setCell ⟨g, 0, none⟩ (.int .i64 q.1)).setCell ⟨g, 1, none⟩ (.int .i64 q.2.1)).setCell ⟨g, 2, none⟩ (.int .i64 q.2.2.1)).setCell ⟨g, 3, none⟩ (.int .i64 q.2.2.2)) ∧ Hd w [(g, 0, .int .i64 q.1), (g, 1, .int .i64 q.2.1), (g, 2, .int .i64 q.2.2.1), (g, 3, .int .i64 q.2.2.2), (w.heap.size + 1, 0, .int .i64 x2), (w.heap.size + 1, 1, .int .i64 y2), (w.heap.size + 1, 2, .int .i64 m2), (w.heap.size + 1, 3, .int .i64 t2), (w.heap.size, 0, .int .i64 x), (w.heap.size, 1, .int .i64 y), (w.heap.size, 2, .int .i64 m), (w.heap.size, 3, .int .i64 t)] W5 := ⟨_, rfl, by
      exact Hd.setF H1 (by omega) (by simp; omega) (.int .i64 q.1) (.int .i64 q.2.1) (.int .i64 q.2.2.1) (.int .i64 q.2.2.2)⟩
    clear hb hl0 hl1
    go_simp
    go_wp2
    rw [← hw5]
    clear hw5 H H1
    have H := H5
    clear H5
    clear dc0 dc1 dc2 dc3 dz0 dz1 dz2 dz3
    apply wp_region_free1 6 5 6 (.cells #[.int .i64 0, .int .i64 0, .int .i64 0, .int .i64 0] 30) (Nat.le_of_ble_eq_true rfl) (by kernel_rfl) (by kernel_rfl) (by kernel_rfl) (by kernel_rfl) (by intro o ho; have ho' := Option.some.inj ho; subst ho'; intro a w; kernel_rfl)
    case hq =>
      intro W hWB
      replace H := H.call hWB
      have hN1 := hN.below H.below
      have hR1 := hR.below H.below
      have k0 := fun p : Over _ => H.over (b := g) (o := 0) (v := .int .i64 q.1) (by simp) p
      have k1 := fun p : Over _ => H.over (b := g) (o := 1) (v := .int .i64 q.2.1) (by simp) p
      have k2 := fun p : Over _ => H.over (b := g) (o := 2) (v := .int .i64 q.2.2.1) (by simp) p
      have k3 := fun p : Over _ => H.over (b := g) (o := 3) (v := .int .i64 q.2.2.2) (by simp) p
      have k4 := fun p : Over _ => H.over (b := w.heap.size + 1) (o := 0) (v := .int .i64 x2) (by simp) p
      have k5 := fun p : Over _ => H.over (b := w.heap.size + 1) (o := 1) (v := .int .i64 y2) (by simp) p
      have k6 := fun p : Over _ => H.over (b := w.heap.size + 1) (o := 2) (v := .int .i64 m2) (by simp) p
      have k7 := fun p : Over _ => H.over (b := w.heap.size + 1) (o := 3) (v := .int .i64 t2) (by simp) p
      have k8 := fun p : Over _ => H.over (b := w.heap.size) (o := 0) (v := .int .i64 x) (by simp) p
      have k9 := fun p : Over _ => H.over (b := w.heap.size) (o := 1) (v := .int .i64 y) (by simp) p
      have k10 := fun p : Over _ => H.over (b := w.heap.size) (o := 2) (v := .int .i64 m) (by simp) p
      have k11 := fun p : Over _ => H.over (b := w.heap.size) (o := 3) (v := .int .i64 t) (by simp) p
      simp only [rep, List.take_succ_cons, List.take_zero, List.contains_cons, List.contains_nil, Nat.reduceBEq, Bool.or_false, Bool.false_eq_true, ↓reduceIte, Nat.reduceAdd, Nat.zero_add, tv, tw, Bool.or_self, beq_self_eq_true]
      repeat (go_big_quiet_step (first | (go_at_call 48; rename_i p; refine (toVal_xy _ _ _ _ _).mono ?_; rintro e' w' ⟨rfl, hb1⟩; exact ⟨rfl, p.next hb1⟩) | (go_at_call 32; rename_i p; refine (hI _ (hN1.over p) (hR1.over p)).mono ?_; rintro e' w' ⟨rfl, hb1⟩; exact ⟨rfl, p.next hb1⟩)))
      exact wpQuiet_nil rfl
    case hk =>
      intro w4 g1 hb hg0 hg1 hg
      simp only [List.drop_succ_cons, List.drop_zero, Act.put, ptr0, List.setIfInBounds_toArray, List.set_cons_succ, List.set_cons_zero]
      have hl0 := H.lt (b := g) (o := 0) (v := .int .i64 q.1) (by simp)
      have hl1 := H.lt (b := w.heap.size + 1) (o := 0) (v := .int .i64 x2) (by simp)
      have hl2 := H.lt (b := w.heap.size) (o := 0) (v := .int .i64 x) (by simp)
      have H1 := (H.call hb).new4 hg1 hg
      have dc0 := H1.get (b := g1) (o := 0) (v := .int .i64 0) (by simp)
      have dc1 := H1.get (b := g1) (o := 1) (v := .int .i64 0) (by simp)
      have dc2 := H1.get (b := g1) (o := 2) (v := .int .i64 0) (by simp)
      have dc3 := H1.get (b := g1) (o := 3) (v := .int .i64 0) (by simp)
      have dz0 := H1.fz (b := g1) (o := 0) (v := .int .i64 0) (by simp)
      have dz1 := H1.fz (b := g1) (o := 1) (v := .int .i64 0) (by simp)
      have dz2 := H1.fz (b := g1) (o := 2) (v := .int .i64 0) (by simp)
      have dz3 := H1.fz (b := g1) (o := 3) (v := .int .i64 0) (by simp)
      obtain ⟨w5, hw5, H5⟩ : ∃ W5, W5 = ((((w4.setCell ⟨g1, 0, none⟩ (.int .i64 q.1)).setCell ⟨g1, 1, none⟩ (.int .i64 q.2.1)).setCell ⟨g1, 2, none⟩ (.int .i64 q.2.2.1)).setCell ⟨g1, 3, none⟩ (.int .i64 q.2.2.2)) ∧ Hd w [(g1, 0, .int .i64 q.1), (g1, 1, .int .i64 q.2.1), (g1, 2, .int .i64 q.2.2.1), (g1, 3, .int .i64 q.2.2.2), (g, 0, .int .i64 q.1), (g, 1, .int .i64 q.2.1), (g, 2, .int .i64 q.2.2.1), (g, 3, .int .i64 q.2.2.2), (w.heap.size + 1, 0, .int .i64 x2), (w.heap.size + 1, 1, .int .i64 y2), (w.heap.size + 1, 2, .int .i64 m2), (w.heap.size + 1, 3, .int .i64 t2), (w.heap.size, 0, .int .i64 x), (w.heap.size, 1, .int .i64 y), (w.heap.size, 2, .int .i64 m), (w.heap.size, 3, .int .i64 t)] W5 := ⟨_, rfl, by
        exact Hd.setF H1 (by omega) (by simp; omega) (.int .i64 q.1) (.int .i64 q.2.1) (.int .i64 q.2.2.1) (.int .i64 q.2.2.2)⟩
      have hx0_0 : g ≠ g1 := by omega
      have hy0_0 := H1.get (b := g) (o := 0) (v := .int .i64 q.1) (by simp)
      have hy0_1 := H1.get (b := g) (o := 1) (v := .int .i64 q.2.1) (by simp)
      have hy0_2 := H1.get (b := g) (o := 2) (v := .int .i64 q.2.2.1) (by simp)
      have hy0_3 := H1.get (b := g) (o := 3) (v := .int .i64 q.2.2.2) (by simp)
      clear hb hl0 hl1 hl2
      go_simp
      go_wp2_with (go_at_call 47; rw [← hw5]; clear hw5 H H1; have H := H5; clear H5; refine (eqVal_xy _ _ _ _ _ _ _ _ _).mono ?_; rintro e w' ⟨rfl, hb⟩; rw [show (decide (q.1 = q.1) && (decide (q.2.1 = q.2.1) && (decide (q.2.2.1 = q.2.2.1) && decide (q.2.2.2 = q.2.2.2)))) = true by simp]; replace H := H.call hb; clear hb)
      go_ret
      exact ⟨rfl, H.below⟩
end Go.Proofs.YthbbgkpkijlclaaDoor.fnExactValMeet
namespace Go.Proofs.YthbbgkpkijlclaaDoor.fnExactValMeet
open Go.ChangeShapes Go.WideShapes Go.ChangeAt Go.RowKit Go.Proofs.YthbbgkpkijlclaaDoor.num
set_option linter.unusedVariables false

set_option maxRecDepth 100000 in
theorem lifted (os : Os) (started : os.Started) (H : Type) (enc : TypeId × Value → H) :
    ReturnsInHanded {} Tryd.checked os 11 .any (fun w args => (Rows.fnExactValMeetSpec.pre enc Tryd.prog Tryd.f11 [] false w args ∧ laidMetH Tryd.prog laid w) ∧ sizedMet enc Tryd.prog Tryd.f11 (OpenSpec.ofChange Rows.fnExactValMeetSpec) false w args)
      (Rows.fnExactValMeetSpec.post enc Tryd.prog Tryd.f11 false true false false) := by
  refine returnsInHanded_of_change_and (C := Tryd.checked) (X := fun w _ => laidMetH Tryd.prog laid w) (fun _ _ _ hh h => h.of_heap hh) own started (by kernel_rfl) Tryd.func11
    (ChangeSpec.witness_shaped (enc := enc) (C := Tryd.checked) (os := os) (X := fun w _ => laidMetH Tryd.prog laid w) false (World.doorLaid Tryd.prog 400 os) #[.agg #[.int .i64 0, .int .i64 0, .int .i64 0, .int .i64 0], .agg #[.int .i64 0, .int .i64 0, .int .i64 0, .int .i64 0]] 8 rfl (World.shaped_of_RefB (by kernel_rfl) (by kernel_rfl)) (by kernel_rfl) (by kernel_rfl) (by kernel_rfl) (door_met os _)) ?_
  intro W base args ds gs before hval0 hW _ _ hL _
  have hval : ∀ (j : Nat) t v, Tryd.f11.params[j]? = some t → args[j]? = some v → Value.okWide Tryd.prog W .any base t v := hval0
  have hW' := hW
  obtain ⟨p, q, hA0, hV0, rfl, hfz, hnd⟩ := hW
  have hA : DataW.TrodAll enc Tryd.prog W 0 (fun _ => true) true Tryd.f11.params.toList args.toList ds p := hA0
  have hV : DataW.TrodVars enc Tryd.prog W (fun _ => true) Rows.fnExactValMeetSpec.vars gs q := hV0
  rw [Tryd.params11] at hA hval
  obtain ⟨v0, vs0, d0, ds0, p0, q0, hargs, rfl, rfl, h0, r0⟩ := trodAll_cons hA
  obtain ⟨v1, vs1, d1, ds1, p1, q1, hvs0, rfl, rfl, h1, r1⟩ := trodAll_cons r0
  obtain ⟨rfl, rfl, rfl⟩ := trodAll_nil r1
  obtain rfl : args = #[v0, v1] := by cases args; simp_all
  have k0 := h0
  have lt0 : ∀ x ∈ p0, x.block < W.heap.size := by obtain ⟨m, hm⟩ := k0; exact DataW.trod_lt m _ _ _ hm
  obtain ⟨x0, y0, m0, t0, rfl⟩ := arg_four (okWide_struct Tryd.underlying56 (hval 0 56 v0 rfl rfl)) h0
  have k1 := h1
  have lt1 : ∀ x ∈ p1, x.block < W.heap.size := by obtain ⟨m, hm⟩ := k1; exact DataW.trod_lt m _ _ _ hm
  obtain ⟨x1, y1, m1, t1, rfl⟩ := arg_four (okWide_struct Tryd.underlying56 (hval 1 56 v1 rfl rfl)) h1
  have hL' := laid_of hL
  clear hA0 hval0
  refine (walk x0 y0 m0 t0 x1 y1 m1 t1 W  hL'.1 hL'.2).mono fun e W' ⟨he, bel⟩ => ?_
  subst he
  have kV := Below.trodVars laidOut bel (ns := Rows.fnExactValMeetSpec.vars) (by kernel_rfl) hV
  have hlen : gs.length = 2 := vars_len hV
  match gs, hlen with
  | [g0, g1], _ =>
    exact ⟨_, rfl, _, _, _, [], _, _, hW', trodAll_mk1 (shut_bool Tryd.underlying4 _), (trodAll_cons_mk (Below.trod laidOut (by kernel_rfl) (of_decide_eq_true (by kernel_rfl)) k0 bel lt0) (trodAll_cons_mk (Below.trod laidOut (by kernel_rfl) (of_decide_eq_true (by kernel_rfl)) k1 bel lt1) trodAll_mk0)), kV, bel.frame _, fun h => by cases h⟩

theorem k0 : (Rows.fnExactValMeetRow.wf (OpenSpec.ofChange Rows.fnExactValMeetSpec)) = true := by kernel_rfl
theorem k3 : (Tryd.f11.params.all (Tryd.pinned.checked.prog.readableRec ·)) = true := by kernel_rfl
theorem k4 : (namedTie Tryd.pinned.checked.prog Rows.fnExactValMeetRow.named Rows.fnExactValMeetSpec.vars) = true := by kernel_rfl
theorem k5 : ((Rows.fnExactValMeetRow.stops == [])) = true := by kernel_rfl
theorem k7 : ((Rows.fnExactValMeetRow.knobs == [])) = true := by kernel_rfl
theorem k9 : ((Rows.fnExactValMeetRow.inPlace == Tryd.pinned.checked.prog.inPlace 11)) = true := by kernel_rfl
theorem k10 : ((Rows.fnExactValMeetRow.unfollowed == Tryd.pinned.checked.prog.unfollowed 11)) = true := by kernel_rfl
theorem k11 : ((Rows.fnExactValMeetRow.recurses == Tryd.pinned.checked.prog.recurses 11)) = true := by kernel_rfl
theorem k12 : ((Rows.fnExactValMeetRow.named == Tryd.pinned.checked.prog.varsNamed 11)) = true := by kernel_rfl
theorem k13 : ((Rows.fnExactValMeetRow.maps == (Tryd.f11.params.toList ++ Rows.fnExactValMeetSpec.plain.varTypes Tryd.pinned.checked.prog).any (Tryd.pinned.checked.prog.mapsRec ·))) = true := by kernel_rfl
theorem k14 : ((Rows.fnExactValMeetRow.ifaces == (Tryd.f11.params.toList ++ Rows.fnExactValMeetSpec.plain.varTypes Tryd.pinned.checked.prog).any (Tryd.pinned.checked.prog.ifacesRec ·))) = true := by kernel_rfl
theorem k15 : ((Rows.fnExactValMeetRow.mapsOut == Tryd.pinned.checked.prog.mapsAmong Tryd.f11.resultTypes.toList)) = true := by kernel_rfl
theorem k16 : ((Rows.fnExactValMeetRow.loops == (Tryd.f11.params.toList ++ Rows.fnExactValMeetSpec.plain.varTypes Tryd.pinned.checked.prog).any (Tryd.pinned.checked.prog.loopsFrom ·))) = true := by kernel_rfl
theorem k17 : ((Rows.fnExactValMeetRow.wideKeys == (Tryd.f11.params.toList ++ Rows.fnExactValMeetSpec.plain.varTypes Tryd.pinned.checked.prog ++ Tryd.f11.resultTypes.toList).any (Tryd.pinned.checked.prog.wideKeysFrom ·))) = true := by kernel_rfl
theorem k18 : (Rows.fnExactValMeetSpec.vars.all (Tryd.pinned.checked.prog.varReadable ·)) = true := by kernel_rfl
theorem k19 : (Tryd.f11.resultTypes.all (fun t => Tryd.pinned.checked.prog.readableRec t && decide (t < Tryd.pinned.checked.prog.types.size))) = true := by kernel_rfl
theorem k20 : ((Rows.fnExactValMeetRow.ifacesOut == Tryd.f11.resultTypes.toList.any (Tryd.pinned.checked.prog.ifacesRec ·))) = true := by kernel_rfl
theorem k21 : ((Rows.fnExactValMeetRow.loopsOut == Tryd.f11.resultTypes.toList.any (Tryd.pinned.checked.prog.loopsFrom ·))) = true := by kernel_rfl
theorem k22 : ((Rows.fnExactValMeetRow.plainKeys == Tryd.pinned.checked.prog.plainKeys)) = true := by kernel_rfl
theorem k23 : (Rows.fnExactValMeetRow.shortTexts.isNone) = true := by kernel_rfl
theorem k26 : ((Rows.fnExactValMeetRow.lifted == Tryd.pinned.checked.prog.liftsFinal)) = true := by kernel_rfl
theorem k27 : ((Tryd.pinned.checked.prog.make == some Rows.fnExactValMeetRow.make)) = true := by kernel_rfl
theorem k28 : ((Rows.fnExactValMeetRow.kinds == (if Rows.fnExactValMeetRow.domain.isEmpty then [] else Tryd.f11.params.toList.map fun t => match Tryd.pinned.checked.prog.underlying t with | some (.int k) => some k | _ => none))) = true := by kernel_rfl
theorem k29 : ((Rows.fnExactValMeetRow.pinned == Rows.fnExactValMeetRow.pinnedBy)) = true := by kernel_rfl
theorem k30 : ((Rows.fnExactValMeetRow.veiled == (Tryd.f11.params.toList ++ Rows.fnExactValMeetSpec.plain.varTypes Tryd.pinned.checked.prog ++ Tryd.f11.resultTypes.toList).any (Tryd.pinned.checked.prog.veiledRec ·))) = true := by kernel_rfl
theorem k31 : (Rows.fnExactValMeetRow.veiledFits Tryd.pinned.checked.prog Tryd.f11.params.toList (Tryd.f11.params.toList ++ Rows.fnExactValMeetSpec.plain.varTypes Tryd.pinned.checked.prog ++ Tryd.f11.resultTypes.toList)) = true := by kernel_rfl
set_option maxRecDepth 100000 in
set_option maxHeartbeats 4000000 in
theorem closed : joinedFacts Tryd.pinned.checked.prog 11 Tryd.f11 Rows.fnExactValMeetSpec Rows.fnExactValMeetRow = true := by
  unfold joinedFacts
  exact Go.Proofs.YthbbgkpkijlclaaDoor.num.and2 (Go.Proofs.YthbbgkpkijlclaaDoor.num.and2 (Go.Proofs.YthbbgkpkijlclaaDoor.num.and2 (Go.Proofs.YthbbgkpkijlclaaDoor.num.and2 (Go.Proofs.YthbbgkpkijlclaaDoor.num.and2 (Go.Proofs.YthbbgkpkijlclaaDoor.num.and2 (Go.Proofs.YthbbgkpkijlclaaDoor.num.and2 (Go.Proofs.YthbbgkpkijlclaaDoor.num.and2 (Go.Proofs.YthbbgkpkijlclaaDoor.num.and2 (Go.Proofs.YthbbgkpkijlclaaDoor.num.and2 (Go.Proofs.YthbbgkpkijlclaaDoor.num.and2 (Go.Proofs.YthbbgkpkijlclaaDoor.num.and2 (Go.Proofs.YthbbgkpkijlclaaDoor.num.and2 (Go.Proofs.YthbbgkpkijlclaaDoor.num.and2 (Go.Proofs.YthbbgkpkijlclaaDoor.num.and2 (Go.Proofs.YthbbgkpkijlclaaDoor.num.and2 (Go.Proofs.YthbbgkpkijlclaaDoor.num.and2 (Go.Proofs.YthbbgkpkijlclaaDoor.num.and2 (Go.Proofs.YthbbgkpkijlclaaDoor.num.and2 (Go.Proofs.YthbbgkpkijlclaaDoor.num.and2 (Go.Proofs.YthbbgkpkijlclaaDoor.num.and2 (Go.Proofs.YthbbgkpkijlclaaDoor.num.and2 (Go.Proofs.YthbbgkpkijlclaaDoor.num.and2 (Go.Proofs.YthbbgkpkijlclaaDoor.num.and2 (Go.Proofs.YthbbgkpkijlclaaDoor.num.and2 (Go.Proofs.YthbbgkpkijlclaaDoor.num.and2 (Go.Proofs.YthbbgkpkijlclaaDoor.num.and2 (Go.Proofs.YthbbgkpkijlclaaDoor.num.and2 (Go.Proofs.YthbbgkpkijlclaaDoor.num.and2 (Go.Proofs.YthbbgkpkijlclaaDoor.num.and2 (Go.Proofs.YthbbgkpkijlclaaDoor.num.and2 (k0) Go.Proofs.YthbbgkpkijlclaaDoor.num.kP1) Go.Proofs.YthbbgkpkijlclaaDoor.num.kP2) k3) k4) k5) Go.Proofs.YthbbgkpkijlclaaDoor.num.kP6) k7) Go.Proofs.YthbbgkpkijlclaaDoor.num.kP8) k9) k10) k11) k12) k13) k14) k15) k16) k17) k18) k19) k20) k21) k22) k23) Go.Proofs.YthbbgkpkijlclaaDoor.num.kP24) Go.Proofs.YthbbgkpkijlclaaDoor.num.kP25) k26) k27) k28) k29) k30) k31
theorem wfT : Rows.fnExactValMeetRow.wfByText (OpenSpec.ofChange Rows.fnExactValMeetSpec) = true := by kernel_rfl
theorem goesT : false = Rows.fnExactValMeetRow.goesBy Tryd.pinned.checked.prog := by kernel_rfl
theorem mainT : Tryd.pinned.checked.prog.mainIs = some (Rows.fnExactValMeetCard.stood.harness.1, Rows.fnExactValMeetCard.stood.harness.2.toList) := by kernel_rfl
theorem over : Rows.FnExactValMeetSaid :=
  OpenClaim.holds_of_wide 11 Tryd.f11 rfl rfl rfl rfl rfl rfl rfl ⟨rfl, rfl, rfl, rfl, rfl⟩ rfl rfl rfl rfl rfl (by kernel_rfl) Tryd.func11 closed
    (of_decide_eq_true (by kernel_rfl)) (by unfold Func.isWrapper; first | (rw [if_pos (by decide +kernel)]; kernel_rfl) | (rw [if_neg (by decide +kernel)]; exact ⟨rfl, rfl⟩))
    (fun os started H enc _ => lifted os started H enc)
end Go.Proofs.YthbbgkpkijlclaaDoor.fnExactValMeet
namespace Go.Proofs.YthbbgkpkijlclaaDoor
open Go
/-- THE STATEMENT: the tied card. -/
theorem fnExactValMeet_holds : Rows.FnExactValMeetCardSaid :=
  Claim7.holds_tied_plain_at .later [] [.data, .data] true Rows.fnExactValMeetCard.stood.harness true
    fnExactValMeet.over (fun _ h => by cases h) fnExactValMeet.wfT (fun _ h => by cases h) fnExactValMeet_row_tie rfl ⟨rfl, rfl⟩ fnExactValMeet.mainT rfl
    (fun f fn hf hfn => by
      obtain rfl : f = 11 := Option.some.inj ((show Tryd.prog.funcNamed Rows.fnExactValMeetRow.func = some 11 by kernel_rfl).symm.trans hf) |>.symm
      obtain rfl : fn = Tryd.f11 := (Option.some.inj (Tryd.func11.symm.trans hfn)).symm
      exact ⟨Go.Proofs.YthbbgkpkijlclaaDoor.num.looksT, fun j t ht => by
        rw [Tryd.params11] at ht
        have hm : t ∈ [56, 56] := by simpa using Array.mem_of_getElem? ht
        have hall : ([56, 56].all fun u => !Tryd.prog.wantsStandIn u) = true := by kernel_rfl
        exact (show Tryd.prog.wantsStandIn t = false by simpa using List.all_eq_true.1 hall t hm)⟩)
    fnExactValMeet.goesT
#print axioms fnExactValMeet_holds
end Go.Proofs.YthbbgkpkijlclaaDoor
