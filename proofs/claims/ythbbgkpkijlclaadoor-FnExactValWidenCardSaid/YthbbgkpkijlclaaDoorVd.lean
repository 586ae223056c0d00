/-
  The program's RestJoin.
-/
import Derived.Test.YthbbgkpkijlclaaDoorVc
import Derived.Test.YthbbgkpkijlclaaDoorUe
import Derived.Test.YthbbgkpkijlclaaDoorHq
namespace Go.Proofs.YthbbgkpkijlclaaDoor.num
open Go.ChangeShapes Go.WideShapes Go.ChangeAt Go.RowKit
set_option linter.unusedVariables false

theorem cellsQ : Tryd.prog.cellsOf 26 = 2 := by kernel_rfl
theorem gv_of_headQ {W : World} {name : String} {x y : Int} {rest : List (String × DataW Unit)} {g : Nat} (hg : Tryd.prog.globalNamed name = some g) (hty : (Tryd.prog.globals[g]?).map (·.type) = some 26)
    (h : laidMet Tryd.prog ((name, .agg [.lit (.int .i64 x), .lit (.int .i64 y)]) :: rest) W) : Gv W g (x, y) := by
  obtain ⟨ps, ⟨g', t', cs, fuel, p, q, hg', ht', hvar, hd, _, _⟩, _⟩ := h
  obtain rfl := Option.some.inj (hg.symm.trans hg')
  obtain rfl := Option.some.inj (hty.symm.trans ht')
  obtain ⟨a, b, hcs, he, _, _⟩ := two_of_trod Tryd.underlying26 rfl rfl rfl rfl cellsQ hd
  have e1 := congrArg Prod.fst he
  simp only [DataW.agg.injEq, List.cons.injEq, DataW.lit.injEq, Lit.int.injEq, true_and, and_true] at e1
  obtain ⟨rfl, rfl⟩ := e1
  have c0 := World.var?_cell hg hvar 0
  have c1 := World.var?_cell hg hvar 1
  obtain rfl : cs = [.int .i64 x, .int .i64 y].toArray := by cases cs; simp_all
  refine ⟨?_, by simpa using c0, by simpa using c1⟩
  have h' := hvar
  unfold World.var? at h'
  rw [hg] at h'
  simp only [Option.bind_some] at h'
  cases hh : W.heap[g]? with
  | none => rw [hh] at h'; cases h'
  | some o => exact (Array.getElem?_eq_some_iff.1 hh).1
/-- The variable restAll holds the rest of all numbers. -/
abbrev Gq (w : World) : Prop := Gv w 2 (1, 0)
theorem Gq.all {w : World} (h : Gq w) : 2 < w.heap.size ∧ w.cell? ⟨2, 0, none⟩ = some (.int .i64 1) ∧ w.cell? ⟨2, 1, none⟩ = some (.int .i64 0) ∧ (0 < w.heap.size ∧ 1 < w.heap.size) := ⟨h.1, h.2.1, h.2.2, Nat.lt_of_le_of_lt (Nat.zero_le _) h.1, Nat.lt_of_le_of_lt (by decide) h.1⟩
set_option maxRecDepth 100000 in
set_option maxHeartbeats 4000000 in
theorem iRestJoin_xy (x y x2 y2 : Int) (w : World) (hG : Gq w) :
    Calls Tryd.prog 71 #[.agg #[.int .i64 x, .int .i64 y], .agg #[.int .i64 x2, .int .i64 y2]] w fun e w' => e = .returned (.agg #[.int .i64 (join9 (x, y) (x2, y2)).1, .int .i64 (join9 (x, y) (x2, y2)).2]) ∧ Below w.heap.size w w' := by
  obtain ⟨W, hW, H⟩ := Hd.three w (.int .i64 x) (.int .i64 y) (.int .i64 x2) (.int .i64 y2) (.int .i64 0) (.int .i64 0) 26 26 26
  cases h : qOk (x, y)
  · have e : join9 (x, y) (x2, y2) = (1, 0) := by simp [join9, h, all9]
    rw [e]
    go_enter Tryd.func71, Tryd.ntmps71
    go_wp2_with fail
    rw [← hW]
    clear hW
    have c0 := H.get (b := w.heap.size) (o := 0) (v := .int .i64 x) (by simp)
    have c1 := H.get (b := w.heap.size) (o := 1) (v := .int .i64 y) (by simp)
    have c2 := H.get (b := w.heap.size + 1) (o := 0) (v := .int .i64 x2) (by simp)
    have c3 := H.get (b := w.heap.size + 1) (o := 1) (v := .int .i64 y2) (by simp)
    have c4 := H.get (b := w.heap.size + 2) (o := 0) (v := .int .i64 0) (by simp)
    have c5 := H.get (b := w.heap.size + 2) (o := 1) (v := .int .i64 0) (by simp)
    have z0 := H.fz (b := w.heap.size + 2) (o := 0) (v := .int .i64 0) (by simp)
    have z1 := H.fz (b := w.heap.size + 2) (o := 1) (v := .int .i64 0) (by simp)
    go_wp2_with (go_at_call 77; refine (iRestOk_xy _ _ _).mono ?_; rintro e w' ⟨rfl, hb⟩; (first | rw [h] | rw [h2]); replace H := H.call hb; have c0 := H.get (b := w.heap.size) (o := 0) (v := .int .i64 x) (by simp); have c1 := H.get (b := w.heap.size) (o := 1) (v := .int .i64 y) (by simp); have c2 := H.get (b := w.heap.size + 1) (o := 0) (v := .int .i64 x2) (by simp); have c3 := H.get (b := w.heap.size + 1) (o := 1) (v := .int .i64 y2) (by simp); have c4 := H.get (b := w.heap.size + 2) (o := 0) (v := .int .i64 0) (by simp); have c5 := H.get (b := w.heap.size + 2) (o := 1) (v := .int .i64 0) (by simp); have z0 := H.fz (b := w.heap.size + 2) (o := 0) (v := .int .i64 0) (by simp); have z1 := H.fz (b := w.heap.size + 2) (o := 1) (v := .int .i64 0) (by simp); obtain ⟨gs, g0, g1, gz, gy⟩ := Gq.all (Gv.below hG H.below))
    obtain ⟨f0, f1, fb⟩ := H.fill (b := w.heap.size + 2) (x := .int .i64 0) (y := .int .i64 0) (by simp) (by simp) (by omega) (.int .i64 1) (.int .i64 0)
    refine bodyPost_ret (results_two rfl _ _ (w.heap.size + 2) (.int .i64 1) (.int .i64 0) _ rfl f0 f1 Tryd.underlying26 rfl (by kernel_rfl)) rfl ?_
    exact ⟨rfl, fb⟩
  cases h2 : qOk (x2, y2)
  · have e : join9 (x, y) (x2, y2) = (1, 0) := by simp [join9, h2, all9]
    rw [e]
    go_enter Tryd.func71, Tryd.ntmps71
    go_wp2_with fail
    rw [← hW]
    clear hW
    have c0 := H.get (b := w.heap.size) (o := 0) (v := .int .i64 x) (by simp)
    have c1 := H.get (b := w.heap.size) (o := 1) (v := .int .i64 y) (by simp)
    have c2 := H.get (b := w.heap.size + 1) (o := 0) (v := .int .i64 x2) (by simp)
    have c3 := H.get (b := w.heap.size + 1) (o := 1) (v := .int .i64 y2) (by simp)
    have c4 := H.get (b := w.heap.size + 2) (o := 0) (v := .int .i64 0) (by simp)
    have c5 := H.get (b := w.heap.size + 2) (o := 1) (v := .int .i64 0) (by simp)
    have z0 := H.fz (b := w.heap.size + 2) (o := 0) (v := .int .i64 0) (by simp)
    have z1 := H.fz (b := w.heap.size + 2) (o := 1) (v := .int .i64 0) (by simp)
    go_wp2_with (go_at_call 77; refine (iRestOk_xy _ _ _).mono ?_; rintro e w' ⟨rfl, hb⟩; (first | rw [h] | rw [h2]); replace H := H.call hb; have c0 := H.get (b := w.heap.size) (o := 0) (v := .int .i64 x) (by simp); have c1 := H.get (b := w.heap.size) (o := 1) (v := .int .i64 y) (by simp); have c2 := H.get (b := w.heap.size + 1) (o := 0) (v := .int .i64 x2) (by simp); have c3 := H.get (b := w.heap.size + 1) (o := 1) (v := .int .i64 y2) (by simp); have c4 := H.get (b := w.heap.size + 2) (o := 0) (v := .int .i64 0) (by simp); have c5 := H.get (b := w.heap.size + 2) (o := 1) (v := .int .i64 0) (by simp); have z0 := H.fz (b := w.heap.size + 2) (o := 0) (v := .int .i64 0) (by simp); have z1 := H.fz (b := w.heap.size + 2) (o := 1) (v := .int .i64 0) (by simp); obtain ⟨gs, g0, g1, gz, gy⟩ := Gq.all (Gv.below hG H.below))
    obtain ⟨f0, f1, fb⟩ := H.fill (b := w.heap.size + 2) (x := .int .i64 0) (y := .int .i64 0) (by simp) (by simp) (by omega) (.int .i64 1) (.int .i64 0)
    refine bodyPost_ret (results_two rfl _ _ (w.heap.size + 2) (.int .i64 1) (.int .i64 0) _ rfl f0 f1 Tryd.underlying26 rfl (by kernel_rfl)) rfl ?_
    exact ⟨rfl, fb⟩
  have hx := (qOk_iff _).1 h
  have hx2 := (qOk_iff _).1 h2
  simp only at hx hx2
  have b1 : -9223372036854775807 ≤ x ∧ x ≤ 9223372036854775807 := by omega
  have b2 : -9223372036854775807 ≤ x2 ∧ x2 ≤ 9223372036854775807 := by omega
  have g0 := gcd9_pos x x2
  have g1 := gcd9_bd x x2 65536 (by omega) (by omega)
  have hs : wrap64 (y - y2) = y - y2 := w64_id (by omega) (by omega)
  have hs2 : IntKind.i64.wrap (y - y2) = y - y2 := IntWalk.i64_in _ ⟨by omega, by omega⟩
  have e : join9 (x, y) (x2, y2) = make9 (gcd9 (gcd9 x x2) (y - y2)) y := by unfold join9; rw [if_neg (by simp [h, h2])]
  rw [e]
  have kk0 : 0 ≤ gcd9 (gcd9 x x2) (y - y2) := gcd9_pos _ _
  have kk1 : gcd9 (gcd9 x x2) (y - y2) ≤ 4611686018427387904 := gcd9_bd _ _ _ (by omega) (by omega)
  have bd : -9223372036854775807 ≤ y - y2 ∧ y - y2 ≤ 9223372036854775807 := by omega
  clear g0 g1
  generalize h1 : gcd9 (gcd9 x x2) (y - y2) = k at *
  have hm3 : ∀ w1 : World, Calls Tryd.prog 147 #[.int .i64 y, .int .i64 k] w1 fun e w' => e = .returned (.agg #[.int .i64 (make9 k y).1, .int .i64 (make9 k y).2]) ∧ Below w1.heap.size w1 w' := fun w1 => restOf_any y k kk0 kk1 w1
  generalize make9 k y = q at *
  go_enter Tryd.func71, Tryd.ntmps71
  go_wp2_with fail
  rw [← hW]
  clear hW
  have c0 := H.get (b := w.heap.size) (o := 0) (v := .int .i64 x) (by simp)
  have c1 := H.get (b := w.heap.size) (o := 1) (v := .int .i64 y) (by simp)
  have c2 := H.get (b := w.heap.size + 1) (o := 0) (v := .int .i64 x2) (by simp)
  have c3 := H.get (b := w.heap.size + 1) (o := 1) (v := .int .i64 y2) (by simp)
  have c4 := H.get (b := w.heap.size + 2) (o := 0) (v := .int .i64 0) (by simp)
  have c5 := H.get (b := w.heap.size + 2) (o := 1) (v := .int .i64 0) (by simp)
  have z0 := H.fz (b := w.heap.size + 2) (o := 0) (v := .int .i64 0) (by simp)
  have z1 := H.fz (b := w.heap.size + 2) (o := 1) (v := .int .i64 0) (by simp)
  go_wp2_with (go_at_call 77; refine (iRestOk_xy _ _ _).mono ?_; rintro e w' ⟨rfl, hb⟩; (first | rw [h] | rw [h2]); replace H := H.call hb; have c0 := H.get (b := w.heap.size) (o := 0) (v := .int .i64 x) (by simp); have c1 := H.get (b := w.heap.size) (o := 1) (v := .int .i64 y) (by simp); have c2 := H.get (b := w.heap.size + 1) (o := 0) (v := .int .i64 x2) (by simp); have c3 := H.get (b := w.heap.size + 1) (o := 1) (v := .int .i64 y2) (by simp); have c4 := H.get (b := w.heap.size + 2) (o := 0) (v := .int .i64 0) (by simp); have c5 := H.get (b := w.heap.size + 2) (o := 1) (v := .int .i64 0) (by simp); have z0 := H.fz (b := w.heap.size + 2) (o := 0) (v := .int .i64 0) (by simp); have z1 := H.fz (b := w.heap.size + 2) (o := 1) (v := .int .i64 0) (by simp); obtain ⟨gs, g0, g1, gz, gy⟩ := Gq.all (Gv.below hG H.below))
  clear g0 g1 gs gz gy
  have l0 := H.lt (b := w.heap.size) (o := 0) (v := .int .i64 x) (by simp)
  have l1 := H.lt (b := w.heap.size + 1) (o := 0) (v := .int .i64 x2) (by simp)
  have l2 := H.lt (b := w.heap.size + 2) (o := 0) (v := .int .i64 0) (by simp)
  go_region_held3 (fun w' => w'.cell? ⟨w.heap.size, 0, none⟩ = some (.int .i64 x) ∧ w'.cell? ⟨w.heap.size, 1, none⟩ = some (.int .i64 y) ∧ w'.cell? ⟨w.heap.size + 1, 0, none⟩ = some (.int .i64 x2) ∧ w'.cell? ⟨w.heap.size + 1, 1, none⟩ = some (.int .i64 y2)) (first | exact ⟨c0, c1, c2, c3⟩ | (simp [go_sem, *]; done)) (first | (go_at_call 148; refine (iGcd_three _ x x2 (y - y2) _ (by simp [go_sem]) (by simp [go_sem]) (by simp [go_sem]) (by simp [go_sem]) b1 b2 bd).mono ?_; rintro e w' ⟨rfl, hb⟩; rw [h1]; (first | (replace H := H.call hb) | (replace H := (H.drewN 1).call hb) | (replace H := (H.alloc _).call hb) | (replace H := ((H.alloc _).drewN 1).call hb) | (replace H := ((H.drewN 1).alloc _).call hb)); clear hb; have c0 := H.get (b := w.heap.size) (o := 0) (v := .int .i64 x) (by simp); have c1 := H.get (b := w.heap.size) (o := 1) (v := .int .i64 y) (by simp); have c2 := H.get (b := w.heap.size + 1) (o := 0) (v := .int .i64 x2) (by simp); have c3 := H.get (b := w.heap.size + 1) (o := 1) (v := .int .i64 y2) (by simp); have c4 := H.get (b := w.heap.size + 2) (o := 0) (v := .int .i64 0) (by simp); have c5 := H.get (b := w.heap.size + 2) (o := 1) (v := .int .i64 0) (by simp); have z0 := H.fz (b := w.heap.size + 2) (o := 0) (v := .int .i64 0) (by simp); have z1 := H.fz (b := w.heap.size + 2) (o := 1) (v := .int .i64 0) (by simp); have l0 := H.lt (b := w.heap.size) (o := 0) (v := .int .i64 x) (by simp); have l1 := H.lt (b := w.heap.size + 1) (o := 0) (v := .int .i64 x2) (by simp); have l2 := H.lt (b := w.heap.size + 2) (o := 0) (v := .int .i64 0) (by simp)) | (go_at_call 147; refine (hm3 _).mono ?_; rintro e w' ⟨rfl, hb⟩; (first | (replace H := H.call hb) | (replace H := (H.drewN 1).call hb) | (replace H := (H.alloc _).call hb) | (replace H := ((H.alloc _).drewN 1).call hb) | (replace H := ((H.drewN 1).alloc _).call hb)); clear hb; have c0 := H.get (b := w.heap.size) (o := 0) (v := .int .i64 x) (by simp); have c1 := H.get (b := w.heap.size) (o := 1) (v := .int .i64 y) (by simp); have c2 := H.get (b := w.heap.size + 1) (o := 0) (v := .int .i64 x2) (by simp); have c3 := H.get (b := w.heap.size + 1) (o := 1) (v := .int .i64 y2) (by simp); have c4 := H.get (b := w.heap.size + 2) (o := 0) (v := .int .i64 0) (by simp); have c5 := H.get (b := w.heap.size + 2) (o := 1) (v := .int .i64 0) (by simp); have z0 := H.fz (b := w.heap.size + 2) (o := 0) (v := .int .i64 0) (by simp); have z1 := H.fz (b := w.heap.size + 2) (o := 1) (v := .int .i64 0) (by simp); have l0 := H.lt (b := w.heap.size) (o := 0) (v := .int .i64 x) (by simp); have l1 := H.lt (b := w.heap.size + 1) (o := 0) (v := .int .i64 x2) (by simp); have l2 := H.lt (b := w.heap.size + 2) (o := 0) (v := .int .i64 0) (by simp)))
  all_goals
    go_wp2_with fail
    obtain ⟨f0, f1, fb⟩ := H.fill (b := w.heap.size + 2) (x := .int .i64 0) (y := .int .i64 0) (by simp) (by simp) (by omega) (.int .i64 q.1) (.int .i64 q.2)
    refine bodyPost_ret (results_two rfl _ _ (w.heap.size + 2) (.int .i64 q.1) (.int .i64 q.2) _ rfl f0 f1 Tryd.underlying26 rfl (by kernel_rfl)) rfl ?_
    exact ⟨rfl, fb⟩
end Go.Proofs.YthbbgkpkijlclaaDoor.num
