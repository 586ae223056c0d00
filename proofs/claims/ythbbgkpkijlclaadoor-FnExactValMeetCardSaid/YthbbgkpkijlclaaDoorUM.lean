/-
  Meets of rests.
-/
import Derived.Test.YthbbgkpkijlclaaDoorUa
import Derived.Test.YthbbgkpkijlclaaDoorUe
namespace Go.Proofs.YthbbgkpkijlclaaDoor.num
open Go.ChangeShapes Go.WideShapes Go.ChangeAt Go.RowKit
set_option linter.unusedVariables false

/-- A struct of two cells lies in the variable of the first result, the second one in a slot. -/
theorem results_two_tmp {P : Program} {fn : Func} {p q : Tmp} {ty : TypeId} (h : fn.results = #[.cell p ty, .tmp q]) (tmps : Array Value) (w : World) (g : Nat) (x y : Value) (d : TypeDesc)
    (hp : tmps.getD p undef = .pointer (some ⟨g, 0, none⟩)) (c0 : w.cell? ⟨g, 0, none⟩ = some x) (c1 : w.cell? ⟨g, 1, none⟩ = some y)
    (hu : P.underlying ty = some d) (hd : d.isRow = true) (hi : (P.info? ty).map (·.size) = some 2) :
    (results fn tmps).run P w = .ok (.tuple #[.agg #[x, y], tmps.getD q undef]) w := by
  have hp' : tmps[p]?.getD undef = .pointer (some ⟨g, 0, none⟩) := by simpa using hp
  have hl := run_loadVar_mid (P := P) w g 0 ty [x, y] d (fun j v hj => by
    match j, hj with
    | 0, hj => simp at hj; subst hj; exact c0
    | 1, hj => simp at hj; subst hj; exact c1
    | n + 2, hj => simp at hj) hu hd hi
  have hl' : (loadVar ty ⟨g, 0, none⟩).run P w = .ok (.agg #[x, y]) w := hl
  simp [results, h, hp', asAddr, hl']
/-- What RestMeet answers, as a value. -/
def mv9 (m : T9 × Bool) : Value := .tuple #[.agg #[.int .i64 m.1.1, .int .i64 m.1.2], .bool m.2]
set_option maxRecDepth 100000 in
set_option maxHeartbeats 4000000 in
theorem sMeet_bad (x y x2 y2 : Int) (h0 : qOk (x, y) = false ∨ qOk (x2, y2) = false) (w : World) :
    Calls Tryd.prog 73 #[.agg #[.int .i64 x, .int .i64 y], .agg #[.int .i64 x2, .int .i64 y2]] w fun e w' => e = .returned (mv9 (meet9 (x, y) (x2, y2))) ∧ Below w.heap.size w w' := by
  have e : meet9 (x, y) (x2, y2) = ((0, 0), false) := by unfold meet9; rw [if_pos h0]
  rw [e]
  obtain ⟨W, hW, H⟩ := Hd.three w (.int .i64 x) (.int .i64 y) (.int .i64 x2) (.int .i64 y2) (.int .i64 0) (.int .i64 0) 26 26 26
  cases h : qOk (x, y)
  · skip
    go_enter Tryd.func73, Tryd.ntmps73
    go_wp2_with fail
    rw [← hW]
    clear hW
    have c0 := H.get (b := w.heap.size) (o := 0) (v := .int .i64 x) (by simp)
    have c1 := H.get (b := w.heap.size) (o := 1) (v := .int .i64 y) (by simp)
    have c2 := H.get (b := w.heap.size + 1) (o := 0) (v := .int .i64 x2) (by simp)
    have c3 := H.get (b := w.heap.size + 1) (o := 1) (v := .int .i64 y2) (by simp)
    have c4 := H.get (b := w.heap.size + 2) (o := 0) (v := .int .i64 0) (by simp)
    have c5 := H.get (b := w.heap.size + 2) (o := 1) (v := .int .i64 0) (by simp)
    have z0 := H.fz (b := w.heap.size + 2) (o := 0) (v := .int .i64 0) (by simp)
    have z1 := H.fz (b := w.heap.size + 2) (o := 1) (v := .int .i64 0) (by simp)
    go_wp2_with (go_at_call 75; refine (sRestOk_xy _ _ _).mono ?_; rintro e w' ⟨rfl, hb⟩; (first | rw [h] | rw [h2]); replace H := H.call hb; have c0 := H.get (b := w.heap.size) (o := 0) (v := .int .i64 x) (by simp); have c1 := H.get (b := w.heap.size) (o := 1) (v := .int .i64 y) (by simp); have c2 := H.get (b := w.heap.size + 1) (o := 0) (v := .int .i64 x2) (by simp); have c3 := H.get (b := w.heap.size + 1) (o := 1) (v := .int .i64 y2) (by simp); have c4 := H.get (b := w.heap.size + 2) (o := 0) (v := .int .i64 0) (by simp); have c5 := H.get (b := w.heap.size + 2) (o := 1) (v := .int .i64 0) (by simp); have z0 := H.fz (b := w.heap.size + 2) (o := 0) (v := .int .i64 0) (by simp); have z1 := H.fz (b := w.heap.size + 2) (o := 1) (v := .int .i64 0) (by simp))
    obtain ⟨f0, f1, fb⟩ := H.fill (b := w.heap.size + 2) (x := .int .i64 0) (y := .int .i64 0) (by simp) (by simp) (by omega) (.int .i64 0) (.int .i64 0)
    refine bodyPost_ret (results_two_tmp rfl _ _ (w.heap.size + 2) (.int .i64 0) (.int .i64 0) _ rfl f0 f1 Tryd.underlying26 rfl (by kernel_rfl)) rfl ?_
    exact ⟨rfl, fb⟩
  · have h2 : qOk (x2, y2) = false := by rcases h0 with h0 | h0; · rw [h] at h0; cases h0
                                         · exact h0
    go_enter Tryd.func73, Tryd.ntmps73
    go_wp2_with fail
    rw [← hW]
    clear hW
    have c0 := H.get (b := w.heap.size) (o := 0) (v := .int .i64 x) (by simp)
    have c1 := H.get (b := w.heap.size) (o := 1) (v := .int .i64 y) (by simp)
    have c2 := H.get (b := w.heap.size + 1) (o := 0) (v := .int .i64 x2) (by simp)
    have c3 := H.get (b := w.heap.size + 1) (o := 1) (v := .int .i64 y2) (by simp)
    have c4 := H.get (b := w.heap.size + 2) (o := 0) (v := .int .i64 0) (by simp)
    have c5 := H.get (b := w.heap.size + 2) (o := 1) (v := .int .i64 0) (by simp)
    have z0 := H.fz (b := w.heap.size + 2) (o := 0) (v := .int .i64 0) (by simp)
    have z1 := H.fz (b := w.heap.size + 2) (o := 1) (v := .int .i64 0) (by simp)
    go_wp2_with (go_at_call 75; refine (sRestOk_xy _ _ _).mono ?_; rintro e w' ⟨rfl, hb⟩; (first | rw [h] | rw [h2]); replace H := H.call hb; have c0 := H.get (b := w.heap.size) (o := 0) (v := .int .i64 x) (by simp); have c1 := H.get (b := w.heap.size) (o := 1) (v := .int .i64 y) (by simp); have c2 := H.get (b := w.heap.size + 1) (o := 0) (v := .int .i64 x2) (by simp); have c3 := H.get (b := w.heap.size + 1) (o := 1) (v := .int .i64 y2) (by simp); have c4 := H.get (b := w.heap.size + 2) (o := 0) (v := .int .i64 0) (by simp); have c5 := H.get (b := w.heap.size + 2) (o := 1) (v := .int .i64 0) (by simp); have z0 := H.fz (b := w.heap.size + 2) (o := 0) (v := .int .i64 0) (by simp); have z1 := H.fz (b := w.heap.size + 2) (o := 1) (v := .int .i64 0) (by simp))
    obtain ⟨f0, f1, fb⟩ := H.fill (b := w.heap.size + 2) (x := .int .i64 0) (y := .int .i64 0) (by simp) (by simp) (by omega) (.int .i64 0) (.int .i64 0)
    refine bodyPost_ret (results_two_tmp rfl _ _ (w.heap.size + 2) (.int .i64 0) (.int .i64 0) _ rfl f0 f1 Tryd.underlying26 rfl (by kernel_rfl)) rfl ?_
    exact ⟨rfl, fb⟩
set_option maxRecDepth 100000 in
set_option maxHeartbeats 4000000 in
theorem sMeet_single (y x2 y2 : Int) (h : qOk (0, y) = true) (h2 : qOk (x2, y2) = true) (w : World) :
    Calls Tryd.prog 73 #[.agg #[.int .i64 0, .int .i64 y], .agg #[.int .i64 x2, .int .i64 y2]] w fun e w' => e = .returned (mv9 (meet9 (0, y) (x2, y2))) ∧ Below w.heap.size w w' := by
  have e : meet9 (0, y) (x2, y2) = (if qHas (x2, y2) y = true then ((0, y), true) else ((0, 0), false)) := by unfold meet9; rw [if_neg (by simp [h, h2]), if_pos rfl]
  rw [e]
  obtain ⟨W, hW, H⟩ := Hd.three w (.int .i64 0) (.int .i64 y) (.int .i64 x2) (.int .i64 y2) (.int .i64 0) (.int .i64 0) 26 26 26
  cases k : qHas (x2, y2) y
  · rw [if_neg (by simp)]
    go_enter Tryd.func73, Tryd.ntmps73
    go_wp2_with fail
    rw [← hW]
    clear hW
    have c0 := H.get (b := w.heap.size) (o := 0) (v := .int .i64 0) (by simp)
    have c1 := H.get (b := w.heap.size) (o := 1) (v := .int .i64 y) (by simp)
    have c2 := H.get (b := w.heap.size + 1) (o := 0) (v := .int .i64 x2) (by simp)
    have c3 := H.get (b := w.heap.size + 1) (o := 1) (v := .int .i64 y2) (by simp)
    have c4 := H.get (b := w.heap.size + 2) (o := 0) (v := .int .i64 0) (by simp)
    have c5 := H.get (b := w.heap.size + 2) (o := 1) (v := .int .i64 0) (by simp)
    have z0 := H.fz (b := w.heap.size + 2) (o := 0) (v := .int .i64 0) (by simp)
    have z1 := H.fz (b := w.heap.size + 2) (o := 1) (v := .int .i64 0) (by simp)
    go_wp2_with (first | (go_at_call 75; refine (sRestOk_xy _ _ _).mono ?_; rintro e w' ⟨rfl, hb⟩; (first | rw [h] | rw [h2]); replace H := H.call hb; have c0 := H.get (b := w.heap.size) (o := 0) (v := .int .i64 0) (by simp); have c1 := H.get (b := w.heap.size) (o := 1) (v := .int .i64 y) (by simp); have c2 := H.get (b := w.heap.size + 1) (o := 0) (v := .int .i64 x2) (by simp); have c3 := H.get (b := w.heap.size + 1) (o := 1) (v := .int .i64 y2) (by simp); have c4 := H.get (b := w.heap.size + 2) (o := 0) (v := .int .i64 0) (by simp); have c5 := H.get (b := w.heap.size + 2) (o := 1) (v := .int .i64 0) (by simp); have z0 := H.fz (b := w.heap.size + 2) (o := 0) (v := .int .i64 0) (by simp); have z1 := H.fz (b := w.heap.size + 2) (o := 1) (v := .int .i64 0) (by simp)) | (go_at_call 29; refine (sRestHas_xy _ _ _ _).mono ?_; rintro e w' ⟨rfl, hb⟩; rw [k]; replace H := H.call hb; have c0 := H.get (b := w.heap.size) (o := 0) (v := .int .i64 0) (by simp); have c1 := H.get (b := w.heap.size) (o := 1) (v := .int .i64 y) (by simp); have c2 := H.get (b := w.heap.size + 1) (o := 0) (v := .int .i64 x2) (by simp); have c3 := H.get (b := w.heap.size + 1) (o := 1) (v := .int .i64 y2) (by simp); have c4 := H.get (b := w.heap.size + 2) (o := 0) (v := .int .i64 0) (by simp); have c5 := H.get (b := w.heap.size + 2) (o := 1) (v := .int .i64 0) (by simp); have z0 := H.fz (b := w.heap.size + 2) (o := 0) (v := .int .i64 0) (by simp); have z1 := H.fz (b := w.heap.size + 2) (o := 1) (v := .int .i64 0) (by simp)))
    obtain ⟨f0, f1, fb⟩ := H.fill (b := w.heap.size + 2) (x := .int .i64 0) (y := .int .i64 0) (by simp) (by simp) (by omega) (.int .i64 0) (.int .i64 0)
    refine bodyPost_ret (results_two_tmp rfl _ _ (w.heap.size + 2) (.int .i64 0) (.int .i64 0) _ rfl f0 f1 Tryd.underlying26 rfl (by kernel_rfl)) rfl ?_
    exact ⟨rfl, fb⟩
  · rw [if_pos rfl]
    go_enter Tryd.func73, Tryd.ntmps73
    go_wp2_with fail
    rw [← hW]
    clear hW
    have c0 := H.get (b := w.heap.size) (o := 0) (v := .int .i64 0) (by simp)
    have c1 := H.get (b := w.heap.size) (o := 1) (v := .int .i64 y) (by simp)
    have c2 := H.get (b := w.heap.size + 1) (o := 0) (v := .int .i64 x2) (by simp)
    have c3 := H.get (b := w.heap.size + 1) (o := 1) (v := .int .i64 y2) (by simp)
    have c4 := H.get (b := w.heap.size + 2) (o := 0) (v := .int .i64 0) (by simp)
    have c5 := H.get (b := w.heap.size + 2) (o := 1) (v := .int .i64 0) (by simp)
    have z0 := H.fz (b := w.heap.size + 2) (o := 0) (v := .int .i64 0) (by simp)
    have z1 := H.fz (b := w.heap.size + 2) (o := 1) (v := .int .i64 0) (by simp)
    go_wp2_with (first | (go_at_call 75; refine (sRestOk_xy _ _ _).mono ?_; rintro e w' ⟨rfl, hb⟩; (first | rw [h] | rw [h2]); replace H := H.call hb; have c0 := H.get (b := w.heap.size) (o := 0) (v := .int .i64 0) (by simp); have c1 := H.get (b := w.heap.size) (o := 1) (v := .int .i64 y) (by simp); have c2 := H.get (b := w.heap.size + 1) (o := 0) (v := .int .i64 x2) (by simp); have c3 := H.get (b := w.heap.size + 1) (o := 1) (v := .int .i64 y2) (by simp); have c4 := H.get (b := w.heap.size + 2) (o := 0) (v := .int .i64 0) (by simp); have c5 := H.get (b := w.heap.size + 2) (o := 1) (v := .int .i64 0) (by simp); have z0 := H.fz (b := w.heap.size + 2) (o := 0) (v := .int .i64 0) (by simp); have z1 := H.fz (b := w.heap.size + 2) (o := 1) (v := .int .i64 0) (by simp)) | (go_at_call 29; refine (sRestHas_xy _ _ _ _).mono ?_; rintro e w' ⟨rfl, hb⟩; rw [k]; replace H := H.call hb; have c0 := H.get (b := w.heap.size) (o := 0) (v := .int .i64 0) (by simp); have c1 := H.get (b := w.heap.size) (o := 1) (v := .int .i64 y) (by simp); have c2 := H.get (b := w.heap.size + 1) (o := 0) (v := .int .i64 x2) (by simp); have c3 := H.get (b := w.heap.size + 1) (o := 1) (v := .int .i64 y2) (by simp); have c4 := H.get (b := w.heap.size + 2) (o := 0) (v := .int .i64 0) (by simp); have c5 := H.get (b := w.heap.size + 2) (o := 1) (v := .int .i64 0) (by simp); have z0 := H.fz (b := w.heap.size + 2) (o := 0) (v := .int .i64 0) (by simp); have z1 := H.fz (b := w.heap.size + 2) (o := 1) (v := .int .i64 0) (by simp)))
    obtain ⟨f0, f1, fb⟩ := H.fill (b := w.heap.size + 2) (x := .int .i64 0) (y := .int .i64 0) (by simp) (by simp) (by omega) (.int .i64 0) (.int .i64 y)
    refine bodyPost_ret (results_two_tmp rfl _ _ (w.heap.size + 2) (.int .i64 0) (.int .i64 y) _ rfl f0 f1 Tryd.underlying26 rfl (by kernel_rfl)) rfl ?_
    exact ⟨rfl, fb⟩
end Go.Proofs.YthbbgkpkijlclaaDoor.num
namespace Go.Proofs.YthbbgkpkijlclaaDoor.num
open Go.ChangeShapes Go.WideShapes Go.ChangeAt Go.RowKit
set_option linter.unusedVariables false

set_option maxRecDepth 100000 in
set_option maxHeartbeats 4000000 in
theorem sMeet_right (x y y2 : Int) (hx : x ≠ 0) (h : qOk (x, y) = true) (h2 : qOk (0, y2) = true) (w : World) :
    Calls Tryd.prog 73 #[.agg #[.int .i64 x, .int .i64 y], .agg #[.int .i64 0, .int .i64 y2]] w fun e w' => e = .returned (mv9 (meet9 (x, y) (0, y2))) ∧ Below w.heap.size w w' := by
  have e : meet9 (x, y) (0, y2) = meet9 (0, y2) (x, y) := by
    simp [meet9, h, h2, hx]
  rw [e]
  obtain ⟨W, hW, H⟩ := Hd.three w (.int .i64 x) (.int .i64 y) (.int .i64 0) (.int .i64 y2) (.int .i64 0) (.int .i64 0) 26 26 26
  have hm : ∀ w1 : World, Calls Tryd.prog 73 #[.agg #[.int .i64 0, .int .i64 y2], .agg #[.int .i64 x, .int .i64 y]] w1 fun e w' => e = .returned (.tuple #[.agg #[.int .i64 (meet9 (0, y2) (x, y)).1.1, .int .i64 (meet9 (0, y2) (x, y)).1.2], .bool (meet9 (0, y2) (x, y)).2]) ∧ Below w1.heap.size w1 w' := fun w1 => sMeet_single y2 x y h2 h w1
  generalize meet9 (0, y2) (x, y) = q at *
  go_enter Tryd.func73, Tryd.ntmps73
  go_wp2_with fail
  rw [← hW]
  clear hW
  have c0 := H.get (b := w.heap.size) (o := 0) (v := .int .i64 x) (by simp)
  have c1 := H.get (b := w.heap.size) (o := 1) (v := .int .i64 y) (by simp)
  have c2 := H.get (b := w.heap.size + 1) (o := 0) (v := .int .i64 0) (by simp)
  have c3 := H.get (b := w.heap.size + 1) (o := 1) (v := .int .i64 y2) (by simp)
  have c4 := H.get (b := w.heap.size + 2) (o := 0) (v := .int .i64 0) (by simp)
  have c5 := H.get (b := w.heap.size + 2) (o := 1) (v := .int .i64 0) (by simp)
  have z0 := H.fz (b := w.heap.size + 2) (o := 0) (v := .int .i64 0) (by simp)
  have z1 := H.fz (b := w.heap.size + 2) (o := 1) (v := .int .i64 0) (by simp)
  go_wp2_with (first | (go_at_call 75; refine (sRestOk_xy _ _ _).mono ?_; rintro e w' ⟨rfl, hb⟩; (first | rw [h] | rw [h2]); replace H := H.call hb; have c0 := H.get (b := w.heap.size) (o := 0) (v := .int .i64 x) (by simp); have c1 := H.get (b := w.heap.size) (o := 1) (v := .int .i64 y) (by simp); have c2 := H.get (b := w.heap.size + 1) (o := 0) (v := .int .i64 0) (by simp); have c3 := H.get (b := w.heap.size + 1) (o := 1) (v := .int .i64 y2) (by simp); have c4 := H.get (b := w.heap.size + 2) (o := 0) (v := .int .i64 0) (by simp); have c5 := H.get (b := w.heap.size + 2) (o := 1) (v := .int .i64 0) (by simp); have z0 := H.fz (b := w.heap.size + 2) (o := 0) (v := .int .i64 0) (by simp); have z1 := H.fz (b := w.heap.size + 2) (o := 1) (v := .int .i64 0) (by simp)) | (go_at_call 73; refine (hm _).mono ?_; rintro e w' ⟨rfl, hb⟩; replace H := H.call hb; have c0 := H.get (b := w.heap.size) (o := 0) (v := .int .i64 x) (by simp); have c1 := H.get (b := w.heap.size) (o := 1) (v := .int .i64 y) (by simp); have c2 := H.get (b := w.heap.size + 1) (o := 0) (v := .int .i64 0) (by simp); have c3 := H.get (b := w.heap.size + 1) (o := 1) (v := .int .i64 y2) (by simp); have c4 := H.get (b := w.heap.size + 2) (o := 0) (v := .int .i64 0) (by simp); have c5 := H.get (b := w.heap.size + 2) (o := 1) (v := .int .i64 0) (by simp); have z0 := H.fz (b := w.heap.size + 2) (o := 0) (v := .int .i64 0) (by simp); have z1 := H.fz (b := w.heap.size + 2) (o := 1) (v := .int .i64 0) (by simp)))
  obtain ⟨f0, f1, fb⟩ := H.fill (b := w.heap.size + 2) (x := .int .i64 0) (y := .int .i64 0) (by simp) (by simp) (by omega) (.int .i64 q.1.1) (.int .i64 q.1.2)
  refine bodyPost_ret (results_two_tmp rfl _ _ (w.heap.size + 2) (.int .i64 q.1.1) (.int .i64 q.1.2) _ rfl f0 f1 Tryd.underlying26 rfl (by kernel_rfl)) rfl ?_
  exact ⟨rfl, fb⟩
end Go.Proofs.YthbbgkpkijlclaaDoor.num
namespace Go.Proofs.YthbbgkpkijlclaaDoor.num
open Go.ChangeShapes Go.WideShapes Go.ChangeAt Go.RowKit
set_option linter.unusedVariables false

set_option maxRecDepth 100000 in
set_option maxHeartbeats 4000000 in
theorem sMeet_apart (x y x2 y2 : Int) (hz : x ≠ 0) (hz2 : x2 ≠ 0) (h : qOk (x, y) = true) (h2 : qOk (x2, y2) = true) (hd : (y - y2) % gcd9 x x2 ≠ 0) (w : World) :
    Calls Tryd.prog 73 #[.agg #[.int .i64 x, .int .i64 y], .agg #[.int .i64 x2, .int .i64 y2]] w fun e w' => e = .returned (mv9 (meet9 (x, y) (x2, y2))) ∧ Below w.heap.size w w' := by
  have e : meet9 (x, y) (x2, y2) = ((0, 0), false) := by
    unfold meet9
    rw [if_neg (by simp [h, h2]), if_neg hz, if_neg hz2, if_pos hd]
  rw [e]
  have hx := (qOk_iff _).1 h
  have hx2 := (qOk_iff _).1 h2
  simp only at hx hx2
  have hb1 : -9223372036854775807 ≤ x ∧ x ≤ 9223372036854775807 := by omega
  have hb2 : -9223372036854775807 ≤ x2 ∧ x2 ≤ 9223372036854775807 := by omega
  have g0 : 0 < gcd9 x x2 := gcd9_gt (.inl hz)
  have g1 : gcd9 x x2 ≤ x := gcd9_le_left _ (by omega)
  generalize hg : gcd9 x x2 = g at *
  have hg2 : g ≤ 9223372036854775807 := by omega
  have hs : wrap64 (y - y2) = y - y2 := w64_id (by omega) (by omega)
  obtain ⟨W, hW, H⟩ := Hd.three w (.int .i64 x) (.int .i64 y) (.int .i64 x2) (.int .i64 y2) (.int .i64 0) (.int .i64 0) 26 26 26
  go_enter Tryd.func73, Tryd.ntmps73
  go_wp2_with fail
  rw [← hW]
  clear hW
  have c0 := H.get (b := w.heap.size) (o := 0) (v := .int .i64 x) (by simp)
  have c1 := H.get (b := w.heap.size) (o := 1) (v := .int .i64 y) (by simp)
  have c2 := H.get (b := w.heap.size + 1) (o := 0) (v := .int .i64 x2) (by simp)
  have c3 := H.get (b := w.heap.size + 1) (o := 1) (v := .int .i64 y2) (by simp)
  have c4 := H.get (b := w.heap.size + 2) (o := 0) (v := .int .i64 0) (by simp)
  have c5 := H.get (b := w.heap.size + 2) (o := 1) (v := .int .i64 0) (by simp)
  have z0 := H.fz (b := w.heap.size + 2) (o := 0) (v := .int .i64 0) (by simp)
  have z1 := H.fz (b := w.heap.size + 2) (o := 1) (v := .int .i64 0) (by simp)
  go_wp2_with (first | (go_at_call 75; refine (sRestOk_xy _ _ _).mono ?_; rintro e w' ⟨rfl, hb⟩; (first | rw [h] | rw [h2]); replace H := H.call hb; have c0 := H.get (b := w.heap.size) (o := 0) (v := .int .i64 x) (by simp); have c1 := H.get (b := w.heap.size) (o := 1) (v := .int .i64 y) (by simp); have c2 := H.get (b := w.heap.size + 1) (o := 0) (v := .int .i64 x2) (by simp); have c3 := H.get (b := w.heap.size + 1) (o := 1) (v := .int .i64 y2) (by simp); have c4 := H.get (b := w.heap.size + 2) (o := 0) (v := .int .i64 0) (by simp); have c5 := H.get (b := w.heap.size + 2) (o := 1) (v := .int .i64 0) (by simp); have z0 := H.fz (b := w.heap.size + 2) (o := 0) (v := .int .i64 0) (by simp); have z1 := H.fz (b := w.heap.size + 2) (o := 1) (v := .int .i64 0) (by simp)) | (go_at_call 152; refine (l9Gcd_any x x2 hb1 hb2 _).mono ?_; rintro e w' ⟨rfl, rfl⟩; rw [hg]) | (go_at_call 92; refine (l1Mod_any (y - y2) g g0 hg2 _).mono ?_; rintro e w' ⟨rfl, rfl⟩))
  obtain ⟨f0, f1, fb⟩ := H.fill (b := w.heap.size + 2) (x := .int .i64 0) (y := .int .i64 0) (by simp) (by simp) (by omega) (.int .i64 0) (.int .i64 0)
  refine bodyPost_ret (results_two_tmp rfl _ _ (w.heap.size + 2) (.int .i64 0) (.int .i64 0) _ rfl f0 f1 Tryd.underlying26 rfl (by kernel_rfl)) rfl ?_
  exact ⟨rfl, fb⟩
set_option maxRecDepth 100000 in
set_option maxHeartbeats 4000000 in
theorem sMeet_great (x y x2 y2 : Int) (hz : x ≠ 0) (hz2 : x2 ≠ 0) (h : qOk (x, y) = true) (h2 : qOk (x2, y2) = true) (hd : (y - y2) % gcd9 x x2 = 0) (hl : 65536 < lcm9 (x, y) (x2, y2)) (w : World) :
    Calls Tryd.prog 73 #[.agg #[.int .i64 x, .int .i64 y], .agg #[.int .i64 x2, .int .i64 y2]] w fun e w' => e = .returned (mv9 (meet9 (x, y) (x2, y2))) ∧ Below w.heap.size w w' := by
  have e : meet9 (x, y) (x2, y2) = (if x < x2 then ((x2, y2), true) else ((x, y), true)) := by
    unfold meet9
    rw [if_neg (by simp [h, h2]), if_neg hz, if_neg hz2, if_neg (by simp [hd]), if_pos hl]
  rw [e]
  unfold lcm9 at hl
  simp only at hl
  have hx := (qOk_iff _).1 h
  have hx2 := (qOk_iff _).1 h2
  simp only at hx hx2
  have hb1 : -9223372036854775807 ≤ x ∧ x ≤ 9223372036854775807 := by omega
  have hb2 : -9223372036854775807 ≤ x2 ∧ x2 ≤ 9223372036854775807 := by omega
  have g0 : 0 < gcd9 x x2 := gcd9_gt (.inl hz)
  have g1 : gcd9 x x2 ≤ x := gcd9_le_left _ (by omega)
  generalize hg : gcd9 x x2 = g at *
  have hg2 : g ≤ 9223372036854775807 := by omega
  have hs : wrap64 (y - y2) = y - y2 := w64_id (by omega) (by omega)
  obtain ⟨W, hW, H⟩ := Hd.three w (.int .i64 x) (.int .i64 y) (.int .i64 x2) (.int .i64 y2) (.int .i64 0) (.int .i64 0) 26 26 26
  have q0 : 0 ≤ x / g := Int.ediv_nonneg (by omega) (by omega)
  have q1 : x / g ≤ x := Int.ediv_le_self _ (by omega)
  have m1 : x / g * x2 ≤ 4294967296 := by
    have k : x / g * x2 ≤ 65536 * 65536 := Int.mul_le_mul (by omega) (by omega) (by omega) (by omega)
    omega
  have m2 : wrap64 (x / g * x2) = x / g * x2 := w64_id (by omega) (by omega)
  have m0 : x.tdiv g = x / g := Int.tdiv_eq_ediv_of_nonneg (by omega)
  by_cases hlt : x < x2
  · rw [if_pos hlt]
    go_enter Tryd.func73, Tryd.ntmps73
    go_wp2_with fail
    rw [← hW]
    clear hW
    have c0 := H.get (b := w.heap.size) (o := 0) (v := .int .i64 x) (by simp)
    have c1 := H.get (b := w.heap.size) (o := 1) (v := .int .i64 y) (by simp)
    have c2 := H.get (b := w.heap.size + 1) (o := 0) (v := .int .i64 x2) (by simp)
    have c3 := H.get (b := w.heap.size + 1) (o := 1) (v := .int .i64 y2) (by simp)
    have c4 := H.get (b := w.heap.size + 2) (o := 0) (v := .int .i64 0) (by simp)
    have c5 := H.get (b := w.heap.size + 2) (o := 1) (v := .int .i64 0) (by simp)
    have z0 := H.fz (b := w.heap.size + 2) (o := 0) (v := .int .i64 0) (by simp)
    have z1 := H.fz (b := w.heap.size + 2) (o := 1) (v := .int .i64 0) (by simp)
    go_wp2_with (first | (go_at_call 75; refine (sRestOk_xy _ _ _).mono ?_; rintro e w' ⟨rfl, hb⟩; (first | rw [h] | rw [h2]); replace H := H.call hb; have c0 := H.get (b := w.heap.size) (o := 0) (v := .int .i64 x) (by simp); have c1 := H.get (b := w.heap.size) (o := 1) (v := .int .i64 y) (by simp); have c2 := H.get (b := w.heap.size + 1) (o := 0) (v := .int .i64 x2) (by simp); have c3 := H.get (b := w.heap.size + 1) (o := 1) (v := .int .i64 y2) (by simp); have c4 := H.get (b := w.heap.size + 2) (o := 0) (v := .int .i64 0) (by simp); have c5 := H.get (b := w.heap.size + 2) (o := 1) (v := .int .i64 0) (by simp); have z0 := H.fz (b := w.heap.size + 2) (o := 0) (v := .int .i64 0) (by simp); have z1 := H.fz (b := w.heap.size + 2) (o := 1) (v := .int .i64 0) (by simp)) | (go_at_call 152; refine (l9Gcd_any x x2 hb1 hb2 _).mono ?_; rintro e w' ⟨rfl, rfl⟩; rw [hg]) | (go_at_call 92; refine (l1Mod_any (y - y2) g g0 hg2 _).mono ?_; rintro e w' ⟨rfl, rfl⟩))
    have k0 := fun p : Over w' => H.over (b := w.heap.size) (o := 0) (v := .int .i64 x) (by simp) p
    have k1 := fun p : Over w' => H.over (b := w.heap.size) (o := 1) (v := .int .i64 y) (by simp) p
    have k2 := fun p : Over w' => H.over (b := w.heap.size + 1) (o := 0) (v := .int .i64 x2) (by simp) p
    have k3 := fun p : Over w' => H.over (b := w.heap.size + 1) (o := 1) (v := .int .i64 y2) (by simp) p
    refine wp_region_over (by kernel_rfl) (by kernel_rfl) ?_
    repeat (go_big_quiet_step (first | fail))
    refine wpQuiet_nil ?_
    rintro _ ⟨p, rfl⟩
    replace H := H.call p.below
    clear k0 k1 k2 k3
    generalize p.w = w3 at *
    have c0 := H.get (b := w.heap.size) (o := 0) (v := .int .i64 x) (by simp)
    have c1 := H.get (b := w.heap.size) (o := 1) (v := .int .i64 y) (by simp)
    have c2 := H.get (b := w.heap.size + 1) (o := 0) (v := .int .i64 x2) (by simp)
    have c3 := H.get (b := w.heap.size + 1) (o := 1) (v := .int .i64 y2) (by simp)
    have c4 := H.get (b := w.heap.size + 2) (o := 0) (v := .int .i64 0) (by simp)
    have c5 := H.get (b := w.heap.size + 2) (o := 1) (v := .int .i64 0) (by simp)
    have z0 := H.fz (b := w.heap.size + 2) (o := 0) (v := .int .i64 0) (by simp)
    have z1 := H.fz (b := w.heap.size + 2) (o := 1) (v := .int .i64 0) (by simp)
    go_wp2
    obtain ⟨f0, f1, fb⟩ := H.fill (b := w.heap.size + 2) (x := .int .i64 0) (y := .int .i64 0) (by simp) (by simp) (by omega) (.int .i64 x2) (.int .i64 y2)
    refine bodyPost_ret (results_two_tmp rfl _ _ (w.heap.size + 2) (.int .i64 x2) (.int .i64 y2) _ rfl f0 f1 Tryd.underlying26 rfl (by kernel_rfl)) rfl ?_
    exact ⟨rfl, fb⟩
  · rw [if_neg hlt]
    go_enter Tryd.func73, Tryd.ntmps73
    go_wp2_with fail
    rw [← hW]
    clear hW
    have c0 := H.get (b := w.heap.size) (o := 0) (v := .int .i64 x) (by simp)
    have c1 := H.get (b := w.heap.size) (o := 1) (v := .int .i64 y) (by simp)
    have c2 := H.get (b := w.heap.size + 1) (o := 0) (v := .int .i64 x2) (by simp)
    have c3 := H.get (b := w.heap.size + 1) (o := 1) (v := .int .i64 y2) (by simp)
    have c4 := H.get (b := w.heap.size + 2) (o := 0) (v := .int .i64 0) (by simp)
    have c5 := H.get (b := w.heap.size + 2) (o := 1) (v := .int .i64 0) (by simp)
    have z0 := H.fz (b := w.heap.size + 2) (o := 0) (v := .int .i64 0) (by simp)
    have z1 := H.fz (b := w.heap.size + 2) (o := 1) (v := .int .i64 0) (by simp)
    go_wp2_with (first | (go_at_call 75; refine (sRestOk_xy _ _ _).mono ?_; rintro e w' ⟨rfl, hb⟩; (first | rw [h] | rw [h2]); replace H := H.call hb; have c0 := H.get (b := w.heap.size) (o := 0) (v := .int .i64 x) (by simp); have c1 := H.get (b := w.heap.size) (o := 1) (v := .int .i64 y) (by simp); have c2 := H.get (b := w.heap.size + 1) (o := 0) (v := .int .i64 x2) (by simp); have c3 := H.get (b := w.heap.size + 1) (o := 1) (v := .int .i64 y2) (by simp); have c4 := H.get (b := w.heap.size + 2) (o := 0) (v := .int .i64 0) (by simp); have c5 := H.get (b := w.heap.size + 2) (o := 1) (v := .int .i64 0) (by simp); have z0 := H.fz (b := w.heap.size + 2) (o := 0) (v := .int .i64 0) (by simp); have z1 := H.fz (b := w.heap.size + 2) (o := 1) (v := .int .i64 0) (by simp)) | (go_at_call 152; refine (l9Gcd_any x x2 hb1 hb2 _).mono ?_; rintro e w' ⟨rfl, rfl⟩; rw [hg]) | (go_at_call 92; refine (l1Mod_any (y - y2) g g0 hg2 _).mono ?_; rintro e w' ⟨rfl, rfl⟩))
    have k0 := fun p : Over w' => H.over (b := w.heap.size) (o := 0) (v := .int .i64 x) (by simp) p
    have k1 := fun p : Over w' => H.over (b := w.heap.size) (o := 1) (v := .int .i64 y) (by simp) p
    have k2 := fun p : Over w' => H.over (b := w.heap.size + 1) (o := 0) (v := .int .i64 x2) (by simp) p
    have k3 := fun p : Over w' => H.over (b := w.heap.size + 1) (o := 1) (v := .int .i64 y2) (by simp) p
    refine wp_region_over (by kernel_rfl) (by kernel_rfl) ?_
    repeat (go_big_quiet_step (first | fail))
    refine wpQuiet_nil ?_
    rintro _ ⟨p, rfl⟩
    replace H := H.call p.below
    clear k0 k1 k2 k3
    generalize p.w = w3 at *
    have c0 := H.get (b := w.heap.size) (o := 0) (v := .int .i64 x) (by simp)
    have c1 := H.get (b := w.heap.size) (o := 1) (v := .int .i64 y) (by simp)
    have c2 := H.get (b := w.heap.size + 1) (o := 0) (v := .int .i64 x2) (by simp)
    have c3 := H.get (b := w.heap.size + 1) (o := 1) (v := .int .i64 y2) (by simp)
    have c4 := H.get (b := w.heap.size + 2) (o := 0) (v := .int .i64 0) (by simp)
    have c5 := H.get (b := w.heap.size + 2) (o := 1) (v := .int .i64 0) (by simp)
    have z0 := H.fz (b := w.heap.size + 2) (o := 0) (v := .int .i64 0) (by simp)
    have z1 := H.fz (b := w.heap.size + 2) (o := 1) (v := .int .i64 0) (by simp)
    go_wp2
    obtain ⟨f0, f1, fb⟩ := H.fill (b := w.heap.size + 2) (x := .int .i64 0) (y := .int .i64 0) (by simp) (by simp) (by omega) (.int .i64 x) (.int .i64 y)
    refine bodyPost_ret (results_two_tmp rfl _ _ (w.heap.size + 2) (.int .i64 x) (.int .i64 y) _ rfl f0 f1 Tryd.underlying26 rfl (by kernel_rfl)) rfl ?_
    exact ⟨rfl, fb⟩
end Go.Proofs.YthbbgkpkijlclaaDoor.num
namespace Go.Proofs.YthbbgkpkijlclaaDoor.num
open Go.ChangeShapes Go.WideShapes Go.ChangeAt Go.RowKit
set_option linter.unusedVariables false

set_option maxRecDepth 100000 in
set_option maxHeartbeats 4000000 in
theorem sMeet_small (x y x2 y2 : Int) (hz : x ≠ 0) (hz2 : x2 ≠ 0) (h : qOk (x, y) = true) (h2 : qOk (x2, y2) = true) (hd : (y - y2) % gcd9 x x2 = 0) (hl : ¬ 65536 < lcm9 (x, y) (x2, y2)) (w : World) :
    Calls Tryd.prog 73 #[.agg #[.int .i64 x, .int .i64 y], .agg #[.int .i64 x2, .int .i64 y2]] w fun e w' => e = .returned (mv9 (meet9 (x, y) (x2, y2))) ∧ Below w.heap.size w w' := by
  have e : meet9 (x, y) (x2, y2) = ((lcm9 (x, y) (x2, y2), crt9 (x, y) (x2, y2)), true) := by
    unfold meet9
    rw [if_neg (by simp [h, h2]), if_neg hz, if_neg hz2, if_neg (by simp [hd]), if_neg hl]
  obtain ⟨K, hK, hcrt, hK1, hK2⟩ := crt9_steps h h2 hz hz2 hd
  simp only at hcrt hK1 hK2
  rw [e, hcrt]
  clear hcrt
  unfold lcm9 at hl ⊢
  simp only at hl ⊢
  have hx := (qOk_iff _).1 h
  have hx2 := (qOk_iff _).1 h2
  simp only at hx hx2
  have hb1 : -9223372036854775807 ≤ x ∧ x ≤ 9223372036854775807 := by omega
  have hb2 : -9223372036854775807 ≤ x2 ∧ x2 ≤ 9223372036854775807 := by omega
  have g0 : 0 < gcd9 x x2 := gcd9_gt (.inl hz)
  have g1 : gcd9 x x2 ≤ x := gcd9_le_left _ (by omega)
  generalize hg : gcd9 x x2 = g at *
  have hg2 : g ≤ 9223372036854775807 := by omega
  have hs : wrap64 (y - y2) = y - y2 := w64_id (by omega) (by omega)
  obtain ⟨W, hW, H⟩ := Hd.three w (.int .i64 x) (.int .i64 y) (.int .i64 x2) (.int .i64 y2) (.int .i64 0) (.int .i64 0) 26 26 26
  have q0 : 0 ≤ x / g := Int.ediv_nonneg (by omega) (by omega)
  have q1 : x / g ≤ x := Int.ediv_le_self _ (by omega)
  have m1 : 0 ≤ x / g * x2 := Int.mul_nonneg (by omega) (by omega)
  have m2 : wrap64 (x / g * x2) = x / g * x2 := w64_id (by omega) (by omega)
  have m0 : x.tdiv g = x / g := Int.tdiv_eq_ediv_of_nonneg (by omega)
  generalize hm : x / g * x2 = m at *
  have hxK : x * (K : Int) ≤ 65536 * 65536 := Int.mul_le_mul (by omega) (by omega) (by omega) (by omega)
  go_enter Tryd.func73, Tryd.ntmps73
  go_wp2_with fail
  rw [← hW]
  clear hW
  have c0 := H.get (b := w.heap.size) (o := 0) (v := .int .i64 x) (by simp)
  have c1 := H.get (b := w.heap.size) (o := 1) (v := .int .i64 y) (by simp)
  have c2 := H.get (b := w.heap.size + 1) (o := 0) (v := .int .i64 x2) (by simp)
  have c3 := H.get (b := w.heap.size + 1) (o := 1) (v := .int .i64 y2) (by simp)
  have c4 := H.get (b := w.heap.size + 2) (o := 0) (v := .int .i64 0) (by simp)
  have c5 := H.get (b := w.heap.size + 2) (o := 1) (v := .int .i64 0) (by simp)
  have z0 := H.fz (b := w.heap.size + 2) (o := 0) (v := .int .i64 0) (by simp)
  have z1 := H.fz (b := w.heap.size + 2) (o := 1) (v := .int .i64 0) (by simp)
  go_wp2_with (first | (go_at_call 75; refine (sRestOk_xy _ _ _).mono ?_; rintro e w' ⟨rfl, hb⟩; (first | rw [h] | rw [h2]); replace H := H.call hb; have c0 := H.get (b := w.heap.size) (o := 0) (v := .int .i64 x) (by simp); have c1 := H.get (b := w.heap.size) (o := 1) (v := .int .i64 y) (by simp); have c2 := H.get (b := w.heap.size + 1) (o := 0) (v := .int .i64 x2) (by simp); have c3 := H.get (b := w.heap.size + 1) (o := 1) (v := .int .i64 y2) (by simp); have c4 := H.get (b := w.heap.size + 2) (o := 0) (v := .int .i64 0) (by simp); have c5 := H.get (b := w.heap.size + 2) (o := 1) (v := .int .i64 0) (by simp); have z0 := H.fz (b := w.heap.size + 2) (o := 0) (v := .int .i64 0) (by simp); have z1 := H.fz (b := w.heap.size + 2) (o := 1) (v := .int .i64 0) (by simp)) | (go_at_call 152; refine (l9Gcd_any x x2 hb1 hb2 _).mono ?_; rintro e w' ⟨rfl, rfl⟩; rw [hg]) | (go_at_call 92; refine (l1Mod_any (y - y2) g g0 hg2 _).mono ?_; rintro e w' ⟨rfl, rfl⟩))
  have k0 := fun p : Over w' => H.over (b := w.heap.size) (o := 0) (v := .int .i64 x) (by simp) p
  have k1 := fun p : Over w' => H.over (b := w.heap.size) (o := 1) (v := .int .i64 y) (by simp) p
  have k2 := fun p : Over w' => H.over (b := w.heap.size + 1) (o := 0) (v := .int .i64 x2) (by simp) p
  have k3 := fun p : Over w' => H.over (b := w.heap.size + 1) (o := 1) (v := .int .i64 y2) (by simp) p
  refine wp_region_over (by kernel_rfl) (by kernel_rfl) ?_
  repeat (go_big_quiet_step (first | fail))
  refine wpQuiet_nil ?_
  rintro _ ⟨p, rfl⟩
  replace H := H.call p.below
  clear k0 k1 k2 k3
  generalize p.w = w3 at *
  have c0 := H.get (b := w.heap.size) (o := 0) (v := .int .i64 x) (by simp)
  have c1 := H.get (b := w.heap.size) (o := 1) (v := .int .i64 y) (by simp)
  have c2 := H.get (b := w.heap.size + 1) (o := 0) (v := .int .i64 x2) (by simp)
  have c3 := H.get (b := w.heap.size + 1) (o := 1) (v := .int .i64 y2) (by simp)
  have c4 := H.get (b := w.heap.size + 2) (o := 0) (v := .int .i64 0) (by simp)
  have c5 := H.get (b := w.heap.size + 2) (o := 1) (v := .int .i64 0) (by simp)
  have z0 := H.fz (b := w.heap.size + 2) (o := 0) (v := .int .i64 0) (by simp)
  have z1 := H.fz (b := w.heap.size + 2) (o := 1) (v := .int .i64 0) (by simp)
  go_wp2_with fail
  try rw [hm]
  clear hm
  have hKM := hide hK1
  have hKN := hide hK2
  clear hK1 hK2
  go_loopw [8] (fun a wr => ∃ j : Nat, j ≤ K ∧ a = .int .i64 (y + x * j) ∧ Hd w [(w.heap.size + 2, 0, .int .i64 0), (w.heap.size + 2, 1, .int .i64 0), (w.heap.size + 1, 0, .int .i64 x2), (w.heap.size + 1, 1, .int .i64 y2), (w.heap.size, 0, .int .i64 x), (w.heap.size, 1, .int .i64 y)] wr) (fun a _ => (y + x * K - intOf a).toNat)
  case atStart => exact ⟨0, by omega, by simp, H⟩
  case round =>

    obtain ⟨j, hj, rfl, H⟩ := hrel
    have hxj : 0 ≤ x * (j : Int) ∧ x * (j : Int) ≤ x * (K : Int) := ⟨Int.mul_nonneg (by omega) (by omega), Int.mul_le_mul_of_nonneg_left (by omega) (by omega)⟩
    have c0 := H.get (b := w.heap.size) (o := 0) (v := .int .i64 x) (by simp)
    have c1 := H.get (b := w.heap.size) (o := 1) (v := .int .i64 y) (by simp)
    have c2 := H.get (b := w.heap.size + 1) (o := 0) (v := .int .i64 x2) (by simp)
    have c3 := H.get (b := w.heap.size + 1) (o := 1) (v := .int .i64 y2) (by simp)
    have c4 := H.get (b := w.heap.size + 2) (o := 0) (v := .int .i64 0) (by simp)
    have c5 := H.get (b := w.heap.size + 2) (o := 1) (v := .int .i64 0) (by simp)
    have z0 := H.fz (b := w.heap.size + 2) (o := 0) (v := .int .i64 0) (by simp)
    have z1 := H.fz (b := w.heap.size + 2) (o := 1) (v := .int .i64 0) (by simp)
    have hw : wrap64 (y + x * j + x) = y + x * j + x := w64_id (by omega) (by omega)
    have hx20 : 0 < x2 := by omega
    have hx21 : x2 ≤ 9223372036854775807 := by omega
    by_cases hjk : j = K
    · subst hjk
      have hKM' := unhide hKM
      go_wp2_with fail
      have k0 := fun p : Over _ => H.over (b := w.heap.size) (o := 0) (v := .int .i64 x) (by simp) p
      have k1 := fun p : Over _ => H.over (b := w.heap.size) (o := 1) (v := .int .i64 y) (by simp) p
      have k2 := fun p : Over _ => H.over (b := w.heap.size + 1) (o := 0) (v := .int .i64 x2) (by simp) p
      have k3 := fun p : Over _ => H.over (b := w.heap.size + 1) (o := 1) (v := .int .i64 y2) (by simp) p
      refine wp_region_over (by kernel_rfl) (by kernel_rfl) ?_
      repeat (go_big_quiet_step (first | (go_at_call 92; rename_i p; refine (l1Mod_any (y + x * j) x2 hx20 hx21 _).mono ?_; rintro e' w' ⟨rfl, rfl⟩; exact ⟨rfl, p, rfl⟩)))
      refine wpQuiet_nil ?_
      rintro _ ⟨p, rfl⟩
      replace H := H.call p.below
      clear k0 k1 k2 k3
      generalize p.w = w3 at *
      have c0 := H.get (b := w.heap.size) (o := 0) (v := .int .i64 x) (by simp)
      have c1 := H.get (b := w.heap.size) (o := 1) (v := .int .i64 y) (by simp)
      have c2 := H.get (b := w.heap.size + 1) (o := 0) (v := .int .i64 x2) (by simp)
      have c3 := H.get (b := w.heap.size + 1) (o := 1) (v := .int .i64 y2) (by simp)
      have c4 := H.get (b := w.heap.size + 2) (o := 0) (v := .int .i64 0) (by simp)
      have c5 := H.get (b := w.heap.size + 2) (o := 1) (v := .int .i64 0) (by simp)
      have z0 := H.fz (b := w.heap.size + 2) (o := 0) (v := .int .i64 0) (by simp)
      have z1 := H.fz (b := w.heap.size + 2) (o := 1) (v := .int .i64 0) (by simp)
      go_wp2
      obtain ⟨f0, f1, fb⟩ := H.fill (b := w.heap.size + 2) (x := .int .i64 0) (y := .int .i64 0) (by simp) (by simp) (by omega) (.int .i64 m) (.int .i64 (y + x * j))
      refine bodyPost_ret (results_two_tmp rfl _ _ (w.heap.size + 2) (.int .i64 m) (.int .i64 (y + x * j)) _ rfl f0 f1 Tryd.underlying26 rfl (by kernel_rfl)) rfl ?_
      exact ⟨rfl, fb⟩
    · have hne := unhide hKN j (by omega)
      go_wp2_with fail
      have k0 := fun p : Over _ => H.over (b := w.heap.size) (o := 0) (v := .int .i64 x) (by simp) p
      have k1 := fun p : Over _ => H.over (b := w.heap.size) (o := 1) (v := .int .i64 y) (by simp) p
      have k2 := fun p : Over _ => H.over (b := w.heap.size + 1) (o := 0) (v := .int .i64 x2) (by simp) p
      have k3 := fun p : Over _ => H.over (b := w.heap.size + 1) (o := 1) (v := .int .i64 y2) (by simp) p
      refine wp_region_over (by kernel_rfl) (by kernel_rfl) ?_
      repeat (go_big_quiet_step (first | (go_at_call 92; rename_i p; refine (l1Mod_any (y + x * j) x2 hx20 hx21 _).mono ?_; rintro e' w' ⟨rfl, rfl⟩; exact ⟨rfl, p, rfl⟩)))
      refine wpQuiet_nil ?_
      rintro _ ⟨p, rfl⟩
      replace H := H.call p.below
      clear k0 k1 k2 k3
      generalize p.w = w3 at *
      have c0 := H.get (b := w.heap.size) (o := 0) (v := .int .i64 x) (by simp)
      have c1 := H.get (b := w.heap.size) (o := 1) (v := .int .i64 y) (by simp)
      have c2 := H.get (b := w.heap.size + 1) (o := 0) (v := .int .i64 x2) (by simp)
      have c3 := H.get (b := w.heap.size + 1) (o := 1) (v := .int .i64 y2) (by simp)
      have c4 := H.get (b := w.heap.size + 2) (o := 0) (v := .int .i64 0) (by simp)
      have c5 := H.get (b := w.heap.size + 2) (o := 1) (v := .int .i64 0) (by simp)
      have z0 := H.fz (b := w.heap.size + 2) (o := 0) (v := .int .i64 0) (by simp)
      have z1 := H.fz (b := w.heap.size + 2) (o := 1) (v := .int .i64 0) (by simp)
      go_wp2
      have hxj2 : x * ((j : Int) + 1) ≤ x * (K : Int) := Int.mul_le_mul_of_nonneg_left (by omega) (by omega)
      rw [Int.mul_add] at hxj2
      go_roundw
      case rel => exact ⟨j + 1, by omega, by congr 1; simp [Int.mul_add]; omega, H⟩
      case measure => simp only [intOf]; omega
set_option maxRecDepth 100000 in
set_option maxHeartbeats 4000000 in
theorem sMeet_xy (x y x2 y2 : Int) (w : World) :
    Calls Tryd.prog 73 #[.agg #[.int .i64 x, .int .i64 y], .agg #[.int .i64 x2, .int .i64 y2]] w fun e w' => e = .returned (mv9 (meet9 (x, y) (x2, y2))) ∧ Below w.heap.size w w' := by
  cases h : qOk (x, y)
  · exact sMeet_bad x y x2 y2 (.inl h) w
  · cases h2 : qOk (x2, y2)
    · exact sMeet_bad x y x2 y2 (.inr h2) w
    · by_cases hz : x = 0
      · subst hz
        exact sMeet_single y x2 y2 h h2 w
      · by_cases hz2 : x2 = 0
        · subst hz2
          exact sMeet_right x y y2 hz h h2 w
        · by_cases hd : (y - y2) % gcd9 x x2 = 0
          · by_cases hl : 65536 < lcm9 (x, y) (x2, y2)
            · exact sMeet_great x y x2 y2 hz hz2 h h2 hd hl w
            · exact sMeet_small x y x2 y2 hz hz2 h h2 hd hl w
          · exact sMeet_apart x y x2 y2 hz hz2 h h2 hd w
end Go.Proofs.YthbbgkpkijlclaaDoor.num
namespace Go.Proofs.YthbbgkpkijlclaaDoor.num
open Go.ChangeShapes Go.WideShapes Go.ChangeAt Go.RowKit
set_option linter.unusedVariables false

/-- What two rests have together of which none is single, told of the first. -/
def mf9 (a b : T9) : T9 × Bool :=
  if ¬ (a.2 - b.2) % gcd9 a.1 b.1 = 0 then ((0, 0), false) else if 65536 < lcm9 a b then (a, true) else ((lcm9 a b, crt9 a b), true)
theorem meet9_fine {a b : T9} (ha : qOk a = true) (hb : qOk b = true) (h1 : a.1 ≠ 0) (h2 : b.1 ≠ 0) (h : ¬ a.1 < b.1) : meet9 a b = mf9 a b := by
  unfold meet9 mf9
  rw [if_neg (by simp [ha, hb]), if_neg h1, if_neg h2, if_neg h]
theorem meet9_turn {a b : T9} (ha : qOk a = true) (hb : qOk b = true) (h1 : a.1 ≠ 0) (h2 : b.1 ≠ 0) (h : a.1 < b.1) : meet9 a b = mf9 b a := by
  have e : (a.2 - b.2) % gcd9 a.1 b.1 = 0 ↔ (b.2 - a.2) % gcd9 b.1 a.1 = 0 := by
    rw [gcd9_comm b.1 a.1, ← dvd_iff_emod, ← dvd_iff_emod, ← Int.dvd_neg, show -(a.2 - b.2) = b.2 - a.2 by omega]
  unfold meet9 mf9
  rw [if_neg (by simp [ha, hb]), if_neg h1, if_neg h2, if_pos h, lcm9_comm b a]
  by_cases hd : (a.2 - b.2) % gcd9 a.1 b.1 = 0
  · have hd' := e.1 hd
    simp [hd, hd', crt9_comm ha hb h1 h2 hd]
  · have hd' : ¬ (b.2 - a.2) % gcd9 b.1 a.1 = 0 := fun h => hd (e.2 h)
    rw [if_pos hd, if_pos hd']
theorem just_any (x y : Int) (m : Bool) (w : World) :
    Calls Tryd.prog 150 #[.agg #[.int .i64 x, .int .i64 y], .bool m] w fun e w' => e = .returned (.tuple #[.agg #[.int .i64 (if m = true then x else 0), .int .i64 (if m = true then y else 0)], .bool m]) ∧ Below w.heap.size w w' := by
  cases m
  all_goals
    go_enter Tryd.func150, Tryd.ntmps150
    go_wp2
  · refine bodyPost_ret (results_two_tmp rfl _ _ (w.heap.size + 1) (.int .i64 0) (.int .i64 0) _ rfl (by simp [go_sem]) (by simp [go_sem]) Tryd.underlying26 rfl (by kernel_rfl)) rfl ?_
    exact ⟨rfl, ((Below.refl _ _).alloc (Nat.le_refl _) _).alloc (by simp) _⟩
  · refine bodyPost_ret (results_two_tmp rfl _ _ (w.heap.size + 1) (.int .i64 x) (.int .i64 y) _ rfl (by simp [go_sem]) (by simp [go_sem]) Tryd.underlying26 rfl (by kernel_rfl)) rfl ?_
    exact ⟨rfl, ((Below.refl _ _).alloc (Nat.le_refl _) _).alloc (by simp) _⟩
theorem Hd.tail2' {w0 w : World} {L : List (Nat × Nat × Value)} {a b : Nat × Nat × Value} (h : Hd w0 (a :: b :: L) w) : Hd w0 L w := ⟨h.below, fun c o v hm => h.cells c o v (List.mem_cons_of_mem _ (List.mem_cons_of_mem _ hm))⟩
end Go.Proofs.YthbbgkpkijlclaaDoor.num
namespace Go.Proofs.YthbbgkpkijlclaaDoor.num
open Go.ChangeShapes Go.WideShapes Go.ChangeAt Go.RowKit
set_option linter.unusedVariables false

set_option maxRecDepth 100000 in
set_option maxHeartbeats 4000000 in
theorem fine_apart (x y x2 y2 : Int) (hz : x ≠ 0) (hz2 : x2 ≠ 0) (h : qOk (x, y) = true) (h2 : qOk (x2, y2) = true) (hd : (y - y2) % gcd9 x x2 ≠ 0) (w : World) :
    Calls Tryd.prog 151 #[.agg #[.int .i64 x, .int .i64 y], .agg #[.int .i64 x2, .int .i64 y2]] w fun e w' => e = .returned (mv9 (mf9 (x, y) (x2, y2))) ∧ Below w.heap.size w w' := by
  have e : mf9 (x, y) (x2, y2) = ((0, 0), false) := by
    unfold mf9
    rw [if_pos hd]
  rw [e]
  have hx := (qOk_iff _).1 h
  have hx2 := (qOk_iff _).1 h2
  simp only at hx hx2
  have hb1 : -9223372036854775807 ≤ x ∧ x ≤ 9223372036854775807 := by omega
  have hb2 : -9223372036854775807 ≤ x2 ∧ x2 ≤ 9223372036854775807 := by omega
  have g0 : 0 < gcd9 x x2 := gcd9_gt (.inl hz)
  have g1 : gcd9 x x2 ≤ x := gcd9_le_left _ (by omega)
  generalize hg : gcd9 x x2 = g at *
  have hg2 : g ≤ 4611686018427387904 := by omega
  have hs : wrap64 (y - y2) = y - y2 := w64_id (by omega) (by omega)
  obtain ⟨W, hW, H⟩ := Hd.three w (.int .i64 x) (.int .i64 y) (.int .i64 x2) (.int .i64 y2) (.int .i64 0) (.int .i64 0) 26 26 26
  go_enter Tryd.func151, Tryd.ntmps151
  go_wp2_with fail
  rw [← hW]
  have hWs : W.heap.size = w.heap.size + 1 + 1 + 1 := by rw [hW]; simp
  clear hW
  have c0 := H.get (b := w.heap.size) (o := 0) (v := .int .i64 x) (by simp)
  have c1 := H.get (b := w.heap.size) (o := 1) (v := .int .i64 y) (by simp)
  have c2 := H.get (b := w.heap.size + 1) (o := 0) (v := .int .i64 x2) (by simp)
  have c3 := H.get (b := w.heap.size + 1) (o := 1) (v := .int .i64 y2) (by simp)
  have c4 := H.get (b := w.heap.size + 2) (o := 0) (v := .int .i64 0) (by simp)
  have c5 := H.get (b := w.heap.size + 2) (o := 1) (v := .int .i64 0) (by simp)
  have z0 := H.fz (b := w.heap.size + 2) (o := 0) (v := .int .i64 0) (by simp)
  have z1 := H.fz (b := w.heap.size + 2) (o := 1) (v := .int .i64 0) (by simp)
  go_wp2_with (first | (go_at_call 148; replace H := H.box (.int .i64 x) (.int .i64 x2) 3; rw [hWs] at H; refine (iGcd_two (w.heap.size + 1 + 1 + 1) x x2 _ (H.lt (b := w.heap.size + 1 + 1 + 1) (o := 0) (v := .int .i64 x) (by simp)) (H.get (b := w.heap.size + 1 + 1 + 1) (o := 0) (v := .int .i64 x) (by simp)) (H.get (b := w.heap.size + 1 + 1 + 1) (o := 1) (v := .int .i64 x2) (by simp)) hb1 hb2).mono ?_; rintro e w' ⟨rfl, hb⟩; rw [hg]; replace H := (H.call hb).tail2'; have c0 := H.get (b := w.heap.size) (o := 0) (v := .int .i64 x) (by simp); have c1 := H.get (b := w.heap.size) (o := 1) (v := .int .i64 y) (by simp); have c2 := H.get (b := w.heap.size + 1) (o := 0) (v := .int .i64 x2) (by simp); have c3 := H.get (b := w.heap.size + 1) (o := 1) (v := .int .i64 y2) (by simp); have c4 := H.get (b := w.heap.size + 2) (o := 0) (v := .int .i64 0) (by simp); have c5 := H.get (b := w.heap.size + 2) (o := 1) (v := .int .i64 0) (by simp); have z0 := H.fz (b := w.heap.size + 2) (o := 0) (v := .int .i64 0) (by simp); have z1 := H.fz (b := w.heap.size + 2) (o := 1) (v := .int .i64 0) (by simp)) | (go_at_call 162; refine (modulo_any (y - y2) g g0 hg2 _).mono ?_; rintro e w' ⟨rfl, rfl⟩))
  obtain ⟨f0, f1, fb⟩ := H.fill (b := w.heap.size + 2) (x := .int .i64 0) (y := .int .i64 0) (by simp) (by simp) (by omega) (.int .i64 0) (.int .i64 0)
  refine bodyPost_ret (results_two_tmp rfl _ _ (w.heap.size + 2) (.int .i64 0) (.int .i64 0) _ rfl f0 f1 Tryd.underlying26 rfl (by kernel_rfl)) rfl ?_
  exact ⟨rfl, fb⟩
set_option maxRecDepth 100000 in
set_option maxHeartbeats 4000000 in
theorem fine_great (x y x2 y2 : Int) (hz : x ≠ 0) (hz2 : x2 ≠ 0) (h : qOk (x, y) = true) (h2 : qOk (x2, y2) = true) (hd : (y - y2) % gcd9 x x2 = 0) (hl : 65536 < lcm9 (x, y) (x2, y2)) (w : World) :
    Calls Tryd.prog 151 #[.agg #[.int .i64 x, .int .i64 y], .agg #[.int .i64 x2, .int .i64 y2]] w fun e w' => e = .returned (mv9 (mf9 (x, y) (x2, y2))) ∧ Below w.heap.size w w' := by
  have e : mf9 (x, y) (x2, y2) = ((x, y), true) := by
    unfold mf9
    rw [if_neg (by simp [hd]), if_pos hl]
  rw [e]
  unfold lcm9 at hl
  simp only at hl
  have hx := (qOk_iff _).1 h
  have hx2 := (qOk_iff _).1 h2
  simp only at hx hx2
  have hb1 : -9223372036854775807 ≤ x ∧ x ≤ 9223372036854775807 := by omega
  have hb2 : -9223372036854775807 ≤ x2 ∧ x2 ≤ 9223372036854775807 := by omega
  have g0 : 0 < gcd9 x x2 := gcd9_gt (.inl hz)
  have g1 : gcd9 x x2 ≤ x := gcd9_le_left _ (by omega)
  generalize hg : gcd9 x x2 = g at *
  have hg2 : g ≤ 4611686018427387904 := by omega
  have hs : wrap64 (y - y2) = y - y2 := w64_id (by omega) (by omega)
  obtain ⟨W, hW, H⟩ := Hd.three w (.int .i64 x) (.int .i64 y) (.int .i64 x2) (.int .i64 y2) (.int .i64 0) (.int .i64 0) 26 26 26
  have q0 : 0 ≤ x / g := Int.ediv_nonneg (by omega) (by omega)
  have q1 : x / g ≤ x := Int.ediv_le_self _ (by omega)
  have m1 : x / g * x2 ≤ 4294967296 := by
    have k : x / g * x2 ≤ 65536 * 65536 := Int.mul_le_mul (by omega) (by omega) (by omega) (by omega)
    omega
  have m3 : 0 ≤ x / g * x2 := Int.mul_nonneg (by omega) (by omega)
  have m2 : wrap64 (x / g * x2) = x / g * x2 := w64_id (by omega) (by omega)
  have m0 : x.tdiv g = x / g := Int.tdiv_eq_ediv_of_nonneg (by omega)
  go_enter Tryd.func151, Tryd.ntmps151
  go_wp2_with fail
  rw [← hW]
  have hWs : W.heap.size = w.heap.size + 1 + 1 + 1 := by rw [hW]; simp
  clear hW
  have c0 := H.get (b := w.heap.size) (o := 0) (v := .int .i64 x) (by simp)
  have c1 := H.get (b := w.heap.size) (o := 1) (v := .int .i64 y) (by simp)
  have c2 := H.get (b := w.heap.size + 1) (o := 0) (v := .int .i64 x2) (by simp)
  have c3 := H.get (b := w.heap.size + 1) (o := 1) (v := .int .i64 y2) (by simp)
  have c4 := H.get (b := w.heap.size + 2) (o := 0) (v := .int .i64 0) (by simp)
  have c5 := H.get (b := w.heap.size + 2) (o := 1) (v := .int .i64 0) (by simp)
  have z0 := H.fz (b := w.heap.size + 2) (o := 0) (v := .int .i64 0) (by simp)
  have z1 := H.fz (b := w.heap.size + 2) (o := 1) (v := .int .i64 0) (by simp)
  go_wp2_with (first | (go_at_call 148; replace H := H.box (.int .i64 x) (.int .i64 x2) 3; rw [hWs] at H; refine (iGcd_two (w.heap.size + 1 + 1 + 1) x x2 _ (H.lt (b := w.heap.size + 1 + 1 + 1) (o := 0) (v := .int .i64 x) (by simp)) (H.get (b := w.heap.size + 1 + 1 + 1) (o := 0) (v := .int .i64 x) (by simp)) (H.get (b := w.heap.size + 1 + 1 + 1) (o := 1) (v := .int .i64 x2) (by simp)) hb1 hb2).mono ?_; rintro e w' ⟨rfl, hb⟩; rw [hg]; replace H := (H.call hb).tail2'; have c0 := H.get (b := w.heap.size) (o := 0) (v := .int .i64 x) (by simp); have c1 := H.get (b := w.heap.size) (o := 1) (v := .int .i64 y) (by simp); have c2 := H.get (b := w.heap.size + 1) (o := 0) (v := .int .i64 x2) (by simp); have c3 := H.get (b := w.heap.size + 1) (o := 1) (v := .int .i64 y2) (by simp); have c4 := H.get (b := w.heap.size + 2) (o := 0) (v := .int .i64 0) (by simp); have c5 := H.get (b := w.heap.size + 2) (o := 1) (v := .int .i64 0) (by simp); have z0 := H.fz (b := w.heap.size + 2) (o := 0) (v := .int .i64 0) (by simp); have z1 := H.fz (b := w.heap.size + 2) (o := 1) (v := .int .i64 0) (by simp)) | (go_at_call 162; refine (modulo_any (y - y2) g g0 hg2 _).mono ?_; rintro e w' ⟨rfl, rfl⟩))
  have k0 := fun p : Over _ => H.over (b := w.heap.size) (o := 0) (v := .int .i64 x) (by simp) p
  have k1 := fun p : Over _ => H.over (b := w.heap.size) (o := 1) (v := .int .i64 y) (by simp) p
  have k2 := fun p : Over _ => H.over (b := w.heap.size + 1) (o := 0) (v := .int .i64 x2) (by simp) p
  have k3 := fun p : Over _ => H.over (b := w.heap.size + 1) (o := 1) (v := .int .i64 y2) (by simp) p
  refine wp_region_over (by kernel_rfl) (by kernel_rfl) ?_
  repeat (go_big_quiet_step (first | fail))
  refine wpQuiet_nil ?_
  rintro _ ⟨p, rfl⟩
  replace H := H.call p.below
  clear k0 k1 k2 k3
  generalize p.w = w3 at *
  have c0 := H.get (b := w.heap.size) (o := 0) (v := .int .i64 x) (by simp)
  have c1 := H.get (b := w.heap.size) (o := 1) (v := .int .i64 y) (by simp)
  have c2 := H.get (b := w.heap.size + 1) (o := 0) (v := .int .i64 x2) (by simp)
  have c3 := H.get (b := w.heap.size + 1) (o := 1) (v := .int .i64 y2) (by simp)
  have c4 := H.get (b := w.heap.size + 2) (o := 0) (v := .int .i64 0) (by simp)
  have c5 := H.get (b := w.heap.size + 2) (o := 1) (v := .int .i64 0) (by simp)
  have z0 := H.fz (b := w.heap.size + 2) (o := 0) (v := .int .i64 0) (by simp)
  have z1 := H.fz (b := w.heap.size + 2) (o := 1) (v := .int .i64 0) (by simp)
  go_wp2
  obtain ⟨f0, f1, fb⟩ := H.fill (b := w.heap.size + 2) (x := .int .i64 0) (y := .int .i64 0) (by simp) (by simp) (by omega) (.int .i64 x) (.int .i64 y)
  refine bodyPost_ret (results_two_tmp rfl _ _ (w.heap.size + 2) (.int .i64 x) (.int .i64 y) _ rfl f0 f1 Tryd.underlying26 rfl (by kernel_rfl)) rfl ?_
  exact ⟨rfl, fb⟩
end Go.Proofs.YthbbgkpkijlclaaDoor.num
namespace Go.Proofs.YthbbgkpkijlclaaDoor.num
open Go.ChangeShapes Go.WideShapes Go.ChangeAt Go.RowKit
set_option linter.unusedVariables false

set_option maxRecDepth 100000 in
set_option maxHeartbeats 4000000 in
theorem fine_small (x y x2 y2 : Int) (hz : x ≠ 0) (hz2 : x2 ≠ 0) (h : qOk (x, y) = true) (h2 : qOk (x2, y2) = true) (hd : (y - y2) % gcd9 x x2 = 0) (hl : ¬ 65536 < lcm9 (x, y) (x2, y2)) (w : World) :
    Calls Tryd.prog 151 #[.agg #[.int .i64 x, .int .i64 y], .agg #[.int .i64 x2, .int .i64 y2]] w fun e w' => e = .returned (mv9 (mf9 (x, y) (x2, y2))) ∧ Below w.heap.size w w' := by
  have e : mf9 (x, y) (x2, y2) = ((lcm9 (x, y) (x2, y2), crt9 (x, y) (x2, y2)), true) := by
    unfold mf9
    rw [if_neg (by simp [hd]), if_neg hl]
  obtain ⟨K, hK, hcrt, hK1, hK2⟩ := crt9_steps h h2 hz hz2 hd
  simp only at hcrt hK1 hK2
  rw [e, hcrt]
  clear hcrt
  unfold lcm9 at hl ⊢
  simp only at hl ⊢
  have hx := (qOk_iff _).1 h
  have hx2 := (qOk_iff _).1 h2
  simp only at hx hx2
  have hb1 : -9223372036854775807 ≤ x ∧ x ≤ 9223372036854775807 := by omega
  have hb2 : -9223372036854775807 ≤ x2 ∧ x2 ≤ 9223372036854775807 := by omega
  have g0 : 0 < gcd9 x x2 := gcd9_gt (.inl hz)
  have g1 : gcd9 x x2 ≤ x := gcd9_le_left _ (by omega)
  generalize hg : gcd9 x x2 = g at *
  have hg2 : g ≤ 4611686018427387904 := by omega
  have hs : wrap64 (y - y2) = y - y2 := w64_id (by omega) (by omega)
  obtain ⟨W, hW, H⟩ := Hd.three w (.int .i64 x) (.int .i64 y) (.int .i64 x2) (.int .i64 y2) (.int .i64 0) (.int .i64 0) 26 26 26
  have q0 : 0 ≤ x / g := Int.ediv_nonneg (by omega) (by omega)
  have q1 : x / g ≤ x := Int.ediv_le_self _ (by omega)
  have m3 : 0 ≤ x / g * x2 := Int.mul_nonneg (by omega) (by omega)
  have m2 : wrap64 (x / g * x2) = x / g * x2 := w64_id (by omega) (by omega)
  have m0 : x.tdiv g = x / g := Int.tdiv_eq_ediv_of_nonneg (by omega)
  generalize hm : x / g * x2 = m at *
  have hxK : x * (K : Int) ≤ 65536 * 65536 := Int.mul_le_mul (by omega) (by omega) (by omega) (by omega)
  have hx20 : 0 ≤ x2 ∧ x2 ≤ 4611686018427387904 := by omega
  have hmk : ∀ v : Int, make9 x2 v = (x2, v % x2) := fun v => by unfold make9; rw [small9_id (by omega), if_neg hz2]
  have hm9 : ∀ (v : Int) (w1 : World), Calls Tryd.prog 155 #[.agg #[.int .i64 x2, .int .i64 y2], .int .i64 v] w1 fun e w' => e = .returned (.bool (decide (v % x2 = y2))) ∧ Below w1.heap.size w1 w' := fun v w1 => by
    have := restHas_xy x2 y2 v (by omega) w1
    unfold hasQ at this
    rw [hmk] at this
    simpa using this
  go_enter Tryd.func151, Tryd.ntmps151
  go_wp2_with fail
  rw [← hW]
  have hWs : W.heap.size = w.heap.size + 1 + 1 + 1 := by rw [hW]; simp
  clear hW
  have c0 := H.get (b := w.heap.size) (o := 0) (v := .int .i64 x) (by simp)
  have c1 := H.get (b := w.heap.size) (o := 1) (v := .int .i64 y) (by simp)
  have c2 := H.get (b := w.heap.size + 1) (o := 0) (v := .int .i64 x2) (by simp)
  have c3 := H.get (b := w.heap.size + 1) (o := 1) (v := .int .i64 y2) (by simp)
  have c4 := H.get (b := w.heap.size + 2) (o := 0) (v := .int .i64 0) (by simp)
  have c5 := H.get (b := w.heap.size + 2) (o := 1) (v := .int .i64 0) (by simp)
  have z0 := H.fz (b := w.heap.size + 2) (o := 0) (v := .int .i64 0) (by simp)
  have z1 := H.fz (b := w.heap.size + 2) (o := 1) (v := .int .i64 0) (by simp)
  go_wp2_with (first | (go_at_call 148; replace H := H.box (.int .i64 x) (.int .i64 x2) 3; rw [hWs] at H; refine (iGcd_two (w.heap.size + 1 + 1 + 1) x x2 _ (H.lt (b := w.heap.size + 1 + 1 + 1) (o := 0) (v := .int .i64 x) (by simp)) (H.get (b := w.heap.size + 1 + 1 + 1) (o := 0) (v := .int .i64 x) (by simp)) (H.get (b := w.heap.size + 1 + 1 + 1) (o := 1) (v := .int .i64 x2) (by simp)) hb1 hb2).mono ?_; rintro e w' ⟨rfl, hb⟩; rw [hg]; replace H := (H.call hb).tail2'; have c0 := H.get (b := w.heap.size) (o := 0) (v := .int .i64 x) (by simp); have c1 := H.get (b := w.heap.size) (o := 1) (v := .int .i64 y) (by simp); have c2 := H.get (b := w.heap.size + 1) (o := 0) (v := .int .i64 x2) (by simp); have c3 := H.get (b := w.heap.size + 1) (o := 1) (v := .int .i64 y2) (by simp); have c4 := H.get (b := w.heap.size + 2) (o := 0) (v := .int .i64 0) (by simp); have c5 := H.get (b := w.heap.size + 2) (o := 1) (v := .int .i64 0) (by simp); have z0 := H.fz (b := w.heap.size + 2) (o := 0) (v := .int .i64 0) (by simp); have z1 := H.fz (b := w.heap.size + 2) (o := 1) (v := .int .i64 0) (by simp)) | (go_at_call 162; refine (modulo_any (y - y2) g g0 hg2 _).mono ?_; rintro e w' ⟨rfl, rfl⟩))
  have k0 := fun p : Over _ => H.over (b := w.heap.size) (o := 0) (v := .int .i64 x) (by simp) p
  have k1 := fun p : Over _ => H.over (b := w.heap.size) (o := 1) (v := .int .i64 y) (by simp) p
  have k2 := fun p : Over _ => H.over (b := w.heap.size + 1) (o := 0) (v := .int .i64 x2) (by simp) p
  have k3 := fun p : Over _ => H.over (b := w.heap.size + 1) (o := 1) (v := .int .i64 y2) (by simp) p
  refine wp_region_over (by kernel_rfl) (by kernel_rfl) ?_
  repeat (go_big_quiet_step (first | fail))
  refine wpQuiet_nil ?_
  rintro _ ⟨p, rfl⟩
  replace H := H.call p.below
  clear k0 k1 k2 k3
  generalize p.w = w3 at *
  have c0 := H.get (b := w.heap.size) (o := 0) (v := .int .i64 x) (by simp)
  have c1 := H.get (b := w.heap.size) (o := 1) (v := .int .i64 y) (by simp)
  have c2 := H.get (b := w.heap.size + 1) (o := 0) (v := .int .i64 x2) (by simp)
  have c3 := H.get (b := w.heap.size + 1) (o := 1) (v := .int .i64 y2) (by simp)
  have c4 := H.get (b := w.heap.size + 2) (o := 0) (v := .int .i64 0) (by simp)
  have c5 := H.get (b := w.heap.size + 2) (o := 1) (v := .int .i64 0) (by simp)
  have z0 := H.fz (b := w.heap.size + 2) (o := 0) (v := .int .i64 0) (by simp)
  have z1 := H.fz (b := w.heap.size + 2) (o := 1) (v := .int .i64 0) (by simp)
  go_wp2_with fail
  try rw [hm]
  clear hm
  have hKM := hide hK1
  have hKN := hide hK2
  clear hK1 hK2
  clear hb
  have hM9 := hide hm9
  clear hm9 hmk
  go_loopw [8] (fun a wr => ∃ j : Nat, j ≤ K ∧ a = .int .i64 (y + x * j) ∧ Hd w [(w.heap.size + 2, 0, .int .i64 0), (w.heap.size + 2, 1, .int .i64 0), (w.heap.size + 1, 0, .int .i64 x2), (w.heap.size + 1, 1, .int .i64 y2), (w.heap.size, 0, .int .i64 x), (w.heap.size, 1, .int .i64 y)] wr) (fun a _ => (y + x * K - intOf a).toNat)
  case atStart => exact ⟨0, by omega, by simp, H⟩
  case round =>
    obtain ⟨j, hj, rfl, H⟩ := hrel
    have hxj : 0 ≤ x * (j : Int) ∧ x * (j : Int) ≤ x * (K : Int) := ⟨Int.mul_nonneg (by omega) (by omega), Int.mul_le_mul_of_nonneg_left (by omega) (by omega)⟩
    have c0 := H.get (b := w.heap.size) (o := 0) (v := .int .i64 x) (by simp)
    have c1 := H.get (b := w.heap.size) (o := 1) (v := .int .i64 y) (by simp)
    have c2 := H.get (b := w.heap.size + 1) (o := 0) (v := .int .i64 x2) (by simp)
    have c3 := H.get (b := w.heap.size + 1) (o := 1) (v := .int .i64 y2) (by simp)
    have c4 := H.get (b := w.heap.size + 2) (o := 0) (v := .int .i64 0) (by simp)
    have c5 := H.get (b := w.heap.size + 2) (o := 1) (v := .int .i64 0) (by simp)
    have z0 := H.fz (b := w.heap.size + 2) (o := 0) (v := .int .i64 0) (by simp)
    have z1 := H.fz (b := w.heap.size + 2) (o := 1) (v := .int .i64 0) (by simp)
    have hw : wrap64 (y + x * j + x) = y + x * j + x := w64_id (by omega) (by omega)
    have hm9 := (unhide hM9) (y + x * j)
    by_cases hjk : j = K
    · subst hjk
      have hKM' := unhide hKM
      rw [hKM', decide_eq_true rfl] at hm9
      go_wp2_with (go_at_call 155; refine (hm9 _).mono ?_; rintro e w' ⟨rfl, hb⟩; replace H := H.call hb; clear hb; have c0 := H.get (b := w.heap.size) (o := 0) (v := .int .i64 x) (by simp); have c1 := H.get (b := w.heap.size) (o := 1) (v := .int .i64 y) (by simp); have c2 := H.get (b := w.heap.size + 1) (o := 0) (v := .int .i64 x2) (by simp); have c3 := H.get (b := w.heap.size + 1) (o := 1) (v := .int .i64 y2) (by simp); have c4 := H.get (b := w.heap.size + 2) (o := 0) (v := .int .i64 0) (by simp); have c5 := H.get (b := w.heap.size + 2) (o := 1) (v := .int .i64 0) (by simp); have z0 := H.fz (b := w.heap.size + 2) (o := 0) (v := .int .i64 0) (by simp); have z1 := H.fz (b := w.heap.size + 2) (o := 1) (v := .int .i64 0) (by simp))
      obtain ⟨f0, f1, fb⟩ := H.fill (b := w.heap.size + 2) (x := .int .i64 0) (y := .int .i64 0) (by simp) (by simp) (by omega) (.int .i64 m) (.int .i64 (y + x * j))
      refine bodyPost_ret (results_two_tmp rfl _ _ (w.heap.size + 2) (.int .i64 m) (.int .i64 (y + x * j)) _ rfl f0 f1 Tryd.underlying26 rfl (by kernel_rfl)) rfl ?_
      exact ⟨rfl, fb⟩
    · have hne' := unhide hKN j (by omega)
      rw [decide_eq_false hne'] at hm9
      go_wp2_with (go_at_call 155; refine (hm9 _).mono ?_; rintro e w' ⟨rfl, hb⟩; replace H := H.call hb; clear hb; have c0 := H.get (b := w.heap.size) (o := 0) (v := .int .i64 x) (by simp); have c1 := H.get (b := w.heap.size) (o := 1) (v := .int .i64 y) (by simp); have c2 := H.get (b := w.heap.size + 1) (o := 0) (v := .int .i64 x2) (by simp); have c3 := H.get (b := w.heap.size + 1) (o := 1) (v := .int .i64 y2) (by simp); have c4 := H.get (b := w.heap.size + 2) (o := 0) (v := .int .i64 0) (by simp); have c5 := H.get (b := w.heap.size + 2) (o := 1) (v := .int .i64 0) (by simp); have z0 := H.fz (b := w.heap.size + 2) (o := 0) (v := .int .i64 0) (by simp); have z1 := H.fz (b := w.heap.size + 2) (o := 1) (v := .int .i64 0) (by simp))
      have hxj2 : x * ((j : Int) + 1) ≤ x * (K : Int) := Int.mul_le_mul_of_nonneg_left (by omega) (by omega)
      rw [Int.mul_add] at hxj2
      go_roundw
      case rel => exact ⟨j + 1, by omega, by congr 1; simp [Int.mul_add]; omega, H⟩
      case measure => simp only [intOf]; omega
set_option maxRecDepth 100000 in
set_option maxHeartbeats 4000000 in
theorem meetFine_xy (x y x2 y2 : Int) (hz : x ≠ 0) (hz2 : x2 ≠ 0) (h : qOk (x, y) = true) (h2 : qOk (x2, y2) = true) (w : World) :
    Calls Tryd.prog 151 #[.agg #[.int .i64 x, .int .i64 y], .agg #[.int .i64 x2, .int .i64 y2]] w fun e w' => e = .returned (mv9 (mf9 (x, y) (x2, y2))) ∧ Below w.heap.size w w' := by
  by_cases hd : (y - y2) % gcd9 x x2 = 0
  · by_cases hl : 65536 < lcm9 (x, y) (x2, y2)
    · exact fine_great x y x2 y2 hz hz2 h h2 hd hl w
    · exact fine_small x y x2 y2 hz hz2 h h2 hd hl w
  · exact fine_apart x y x2 y2 hz hz2 h h2 hd w
end Go.Proofs.YthbbgkpkijlclaaDoor.num
namespace Go.Proofs.YthbbgkpkijlclaaDoor.num
open Go.ChangeShapes Go.WideShapes Go.ChangeAt Go.RowKit
set_option linter.unusedVariables false

set_option maxRecDepth 100000 in
set_option maxHeartbeats 4000000 in
theorem iMeet_bad9 (x y x2 y2 : Int) (h0 : qOk (x, y) = false ∨ qOk (x2, y2) = false) (w : World) :
    Calls Tryd.prog 72 #[.agg #[.int .i64 x, .int .i64 y], .agg #[.int .i64 x2, .int .i64 y2]] w fun e w' => e = .returned (mv9 (meet9 (x, y) (x2, y2))) ∧ Below w.heap.size w w' := by
  have e : meet9 (x, y) (x2, y2) = ((0, 0), false) := by unfold meet9; rw [if_pos h0]
  rw [e]
  obtain ⟨W, hW, H⟩ := Hd.three w (.int .i64 x) (.int .i64 y) (.int .i64 x2) (.int .i64 y2) (.int .i64 0) (.int .i64 0) 26 26 26
  cases h : qOk (x, y)
  · skip
    go_enter Tryd.func72, Tryd.ntmps72
    go_wp2_with fail
    rw [← hW]
    clear hW
    have c0 := H.get (b := w.heap.size) (o := 0) (v := .int .i64 x) (by simp)
    have c1 := H.get (b := w.heap.size) (o := 1) (v := .int .i64 y) (by simp)
    have c2 := H.get (b := w.heap.size + 1) (o := 0) (v := .int .i64 x2) (by simp)
    have c3 := H.get (b := w.heap.size + 1) (o := 1) (v := .int .i64 y2) (by simp)
    have c4 := H.get (b := w.heap.size + 2) (o := 0) (v := .int .i64 0) (by simp)
    have c5 := H.get (b := w.heap.size + 2) (o := 1) (v := .int .i64 0) (by simp)
    have z0 := H.fz (b := w.heap.size + 2) (o := 0) (v := .int .i64 0) (by simp)
    have z1 := H.fz (b := w.heap.size + 2) (o := 1) (v := .int .i64 0) (by simp)
    go_wp2_with (go_at_call 77; refine (iRestOk_xy _ _ _).mono ?_; rintro e w' ⟨rfl, hb⟩; (first | rw [h] | rw [h2]); replace H := H.call hb; have c0 := H.get (b := w.heap.size) (o := 0) (v := .int .i64 x) (by simp); have c1 := H.get (b := w.heap.size) (o := 1) (v := .int .i64 y) (by simp); have c2 := H.get (b := w.heap.size + 1) (o := 0) (v := .int .i64 x2) (by simp); have c3 := H.get (b := w.heap.size + 1) (o := 1) (v := .int .i64 y2) (by simp); have c4 := H.get (b := w.heap.size + 2) (o := 0) (v := .int .i64 0) (by simp); have c5 := H.get (b := w.heap.size + 2) (o := 1) (v := .int .i64 0) (by simp); have z0 := H.fz (b := w.heap.size + 2) (o := 0) (v := .int .i64 0) (by simp); have z1 := H.fz (b := w.heap.size + 2) (o := 1) (v := .int .i64 0) (by simp))
    obtain ⟨f0, f1, fb⟩ := H.fill (b := w.heap.size + 2) (x := .int .i64 0) (y := .int .i64 0) (by simp) (by simp) (by omega) (.int .i64 0) (.int .i64 0)
    refine bodyPost_ret (results_two_tmp rfl _ _ (w.heap.size + 2) (.int .i64 0) (.int .i64 0) _ rfl f0 f1 Tryd.underlying26 rfl (by kernel_rfl)) rfl ?_
    exact ⟨rfl, fb⟩
  · have h2 : qOk (x2, y2) = false := by rcases h0 with h0 | h0; · rw [h] at h0; cases h0
                                         · exact h0
    go_enter Tryd.func72, Tryd.ntmps72
    go_wp2_with fail
    rw [← hW]
    clear hW
    have c0 := H.get (b := w.heap.size) (o := 0) (v := .int .i64 x) (by simp)
    have c1 := H.get (b := w.heap.size) (o := 1) (v := .int .i64 y) (by simp)
    have c2 := H.get (b := w.heap.size + 1) (o := 0) (v := .int .i64 x2) (by simp)
    have c3 := H.get (b := w.heap.size + 1) (o := 1) (v := .int .i64 y2) (by simp)
    have c4 := H.get (b := w.heap.size + 2) (o := 0) (v := .int .i64 0) (by simp)
    have c5 := H.get (b := w.heap.size + 2) (o := 1) (v := .int .i64 0) (by simp)
    have z0 := H.fz (b := w.heap.size + 2) (o := 0) (v := .int .i64 0) (by simp)
    have z1 := H.fz (b := w.heap.size + 2) (o := 1) (v := .int .i64 0) (by simp)
    go_wp2_with (go_at_call 77; refine (iRestOk_xy _ _ _).mono ?_; rintro e w' ⟨rfl, hb⟩; (first | rw [h] | rw [h2]); replace H := H.call hb; have c0 := H.get (b := w.heap.size) (o := 0) (v := .int .i64 x) (by simp); have c1 := H.get (b := w.heap.size) (o := 1) (v := .int .i64 y) (by simp); have c2 := H.get (b := w.heap.size + 1) (o := 0) (v := .int .i64 x2) (by simp); have c3 := H.get (b := w.heap.size + 1) (o := 1) (v := .int .i64 y2) (by simp); have c4 := H.get (b := w.heap.size + 2) (o := 0) (v := .int .i64 0) (by simp); have c5 := H.get (b := w.heap.size + 2) (o := 1) (v := .int .i64 0) (by simp); have z0 := H.fz (b := w.heap.size + 2) (o := 0) (v := .int .i64 0) (by simp); have z1 := H.fz (b := w.heap.size + 2) (o := 1) (v := .int .i64 0) (by simp))
    obtain ⟨f0, f1, fb⟩ := H.fill (b := w.heap.size + 2) (x := .int .i64 0) (y := .int .i64 0) (by simp) (by simp) (by omega) (.int .i64 0) (.int .i64 0)
    refine bodyPost_ret (results_two_tmp rfl _ _ (w.heap.size + 2) (.int .i64 0) (.int .i64 0) _ rfl f0 f1 Tryd.underlying26 rfl (by kernel_rfl)) rfl ?_
    exact ⟨rfl, fb⟩
set_option maxRecDepth 100000 in
set_option maxHeartbeats 4000000 in
theorem iMeet_single9 (y x2 y2 : Int) (h : qOk (0, y) = true) (h2 : qOk (x2, y2) = true) (w : World) :
    Calls Tryd.prog 72 #[.agg #[.int .i64 0, .int .i64 y], .agg #[.int .i64 x2, .int .i64 y2]] w fun e w' => e = .returned (mv9 (meet9 (0, y) (x2, y2))) ∧ Below w.heap.size w w' := by
  have e : meet9 (0, y) (x2, y2) = ((if qHas (x2, y2) y = true then 0 else 0, if qHas (x2, y2) y = true then y else 0), qHas (x2, y2) y) := by
    unfold meet9; rw [if_neg (by simp [h, h2]), if_pos rfl]; cases qHas (x2, y2) y <;> rfl
  rw [e]
  obtain ⟨W, hW, H⟩ := Hd.three w (.int .i64 0) (.int .i64 y) (.int .i64 x2) (.int .i64 y2) (.int .i64 0) (.int .i64 0) 26 26 26
  have hh : ∀ w1 : World, Calls Tryd.prog 78 #[.agg #[.int .i64 x2, .int .i64 y2], .int .i64 y] w1 fun e w' => e = .returned (.bool (qHas (x2, y2) y)) ∧ Below w1.heap.size w1 w' := fun w1 => iRestHas_xy x2 y2 y w1
  generalize hk : qHas (x2, y2) y = k at *
  cases k
  · rw [show (((if false = true then (0 : Int) else 0, if false = true then y else 0), false) : T9 × Bool) = ((0, 0), false) by simp]
    go_enter Tryd.func72, Tryd.ntmps72
    go_wp2_with fail
    rw [← hW]
    clear hW
    have c0 := H.get (b := w.heap.size) (o := 0) (v := .int .i64 0) (by simp)
    have c1 := H.get (b := w.heap.size) (o := 1) (v := .int .i64 y) (by simp)
    have c2 := H.get (b := w.heap.size + 1) (o := 0) (v := .int .i64 x2) (by simp)
    have c3 := H.get (b := w.heap.size + 1) (o := 1) (v := .int .i64 y2) (by simp)
    have c4 := H.get (b := w.heap.size + 2) (o := 0) (v := .int .i64 0) (by simp)
    have c5 := H.get (b := w.heap.size + 2) (o := 1) (v := .int .i64 0) (by simp)
    have z0 := H.fz (b := w.heap.size + 2) (o := 0) (v := .int .i64 0) (by simp)
    have z1 := H.fz (b := w.heap.size + 2) (o := 1) (v := .int .i64 0) (by simp)
    go_wp2_with (first | (go_at_call 77; refine (iRestOk_xy _ _ _).mono ?_; rintro e w' ⟨rfl, hb⟩; (first | rw [h] | rw [h2]); replace H := H.call hb; have c0 := H.get (b := w.heap.size) (o := 0) (v := .int .i64 0) (by simp); have c1 := H.get (b := w.heap.size) (o := 1) (v := .int .i64 y) (by simp); have c2 := H.get (b := w.heap.size + 1) (o := 0) (v := .int .i64 x2) (by simp); have c3 := H.get (b := w.heap.size + 1) (o := 1) (v := .int .i64 y2) (by simp); have c4 := H.get (b := w.heap.size + 2) (o := 0) (v := .int .i64 0) (by simp); have c5 := H.get (b := w.heap.size + 2) (o := 1) (v := .int .i64 0) (by simp); have z0 := H.fz (b := w.heap.size + 2) (o := 0) (v := .int .i64 0) (by simp); have z1 := H.fz (b := w.heap.size + 2) (o := 1) (v := .int .i64 0) (by simp)) | (go_at_call 149; refine (single_xy _ _ _).mono ?_; rintro e w' ⟨rfl, hb⟩; simp only [decide_true]; replace H := H.call hb; have c0 := H.get (b := w.heap.size) (o := 0) (v := .int .i64 0) (by simp); have c1 := H.get (b := w.heap.size) (o := 1) (v := .int .i64 y) (by simp); have c2 := H.get (b := w.heap.size + 1) (o := 0) (v := .int .i64 x2) (by simp); have c3 := H.get (b := w.heap.size + 1) (o := 1) (v := .int .i64 y2) (by simp); have c4 := H.get (b := w.heap.size + 2) (o := 0) (v := .int .i64 0) (by simp); have c5 := H.get (b := w.heap.size + 2) (o := 1) (v := .int .i64 0) (by simp); have z0 := H.fz (b := w.heap.size + 2) (o := 0) (v := .int .i64 0) (by simp); have z1 := H.fz (b := w.heap.size + 2) (o := 1) (v := .int .i64 0) (by simp)))
    have k0 := fun p : Over _ => H.over (b := w.heap.size) (o := 0) (v := .int .i64 0) (by simp) p
    have k1 := fun p : Over _ => H.over (b := w.heap.size) (o := 1) (v := .int .i64 y) (by simp) p
    have k2 := fun p : Over _ => H.over (b := w.heap.size + 1) (o := 0) (v := .int .i64 x2) (by simp) p
    have k3 := fun p : Over _ => H.over (b := w.heap.size + 1) (o := 1) (v := .int .i64 y2) (by simp) p
    refine wp_region_tails_over 8 (by decide) (by kernel_rfl) (by kernel_rfl) (by kernel_rfl) ?_
    simp only [List.take, List.drop, List.map, tw, List.cons_append, List.nil_append]
    repeat (go_big_quiet_step (first | (go_at_call 78; rename_i p; refine (hh _).mono ?_; rintro e' w' ⟨rfl, hb1⟩; exact ⟨rfl, p.next hb1⟩) | (go_at_call 150; rename_i p; refine (just_any _ _ _ _).mono ?_; rintro e' w' ⟨rfl, hb1⟩; exact ⟨rfl, p.next hb1⟩)))
    refine wpQuiet_nil ?_
    rintro _ ⟨p, rfl⟩
    replace H := H.call p.below
    clear k0 k1 k2 k3
    generalize p.w = w5 at *
    have c0 := H.get (b := w.heap.size) (o := 0) (v := .int .i64 0) (by simp)
    have c1 := H.get (b := w.heap.size) (o := 1) (v := .int .i64 y) (by simp)
    have c2 := H.get (b := w.heap.size + 1) (o := 0) (v := .int .i64 x2) (by simp)
    have c3 := H.get (b := w.heap.size + 1) (o := 1) (v := .int .i64 y2) (by simp)
    have c4 := H.get (b := w.heap.size + 2) (o := 0) (v := .int .i64 0) (by simp)
    have c5 := H.get (b := w.heap.size + 2) (o := 1) (v := .int .i64 0) (by simp)
    have z0 := H.fz (b := w.heap.size + 2) (o := 0) (v := .int .i64 0) (by simp)
    have z1 := H.fz (b := w.heap.size + 2) (o := 1) (v := .int .i64 0) (by simp)
    go_simp
    go_wp2
    obtain ⟨f0, f1, fb⟩ := H.fill (b := w.heap.size + 2) (x := .int .i64 0) (y := .int .i64 0) (by simp) (by simp) (by omega) (.int .i64 0) (.int .i64 0)
    refine bodyPost_ret (results_two_tmp rfl _ _ (w.heap.size + 2) (.int .i64 0) (.int .i64 0) _ rfl f0 f1 Tryd.underlying26 rfl (by kernel_rfl)) rfl ?_
    exact ⟨rfl, fb⟩
  · rw [show (((if true = true then (0 : Int) else 0, if true = true then y else 0), true) : T9 × Bool) = ((0, y), true) by simp]
    go_enter Tryd.func72, Tryd.ntmps72
    go_wp2_with fail
    rw [← hW]
    clear hW
    have c0 := H.get (b := w.heap.size) (o := 0) (v := .int .i64 0) (by simp)
    have c1 := H.get (b := w.heap.size) (o := 1) (v := .int .i64 y) (by simp)
    have c2 := H.get (b := w.heap.size + 1) (o := 0) (v := .int .i64 x2) (by simp)
    have c3 := H.get (b := w.heap.size + 1) (o := 1) (v := .int .i64 y2) (by simp)
    have c4 := H.get (b := w.heap.size + 2) (o := 0) (v := .int .i64 0) (by simp)
    have c5 := H.get (b := w.heap.size + 2) (o := 1) (v := .int .i64 0) (by simp)
    have z0 := H.fz (b := w.heap.size + 2) (o := 0) (v := .int .i64 0) (by simp)
    have z1 := H.fz (b := w.heap.size + 2) (o := 1) (v := .int .i64 0) (by simp)
    go_wp2_with (first | (go_at_call 77; refine (iRestOk_xy _ _ _).mono ?_; rintro e w' ⟨rfl, hb⟩; (first | rw [h] | rw [h2]); replace H := H.call hb; have c0 := H.get (b := w.heap.size) (o := 0) (v := .int .i64 0) (by simp); have c1 := H.get (b := w.heap.size) (o := 1) (v := .int .i64 y) (by simp); have c2 := H.get (b := w.heap.size + 1) (o := 0) (v := .int .i64 x2) (by simp); have c3 := H.get (b := w.heap.size + 1) (o := 1) (v := .int .i64 y2) (by simp); have c4 := H.get (b := w.heap.size + 2) (o := 0) (v := .int .i64 0) (by simp); have c5 := H.get (b := w.heap.size + 2) (o := 1) (v := .int .i64 0) (by simp); have z0 := H.fz (b := w.heap.size + 2) (o := 0) (v := .int .i64 0) (by simp); have z1 := H.fz (b := w.heap.size + 2) (o := 1) (v := .int .i64 0) (by simp)) | (go_at_call 149; refine (single_xy _ _ _).mono ?_; rintro e w' ⟨rfl, hb⟩; simp only [decide_true]; replace H := H.call hb; have c0 := H.get (b := w.heap.size) (o := 0) (v := .int .i64 0) (by simp); have c1 := H.get (b := w.heap.size) (o := 1) (v := .int .i64 y) (by simp); have c2 := H.get (b := w.heap.size + 1) (o := 0) (v := .int .i64 x2) (by simp); have c3 := H.get (b := w.heap.size + 1) (o := 1) (v := .int .i64 y2) (by simp); have c4 := H.get (b := w.heap.size + 2) (o := 0) (v := .int .i64 0) (by simp); have c5 := H.get (b := w.heap.size + 2) (o := 1) (v := .int .i64 0) (by simp); have z0 := H.fz (b := w.heap.size + 2) (o := 0) (v := .int .i64 0) (by simp); have z1 := H.fz (b := w.heap.size + 2) (o := 1) (v := .int .i64 0) (by simp)))
    have k0 := fun p : Over _ => H.over (b := w.heap.size) (o := 0) (v := .int .i64 0) (by simp) p
    have k1 := fun p : Over _ => H.over (b := w.heap.size) (o := 1) (v := .int .i64 y) (by simp) p
    have k2 := fun p : Over _ => H.over (b := w.heap.size + 1) (o := 0) (v := .int .i64 x2) (by simp) p
    have k3 := fun p : Over _ => H.over (b := w.heap.size + 1) (o := 1) (v := .int .i64 y2) (by simp) p
    refine wp_region_tails_over 8 (by decide) (by kernel_rfl) (by kernel_rfl) (by kernel_rfl) ?_
    simp only [List.take, List.drop, List.map, tw, List.cons_append, List.nil_append]
    repeat (go_big_quiet_step (first | (go_at_call 78; rename_i p; refine (hh _).mono ?_; rintro e' w' ⟨rfl, hb1⟩; exact ⟨rfl, p.next hb1⟩) | (go_at_call 150; rename_i p; refine (just_any _ _ _ _).mono ?_; rintro e' w' ⟨rfl, hb1⟩; exact ⟨rfl, p.next hb1⟩)))
    refine wpQuiet_nil ?_
    rintro _ ⟨p, rfl⟩
    replace H := H.call p.below
    clear k0 k1 k2 k3
    generalize p.w = w5 at *
    have c0 := H.get (b := w.heap.size) (o := 0) (v := .int .i64 0) (by simp)
    have c1 := H.get (b := w.heap.size) (o := 1) (v := .int .i64 y) (by simp)
    have c2 := H.get (b := w.heap.size + 1) (o := 0) (v := .int .i64 x2) (by simp)
    have c3 := H.get (b := w.heap.size + 1) (o := 1) (v := .int .i64 y2) (by simp)
    have c4 := H.get (b := w.heap.size + 2) (o := 0) (v := .int .i64 0) (by simp)
    have c5 := H.get (b := w.heap.size + 2) (o := 1) (v := .int .i64 0) (by simp)
    have z0 := H.fz (b := w.heap.size + 2) (o := 0) (v := .int .i64 0) (by simp)
    have z1 := H.fz (b := w.heap.size + 2) (o := 1) (v := .int .i64 0) (by simp)
    go_simp
    go_wp2
    obtain ⟨f0, f1, fb⟩ := H.fill (b := w.heap.size + 2) (x := .int .i64 0) (y := .int .i64 0) (by simp) (by simp) (by omega) (.int .i64 0) (.int .i64 y)
    refine bodyPost_ret (results_two_tmp rfl _ _ (w.heap.size + 2) (.int .i64 0) (.int .i64 y) _ rfl f0 f1 Tryd.underlying26 rfl (by kernel_rfl)) rfl ?_
    exact ⟨rfl, fb⟩
set_option maxRecDepth 100000 in
set_option maxHeartbeats 4000000 in
theorem iMeet_right9 (x y y2 : Int) (hx : x ≠ 0) (h : qOk (x, y) = true) (h2 : qOk (0, y2) = true) (w : World) :
    Calls Tryd.prog 72 #[.agg #[.int .i64 x, .int .i64 y], .agg #[.int .i64 0, .int .i64 y2]] w fun e w' => e = .returned (mv9 (meet9 (x, y) (0, y2))) ∧ Below w.heap.size w w' := by
  have e : meet9 (x, y) (0, y2) = (if qHas (x, y) y2 = true then ((0, y2), true) else ((0, 0), false)) := by
    simp [meet9, h, h2, hx]
  rw [e]
  have hd : decide (x = 0) = false := by simp [hx]
  obtain ⟨W, hW, H⟩ := Hd.three w (.int .i64 x) (.int .i64 y) (.int .i64 0) (.int .i64 y2) (.int .i64 0) (.int .i64 0) 26 26 26
  have hh : ∀ w1 : World, Calls Tryd.prog 78 #[.agg #[.int .i64 x, .int .i64 y], .int .i64 y2] w1 fun e w' => e = .returned (.bool (qHas (x, y) y2)) ∧ Below w1.heap.size w1 w' := fun w1 => iRestHas_xy x y y2 w1
  generalize hk : qHas (x, y) y2 = k at *
  cases k
  · rw [if_neg (by simp)]
    go_enter Tryd.func72, Tryd.ntmps72
    go_wp2_with fail
    rw [← hW]
    clear hW
    have c0 := H.get (b := w.heap.size) (o := 0) (v := .int .i64 x) (by simp)
    have c1 := H.get (b := w.heap.size) (o := 1) (v := .int .i64 y) (by simp)
    have c2 := H.get (b := w.heap.size + 1) (o := 0) (v := .int .i64 0) (by simp)
    have c3 := H.get (b := w.heap.size + 1) (o := 1) (v := .int .i64 y2) (by simp)
    have c4 := H.get (b := w.heap.size + 2) (o := 0) (v := .int .i64 0) (by simp)
    have c5 := H.get (b := w.heap.size + 2) (o := 1) (v := .int .i64 0) (by simp)
    have z0 := H.fz (b := w.heap.size + 2) (o := 0) (v := .int .i64 0) (by simp)
    have z1 := H.fz (b := w.heap.size + 2) (o := 1) (v := .int .i64 0) (by simp)
    go_wp2_with (first | (go_at_call 77; refine (iRestOk_xy _ _ _).mono ?_; rintro e w' ⟨rfl, hb⟩; (first | rw [h] | rw [h2]); replace H := H.call hb; have c0 := H.get (b := w.heap.size) (o := 0) (v := .int .i64 x) (by simp); have c1 := H.get (b := w.heap.size) (o := 1) (v := .int .i64 y) (by simp); have c2 := H.get (b := w.heap.size + 1) (o := 0) (v := .int .i64 0) (by simp); have c3 := H.get (b := w.heap.size + 1) (o := 1) (v := .int .i64 y2) (by simp); have c4 := H.get (b := w.heap.size + 2) (o := 0) (v := .int .i64 0) (by simp); have c5 := H.get (b := w.heap.size + 2) (o := 1) (v := .int .i64 0) (by simp); have z0 := H.fz (b := w.heap.size + 2) (o := 0) (v := .int .i64 0) (by simp); have z1 := H.fz (b := w.heap.size + 2) (o := 1) (v := .int .i64 0) (by simp)) | (go_at_call 149; refine (single_xy _ _ _).mono ?_; rintro e w' ⟨rfl, hb⟩; (first | rw [hd] | simp only [decide_true]); replace H := H.call hb; have c0 := H.get (b := w.heap.size) (o := 0) (v := .int .i64 x) (by simp); have c1 := H.get (b := w.heap.size) (o := 1) (v := .int .i64 y) (by simp); have c2 := H.get (b := w.heap.size + 1) (o := 0) (v := .int .i64 0) (by simp); have c3 := H.get (b := w.heap.size + 1) (o := 1) (v := .int .i64 y2) (by simp); have c4 := H.get (b := w.heap.size + 2) (o := 0) (v := .int .i64 0) (by simp); have c5 := H.get (b := w.heap.size + 2) (o := 1) (v := .int .i64 0) (by simp); have z0 := H.fz (b := w.heap.size + 2) (o := 0) (v := .int .i64 0) (by simp); have z1 := H.fz (b := w.heap.size + 2) (o := 1) (v := .int .i64 0) (by simp)))
    have k0 := fun p : Over _ => H.over (b := w.heap.size) (o := 0) (v := .int .i64 x) (by simp) p
    have k1 := fun p : Over _ => H.over (b := w.heap.size) (o := 1) (v := .int .i64 y) (by simp) p
    have k2 := fun p : Over _ => H.over (b := w.heap.size + 1) (o := 0) (v := .int .i64 0) (by simp) p
    have k3 := fun p : Over _ => H.over (b := w.heap.size + 1) (o := 1) (v := .int .i64 y2) (by simp) p
    refine wp_region_tails_over 8 (by decide) (by kernel_rfl) (by kernel_rfl) (by kernel_rfl) ?_
    simp only [List.take, List.drop, List.map, tw, List.cons_append, List.nil_append]
    repeat (go_big_quiet_step (first | (go_at_call 78; rename_i p; refine (hh _).mono ?_; rintro e' w' ⟨rfl, hb1⟩; exact ⟨rfl, p.next hb1⟩) | (go_at_call 150; rename_i p; refine (just_any _ _ _ _).mono ?_; rintro e' w' ⟨rfl, hb1⟩; exact ⟨rfl, p.next hb1⟩)))
    refine wpQuiet_nil ?_
    rintro _ ⟨p, rfl⟩
    replace H := H.call p.below
    clear k0 k1 k2 k3
    generalize p.w = w5 at *
    have c0 := H.get (b := w.heap.size) (o := 0) (v := .int .i64 x) (by simp)
    have c1 := H.get (b := w.heap.size) (o := 1) (v := .int .i64 y) (by simp)
    have c2 := H.get (b := w.heap.size + 1) (o := 0) (v := .int .i64 0) (by simp)
    have c3 := H.get (b := w.heap.size + 1) (o := 1) (v := .int .i64 y2) (by simp)
    have c4 := H.get (b := w.heap.size + 2) (o := 0) (v := .int .i64 0) (by simp)
    have c5 := H.get (b := w.heap.size + 2) (o := 1) (v := .int .i64 0) (by simp)
    have z0 := H.fz (b := w.heap.size + 2) (o := 0) (v := .int .i64 0) (by simp)
    have z1 := H.fz (b := w.heap.size + 2) (o := 1) (v := .int .i64 0) (by simp)
    go_simp
    go_wp2
    obtain ⟨f0, f1, fb⟩ := H.fill (b := w.heap.size + 2) (x := .int .i64 0) (y := .int .i64 0) (by simp) (by simp) (by omega) (.int .i64 0) (.int .i64 0)
    refine bodyPost_ret (results_two_tmp rfl _ _ (w.heap.size + 2) (.int .i64 0) (.int .i64 0) _ rfl f0 f1 Tryd.underlying26 rfl (by kernel_rfl)) rfl ?_
    exact ⟨rfl, fb⟩
  · rw [if_pos rfl]
    go_enter Tryd.func72, Tryd.ntmps72
    go_wp2_with fail
    rw [← hW]
    clear hW
    have c0 := H.get (b := w.heap.size) (o := 0) (v := .int .i64 x) (by simp)
    have c1 := H.get (b := w.heap.size) (o := 1) (v := .int .i64 y) (by simp)
    have c2 := H.get (b := w.heap.size + 1) (o := 0) (v := .int .i64 0) (by simp)
    have c3 := H.get (b := w.heap.size + 1) (o := 1) (v := .int .i64 y2) (by simp)
    have c4 := H.get (b := w.heap.size + 2) (o := 0) (v := .int .i64 0) (by simp)
    have c5 := H.get (b := w.heap.size + 2) (o := 1) (v := .int .i64 0) (by simp)
    have z0 := H.fz (b := w.heap.size + 2) (o := 0) (v := .int .i64 0) (by simp)
    have z1 := H.fz (b := w.heap.size + 2) (o := 1) (v := .int .i64 0) (by simp)
    go_wp2_with (first | (go_at_call 77; refine (iRestOk_xy _ _ _).mono ?_; rintro e w' ⟨rfl, hb⟩; (first | rw [h] | rw [h2]); replace H := H.call hb; have c0 := H.get (b := w.heap.size) (o := 0) (v := .int .i64 x) (by simp); have c1 := H.get (b := w.heap.size) (o := 1) (v := .int .i64 y) (by simp); have c2 := H.get (b := w.heap.size + 1) (o := 0) (v := .int .i64 0) (by simp); have c3 := H.get (b := w.heap.size + 1) (o := 1) (v := .int .i64 y2) (by simp); have c4 := H.get (b := w.heap.size + 2) (o := 0) (v := .int .i64 0) (by simp); have c5 := H.get (b := w.heap.size + 2) (o := 1) (v := .int .i64 0) (by simp); have z0 := H.fz (b := w.heap.size + 2) (o := 0) (v := .int .i64 0) (by simp); have z1 := H.fz (b := w.heap.size + 2) (o := 1) (v := .int .i64 0) (by simp)) | (go_at_call 149; refine (single_xy _ _ _).mono ?_; rintro e w' ⟨rfl, hb⟩; (first | rw [hd] | simp only [decide_true]); replace H := H.call hb; have c0 := H.get (b := w.heap.size) (o := 0) (v := .int .i64 x) (by simp); have c1 := H.get (b := w.heap.size) (o := 1) (v := .int .i64 y) (by simp); have c2 := H.get (b := w.heap.size + 1) (o := 0) (v := .int .i64 0) (by simp); have c3 := H.get (b := w.heap.size + 1) (o := 1) (v := .int .i64 y2) (by simp); have c4 := H.get (b := w.heap.size + 2) (o := 0) (v := .int .i64 0) (by simp); have c5 := H.get (b := w.heap.size + 2) (o := 1) (v := .int .i64 0) (by simp); have z0 := H.fz (b := w.heap.size + 2) (o := 0) (v := .int .i64 0) (by simp); have z1 := H.fz (b := w.heap.size + 2) (o := 1) (v := .int .i64 0) (by simp)))
    have k0 := fun p : Over _ => H.over (b := w.heap.size) (o := 0) (v := .int .i64 x) (by simp) p
    have k1 := fun p : Over _ => H.over (b := w.heap.size) (o := 1) (v := .int .i64 y) (by simp) p
    have k2 := fun p : Over _ => H.over (b := w.heap.size + 1) (o := 0) (v := .int .i64 0) (by simp) p
    have k3 := fun p : Over _ => H.over (b := w.heap.size + 1) (o := 1) (v := .int .i64 y2) (by simp) p
    refine wp_region_tails_over 8 (by decide) (by kernel_rfl) (by kernel_rfl) (by kernel_rfl) ?_
    simp only [List.take, List.drop, List.map, tw, List.cons_append, List.nil_append]
    repeat (go_big_quiet_step (first | (go_at_call 78; rename_i p; refine (hh _).mono ?_; rintro e' w' ⟨rfl, hb1⟩; exact ⟨rfl, p.next hb1⟩) | (go_at_call 150; rename_i p; refine (just_any _ _ _ _).mono ?_; rintro e' w' ⟨rfl, hb1⟩; exact ⟨rfl, p.next hb1⟩)))
    refine wpQuiet_nil ?_
    rintro _ ⟨p, rfl⟩
    replace H := H.call p.below
    clear k0 k1 k2 k3
    generalize p.w = w5 at *
    have c0 := H.get (b := w.heap.size) (o := 0) (v := .int .i64 x) (by simp)
    have c1 := H.get (b := w.heap.size) (o := 1) (v := .int .i64 y) (by simp)
    have c2 := H.get (b := w.heap.size + 1) (o := 0) (v := .int .i64 0) (by simp)
    have c3 := H.get (b := w.heap.size + 1) (o := 1) (v := .int .i64 y2) (by simp)
    have c4 := H.get (b := w.heap.size + 2) (o := 0) (v := .int .i64 0) (by simp)
    have c5 := H.get (b := w.heap.size + 2) (o := 1) (v := .int .i64 0) (by simp)
    have z0 := H.fz (b := w.heap.size + 2) (o := 0) (v := .int .i64 0) (by simp)
    have z1 := H.fz (b := w.heap.size + 2) (o := 1) (v := .int .i64 0) (by simp)
    go_simp
    go_wp2
    obtain ⟨f0, f1, fb⟩ := H.fill (b := w.heap.size + 2) (x := .int .i64 0) (y := .int .i64 0) (by simp) (by simp) (by omega) (.int .i64 0) (.int .i64 y2)
    refine bodyPost_ret (results_two_tmp rfl _ _ (w.heap.size + 2) (.int .i64 0) (.int .i64 y2) _ rfl f0 f1 Tryd.underlying26 rfl (by kernel_rfl)) rfl ?_
    exact ⟨rfl, fb⟩
set_option maxRecDepth 100000 in
set_option maxHeartbeats 4000000 in
theorem iMeet_both9 (x y x2 y2 : Int) (hx : x ≠ 0) (hx2 : x2 ≠ 0) (h : qOk (x, y) = true) (h2 : qOk (x2, y2) = true) (w : World) :
    Calls Tryd.prog 72 #[.agg #[.int .i64 x, .int .i64 y], .agg #[.int .i64 x2, .int .i64 y2]] w fun e w' => e = .returned (mv9 (meet9 (x, y) (x2, y2))) ∧ Below w.heap.size w w' := by
  have hd : decide (x = 0) = false := by simp [hx]
  have hd2 : decide (x2 = 0) = false := by simp [hx2]
  obtain ⟨W, hW, H⟩ := Hd.three w (.int .i64 x) (.int .i64 y) (.int .i64 x2) (.int .i64 y2) (.int .i64 0) (.int .i64 0) 26 26 26
  by_cases hlt : x < x2
  · rw [meet9_turn h h2 hx hx2 hlt]
    have hm : ∀ w1 : World, Calls Tryd.prog 151 #[.agg #[.int .i64 x2, .int .i64 y2], .agg #[.int .i64 x, .int .i64 y]] w1 fun e w' => e = .returned (.tuple #[.agg #[.int .i64 (mf9 (x2, y2) (x, y)).1.1, .int .i64 (mf9 (x2, y2) (x, y)).1.2], .bool (mf9 (x2, y2) (x, y)).2]) ∧ Below w1.heap.size w1 w' := fun w1 => meetFine_xy x2 y2 x y hx2 hx h2 h w1
    generalize mf9 (x2, y2) (x, y) = q at *
    go_enter Tryd.func72, Tryd.ntmps72
    go_wp2_with fail
    rw [← hW]
    clear hW
    have c0 := H.get (b := w.heap.size) (o := 0) (v := .int .i64 x) (by simp)
    have c1 := H.get (b := w.heap.size) (o := 1) (v := .int .i64 y) (by simp)
    have c2 := H.get (b := w.heap.size + 1) (o := 0) (v := .int .i64 x2) (by simp)
    have c3 := H.get (b := w.heap.size + 1) (o := 1) (v := .int .i64 y2) (by simp)
    have c4 := H.get (b := w.heap.size + 2) (o := 0) (v := .int .i64 0) (by simp)
    have c5 := H.get (b := w.heap.size + 2) (o := 1) (v := .int .i64 0) (by simp)
    have z0 := H.fz (b := w.heap.size + 2) (o := 0) (v := .int .i64 0) (by simp)
    have z1 := H.fz (b := w.heap.size + 2) (o := 1) (v := .int .i64 0) (by simp)
    go_wp2_with (first | (go_at_call 77; refine (iRestOk_xy _ _ _).mono ?_; rintro e w' ⟨rfl, hb⟩; (first | rw [h] | rw [h2]); replace H := H.call hb; have c0 := H.get (b := w.heap.size) (o := 0) (v := .int .i64 x) (by simp); have c1 := H.get (b := w.heap.size) (o := 1) (v := .int .i64 y) (by simp); have c2 := H.get (b := w.heap.size + 1) (o := 0) (v := .int .i64 x2) (by simp); have c3 := H.get (b := w.heap.size + 1) (o := 1) (v := .int .i64 y2) (by simp); have c4 := H.get (b := w.heap.size + 2) (o := 0) (v := .int .i64 0) (by simp); have c5 := H.get (b := w.heap.size + 2) (o := 1) (v := .int .i64 0) (by simp); have z0 := H.fz (b := w.heap.size + 2) (o := 0) (v := .int .i64 0) (by simp); have z1 := H.fz (b := w.heap.size + 2) (o := 1) (v := .int .i64 0) (by simp)) | (go_at_call 149; refine (single_xy _ _ _).mono ?_; rintro e w' ⟨rfl, hb⟩; (first | rw [hd] | rw [hd2]); replace H := H.call hb; have c0 := H.get (b := w.heap.size) (o := 0) (v := .int .i64 x) (by simp); have c1 := H.get (b := w.heap.size) (o := 1) (v := .int .i64 y) (by simp); have c2 := H.get (b := w.heap.size + 1) (o := 0) (v := .int .i64 x2) (by simp); have c3 := H.get (b := w.heap.size + 1) (o := 1) (v := .int .i64 y2) (by simp); have c4 := H.get (b := w.heap.size + 2) (o := 0) (v := .int .i64 0) (by simp); have c5 := H.get (b := w.heap.size + 2) (o := 1) (v := .int .i64 0) (by simp); have z0 := H.fz (b := w.heap.size + 2) (o := 0) (v := .int .i64 0) (by simp); have z1 := H.fz (b := w.heap.size + 2) (o := 1) (v := .int .i64 0) (by simp)) | (go_at_call 151; refine (hm _).mono ?_; rintro e w' ⟨rfl, hb⟩; replace H := H.call hb; have c0 := H.get (b := w.heap.size) (o := 0) (v := .int .i64 x) (by simp); have c1 := H.get (b := w.heap.size) (o := 1) (v := .int .i64 y) (by simp); have c2 := H.get (b := w.heap.size + 1) (o := 0) (v := .int .i64 x2) (by simp); have c3 := H.get (b := w.heap.size + 1) (o := 1) (v := .int .i64 y2) (by simp); have c4 := H.get (b := w.heap.size + 2) (o := 0) (v := .int .i64 0) (by simp); have c5 := H.get (b := w.heap.size + 2) (o := 1) (v := .int .i64 0) (by simp); have z0 := H.fz (b := w.heap.size + 2) (o := 0) (v := .int .i64 0) (by simp); have z1 := H.fz (b := w.heap.size + 2) (o := 1) (v := .int .i64 0) (by simp)))
    obtain ⟨f0, f1, fb⟩ := H.fill (b := w.heap.size + 2) (x := .int .i64 0) (y := .int .i64 0) (by simp) (by simp) (by omega) (.int .i64 q.1.1) (.int .i64 q.1.2)
    refine bodyPost_ret (results_two_tmp rfl _ _ (w.heap.size + 2) (.int .i64 q.1.1) (.int .i64 q.1.2) _ rfl f0 f1 Tryd.underlying26 rfl (by kernel_rfl)) rfl ?_
    exact ⟨rfl, fb⟩
  · rw [meet9_fine h h2 hx hx2 hlt]
    have hm : ∀ w1 : World, Calls Tryd.prog 151 #[.agg #[.int .i64 x, .int .i64 y], .agg #[.int .i64 x2, .int .i64 y2]] w1 fun e w' => e = .returned (.tuple #[.agg #[.int .i64 (mf9 (x, y) (x2, y2)).1.1, .int .i64 (mf9 (x, y) (x2, y2)).1.2], .bool (mf9 (x, y) (x2, y2)).2]) ∧ Below w1.heap.size w1 w' := fun w1 => meetFine_xy x y x2 y2 hx hx2 h h2 w1
    generalize mf9 (x, y) (x2, y2) = q at *
    go_enter Tryd.func72, Tryd.ntmps72
    go_wp2_with fail
    rw [← hW]
    clear hW
    have c0 := H.get (b := w.heap.size) (o := 0) (v := .int .i64 x) (by simp)
    have c1 := H.get (b := w.heap.size) (o := 1) (v := .int .i64 y) (by simp)
    have c2 := H.get (b := w.heap.size + 1) (o := 0) (v := .int .i64 x2) (by simp)
    have c3 := H.get (b := w.heap.size + 1) (o := 1) (v := .int .i64 y2) (by simp)
    have c4 := H.get (b := w.heap.size + 2) (o := 0) (v := .int .i64 0) (by simp)
    have c5 := H.get (b := w.heap.size + 2) (o := 1) (v := .int .i64 0) (by simp)
    have z0 := H.fz (b := w.heap.size + 2) (o := 0) (v := .int .i64 0) (by simp)
    have z1 := H.fz (b := w.heap.size + 2) (o := 1) (v := .int .i64 0) (by simp)
    go_wp2_with (first | (go_at_call 77; refine (iRestOk_xy _ _ _).mono ?_; rintro e w' ⟨rfl, hb⟩; (first | rw [h] | rw [h2]); replace H := H.call hb; have c0 := H.get (b := w.heap.size) (o := 0) (v := .int .i64 x) (by simp); have c1 := H.get (b := w.heap.size) (o := 1) (v := .int .i64 y) (by simp); have c2 := H.get (b := w.heap.size + 1) (o := 0) (v := .int .i64 x2) (by simp); have c3 := H.get (b := w.heap.size + 1) (o := 1) (v := .int .i64 y2) (by simp); have c4 := H.get (b := w.heap.size + 2) (o := 0) (v := .int .i64 0) (by simp); have c5 := H.get (b := w.heap.size + 2) (o := 1) (v := .int .i64 0) (by simp); have z0 := H.fz (b := w.heap.size + 2) (o := 0) (v := .int .i64 0) (by simp); have z1 := H.fz (b := w.heap.size + 2) (o := 1) (v := .int .i64 0) (by simp)) | (go_at_call 149; refine (single_xy _ _ _).mono ?_; rintro e w' ⟨rfl, hb⟩; (first | rw [hd] | rw [hd2]); replace H := H.call hb; have c0 := H.get (b := w.heap.size) (o := 0) (v := .int .i64 x) (by simp); have c1 := H.get (b := w.heap.size) (o := 1) (v := .int .i64 y) (by simp); have c2 := H.get (b := w.heap.size + 1) (o := 0) (v := .int .i64 x2) (by simp); have c3 := H.get (b := w.heap.size + 1) (o := 1) (v := .int .i64 y2) (by simp); have c4 := H.get (b := w.heap.size + 2) (o := 0) (v := .int .i64 0) (by simp); have c5 := H.get (b := w.heap.size + 2) (o := 1) (v := .int .i64 0) (by simp); have z0 := H.fz (b := w.heap.size + 2) (o := 0) (v := .int .i64 0) (by simp); have z1 := H.fz (b := w.heap.size + 2) (o := 1) (v := .int .i64 0) (by simp)) | (go_at_call 151; refine (hm _).mono ?_; rintro e w' ⟨rfl, hb⟩; replace H := H.call hb; have c0 := H.get (b := w.heap.size) (o := 0) (v := .int .i64 x) (by simp); have c1 := H.get (b := w.heap.size) (o := 1) (v := .int .i64 y) (by simp); have c2 := H.get (b := w.heap.size + 1) (o := 0) (v := .int .i64 x2) (by simp); have c3 := H.get (b := w.heap.size + 1) (o := 1) (v := .int .i64 y2) (by simp); have c4 := H.get (b := w.heap.size + 2) (o := 0) (v := .int .i64 0) (by simp); have c5 := H.get (b := w.heap.size + 2) (o := 1) (v := .int .i64 0) (by simp); have z0 := H.fz (b := w.heap.size + 2) (o := 0) (v := .int .i64 0) (by simp); have z1 := H.fz (b := w.heap.size + 2) (o := 1) (v := .int .i64 0) (by simp)))
    obtain ⟨f0, f1, fb⟩ := H.fill (b := w.heap.size + 2) (x := .int .i64 0) (y := .int .i64 0) (by simp) (by simp) (by omega) (.int .i64 q.1.1) (.int .i64 q.1.2)
    refine bodyPost_ret (results_two_tmp rfl _ _ (w.heap.size + 2) (.int .i64 q.1.1) (.int .i64 q.1.2) _ rfl f0 f1 Tryd.underlying26 rfl (by kernel_rfl)) rfl ?_
    exact ⟨rfl, fb⟩
theorem iMeet_xy9 (x y x2 y2 : Int) (w : World) :
    Calls Tryd.prog 72 #[.agg #[.int .i64 x, .int .i64 y], .agg #[.int .i64 x2, .int .i64 y2]] w fun e w' => e = .returned (mv9 (meet9 (x, y) (x2, y2))) ∧ Below w.heap.size w w' := by
  cases h : qOk (x, y)
  · exact iMeet_bad9 x y x2 y2 (.inl h) w
  · cases h2 : qOk (x2, y2)
    · exact iMeet_bad9 x y x2 y2 (.inr h2) w
    · by_cases hz : x = 0
      · subst hz
        exact iMeet_single9 y x2 y2 h h2 w
      · by_cases hz2 : x2 = 0
        · subst hz2
          exact iMeet_right9 x y y2 hz h h2 w
        · exact iMeet_both9 x y x2 y2 hz hz2 h h2 w
end Go.Proofs.YthbbgkpkijlclaaDoor.num
