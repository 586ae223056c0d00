/-
  For every arguments the law FnExactValIn returns true and writes nothing that was there; its package variables as the program's text lays them.
-/
import Derived.Test.YthbbgkpkijlclaaDoorLB
import Derived.Test.YthbbgkpkijlclaaDoorMA
import Derived.SevenTiedAt
import Derived.Stop.LaidErr
import Derived.ShutString
import Derived.ChangeOld
import Derived.Below
namespace Go.Proofs.YthbbgkpkijlclaaDoor.fnExactValIn
open Go.ChangeShapes Go.WideShapes Go.ChangeAt Go.RowKit Go.Proofs.YthbbgkpkijlclaaDoor.num
set_option linter.unusedVariables false

/-- The variables that the row lists. -/
abbrev laid : List (String × DataW Unit) := Rows.fnExactValInRow.laid
/-- The door's own heap meets the condition. -/
theorem door_met (os : Os) (args : Array Value) : laidMetH Tryd.prog laid ((World.doorLaid Tryd.prog 400 os).forCall (fun _ _ => 0) ⟨#[], args, []⟩).memory :=
  laidMetH_of_parts3 (fuel := 8) (laidMet_of_run' 8 (by kernel_rfl) (by kernel_rfl)) (by kernel_rfl) (by kernel_rfl)
theorem laid_of {W : World} (h : laidMetH Tryd.prog laid W) : Gn W ∧ Gv W 1 (1, 0) := by
  rw [MakeChecks.laidMetH_plain _ _ _ (by kernel_rfl)] at h
  exact ⟨gn_of_head (by kernel_rfl) (by kernel_rfl) h, gv_of_head (by kernel_rfl) (by kernel_rfl) (laidMet.tail h)⟩
set_option maxRecDepth 100000 in
set_option maxHeartbeats 4000000 in
theorem walk (x y m t x2 y2 m2 t2 : Int) (w : World) (hN : Gn w) (hR : Gv w 1 (1, 0)) :
    Calls Tryd.prog 9 #[.agg #[.int .i64 x, .int .i64 y, .int .i64 m, .int .i64 t], .agg #[.int .i64 x2, .int .i64 y2, .int .i64 m2, .int .i64 t2]] w fun e w' => e = .returned (.bool true) ∧ Below w.heap.size w w' := by
  obtain ⟨W, hW, H⟩ : ∃ W, W = (w.alloc (.cells #[.int .i64 x, .int .i64 y, .int .i64 m, .int .i64 t] 56)).alloc (.cells #[.int .i64 x2, .int .i64 y2, .int .i64 m2, .int .i64 t2] 56) ∧ Hd w [(w.heap.size + 1, 0, .int .i64 x2), (w.heap.size + 1, 1, .int .i64 y2), (w.heap.size + 1, 2, .int .i64 m2), (w.heap.size + 1, 3, .int .i64 t2), (w.heap.size, 0, .int .i64 x), (w.heap.size, 1, .int .i64 y), (w.heap.size, 2, .int .i64 m), (w.heap.size, 3, .int .i64 t)] W := ⟨_, rfl, by
    have h := (((Hd.start w).box4 (.int .i64 x) (.int .i64 y) (.int .i64 m) (.int .i64 t) 56).box4 (.int .i64 x2) (.int .i64 y2) (.int .i64 m2) (.int .i64 t2) 56)
    simp only [size_alloc1] at h
    exact h⟩
  go_enter Tryd.func9, Tryd.ntmps9
  go_wp2_with fail
  rw [← hW]
  clear hW
  have hN1 := hN.below H.below
  have hR1 := hR.below H.below
  have k0 := fun p : Over _ => H.over (b := w.heap.size) (o := 0) (v := .int .i64 x) (by simp) p
  have k1 := fun p : Over _ => H.over (b := w.heap.size) (o := 1) (v := .int .i64 y) (by simp) p
  have k2 := fun p : Over _ => H.over (b := w.heap.size) (o := 2) (v := .int .i64 m) (by simp) p
  have k3 := fun p : Over _ => H.over (b := w.heap.size) (o := 3) (v := .int .i64 t) (by simp) p
  have k4 := fun p : Over _ => H.over (b := w.heap.size + 1) (o := 0) (v := .int .i64 x2) (by simp) p
  have k5 := fun p : Over _ => H.over (b := w.heap.size + 1) (o := 1) (v := .int .i64 y2) (by simp) p
  have k6 := fun p : Over _ => H.over (b := w.heap.size + 1) (o := 2) (v := .int .i64 m2) (by simp) p
  have k7 := fun p : Over _ => H.over (b := w.heap.size + 1) (o := 3) (v := .int .i64 t2) (by simp) p
  refine wp_region_over (by kernel_rfl) (by kernel_rfl) ?_
  repeat (go_big_quiet_step (first | (go_at_call 48; rename_i p; refine (toVal_xy _ _ _ _ _).mono ?_; rintro e' w' ⟨rfl, hb1⟩; exact ⟨rfl, p.next hb1⟩) | (go_at_call 49; rename_i p; refine (sVIn_xy _ _ _ _ _ _ _ _ _).mono ?_; rintro e' w' ⟨rfl, hb1⟩; exact ⟨rfl, p.next hb1⟩)))
  refine wpQuiet_nil ?_
  rintro _ ⟨p, rfl⟩
  replace H := H.call p.below
  clear hN1 hR1 k0 k1 k2 k3 k4 k5 k6 k7
  generalize p.w = w3 at *
  clear p
  go_wp2_with fail
  have hN1 := hN.below H.below
  have hR1 := hR.below H.below
  have k0 := fun p : Over _ => H.over (b := w.heap.size) (o := 0) (v := .int .i64 x) (by simp) p
  have k1 := fun p : Over _ => H.over (b := w.heap.size) (o := 1) (v := .int .i64 y) (by simp) p
  have k2 := fun p : Over _ => H.over (b := w.heap.size) (o := 2) (v := .int .i64 m) (by simp) p
  have k3 := fun p : Over _ => H.over (b := w.heap.size) (o := 3) (v := .int .i64 t) (by simp) p
  have k4 := fun p : Over _ => H.over (b := w.heap.size + 1) (o := 0) (v := .int .i64 x2) (by simp) p
  have k5 := fun p : Over _ => H.over (b := w.heap.size + 1) (o := 1) (v := .int .i64 y2) (by simp) p
  have k6 := fun p : Over _ => H.over (b := w.heap.size + 1) (o := 2) (v := .int .i64 m2) (by simp) p
  have k7 := fun p : Over _ => H.over (b := w.heap.size + 1) (o := 3) (v := .int .i64 t2) (by simp) p
  refine wp_region_over (by kernel_rfl) (by kernel_rfl) ?_
  repeat (go_big_quiet_step (first | (go_at_call 48; rename_i p; refine (toVal_xy _ _ _ _ _).mono ?_; rintro e' w' ⟨rfl, hb1⟩; exact ⟨rfl, p.next hb1⟩) | (go_at_call 38; rename_i p; refine (iVIn_xy _ _ _ _ _ _ _ _ _ (hN1.over p) (hR1.over p)).mono ?_; rintro e' w' ⟨rfl, hb1⟩; exact ⟨rfl, p.next hb1⟩)))
  refine wpQuiet_nil ?_
  rintro _ ⟨p, rfl⟩
  replace H := H.call p.below
  clear hN1 hR1 k0 k1 k2 k3 k4 k5 k6 k7
  generalize p.w = w4 at *
  clear p
  go_wp2
  go_ret
  exact ⟨rfl, H.below⟩
end Go.Proofs.YthbbgkpkijlclaaDoor.fnExactValIn
