/-
  For every arguments the law FnExactValOk returns true and writes nothing that was there; its package variables as the program's text lays them.
-/
import Derived.Test.YthbbgkpkijlclaaDoorLB
import Derived.Test.YthbbgkpkijlclaaDoorMA
import Derived.SevenTiedAt
import Derived.Stop.LaidErr
import Derived.ShutString
import Derived.ChangeOld
import Derived.Below
namespace Go.Proofs.YthbbgkpkijlclaaDoor.fnExactValOk
open Go.ChangeShapes Go.WideShapes Go.ChangeAt Go.RowKit Go.Proofs.YthbbgkpkijlclaaDoor.num
set_option linter.unusedVariables false

/-- The variables that the row lists. -/
abbrev laid : List (String × DataW Unit) := Rows.fnExactValOkRow.laid
/-- The door's own heap meets the condition. -/
theorem door_met (os : Os) (args : Array Value) : laidMetH Tryd.prog laid ((World.doorLaid Tryd.prog 400 os).forCall (fun _ _ => 0) ⟨#[], args, []⟩).memory :=
  laidMetH_of_parts3 (fuel := 8) (laidMet_of_run' 8 (by kernel_rfl) (by kernel_rfl)) (by kernel_rfl) (by kernel_rfl)
theorem laid_of {W : World} (h : laidMetH Tryd.prog laid W) : Gn W ∧ Gv W 1 (1, 0) := by
  rw [MakeChecks.laidMetH_plain _ _ _ (by kernel_rfl)] at h
  exact ⟨gn_of_head (by kernel_rfl) (by kernel_rfl) h, gv_of_head (by kernel_rfl) (by kernel_rfl) (laidMet.tail h)⟩
set_option maxRecDepth 100000 in
set_option maxHeartbeats 4000000 in
theorem walk (x y m t : Int) (w : World) (hN : Gn w) (hR : Gv w 1 (1, 0)) :
    Calls Tryd.prog 7 #[.agg #[.int .i64 x, .int .i64 y, .int .i64 m, .int .i64 t]] w fun e w' => e = .returned (.bool true) ∧ Below w.heap.size w w' := by
  obtain ⟨W, hW, H⟩ : ∃ W, W = w.alloc (.cells #[.int .i64 x, .int .i64 y, .int .i64 m, .int .i64 t] 56) ∧ Hd w [(w.heap.size, 0, .int .i64 x), (w.heap.size, 1, .int .i64 y), (w.heap.size, 2, .int .i64 m), (w.heap.size, 3, .int .i64 t)] W := ⟨_, rfl, by
    have h := ((Hd.start w).box4 (.int .i64 x) (.int .i64 y) (.int .i64 m) (.int .i64 t) 56)
    exact h⟩
  have c0 := H.get (b := w.heap.size) (o := 0) (v := .int .i64 x) (by simp)
  go_enter Tryd.func7, Tryd.ntmps7
  go_wp2_with (first | (go_at_call 48; (first | rw [← hW] | skip); refine (toVal_xy _ _ _ _ _).mono ?_; rintro e w' ⟨rfl, hb⟩; replace H := H.call hb; clear hb; have c0 := H.get (b := w.heap.size) (o := 0) (v := .int .i64 x) (by simp); have c1 := H.get (b := w.heap.size) (o := 1) (v := .int .i64 y) (by simp); have c2 := H.get (b := w.heap.size) (o := 2) (v := .int .i64 m) (by simp); have c3 := H.get (b := w.heap.size) (o := 3) (v := .int .i64 t) (by simp)) | (go_at_call 37; refine (sVOk_xy _ _ _ _ _).mono ?_; rintro e w' ⟨rfl, hb⟩; replace H := H.call hb; clear hb; have c0 := H.get (b := w.heap.size) (o := 0) (v := .int .i64 x) (by simp); have c1 := H.get (b := w.heap.size) (o := 1) (v := .int .i64 y) (by simp); have c2 := H.get (b := w.heap.size) (o := 2) (v := .int .i64 m) (by simp); have c3 := H.get (b := w.heap.size) (o := 3) (v := .int .i64 t) (by simp)) | (go_at_call 24; refine (iVOk_xy _ _ _ _ _ (hN.below H.below) (hR.below H.below)).mono ?_; rintro e w' ⟨rfl, hb⟩; replace H := H.call hb; clear hb; have c0 := H.get (b := w.heap.size) (o := 0) (v := .int .i64 x) (by simp); have c1 := H.get (b := w.heap.size) (o := 1) (v := .int .i64 y) (by simp); have c2 := H.get (b := w.heap.size) (o := 2) (v := .int .i64 m) (by simp); have c3 := H.get (b := w.heap.size) (o := 3) (v := .int .i64 t) (by simp)))
  go_ret
  exact ⟨rfl, H.below⟩
end Go.Proofs.YthbbgkpkijlclaaDoor.fnExactValOk
