/-
  The laws' ofRest: some number, old memory kept.
-/
import Derived.Test.YthbbgkpkijlclaaDoorWa
import Derived.Test.YthbbgkpkijlclaaDoorUa
import Derived.Test.YthbbgkpkijlclaaDoorOp
namespace Go.Proofs.YthbbgkpkijlclaaDoor.num
open Go.ChangeShapes Go.WideShapes Go.ChangeAt Go.RowKit
set_option linter.unusedVariables false
set_option maxRecDepth 100000 in
set_option maxHeartbeats 4000000 in
theorem ofRest_any (x y : Int) (w : World) (a : Option Addr) (len cap : Nat) (i : Int) (hc : Code8 w a len) (hl : len ≤ 1048576) (hi : 0 ≤ i) (hi2 : i ≤ 800000) :
    Calls Tryd.prog 27 #[.agg #[.int .i64 x, .int .i64 y], .slice a len cap, .int .i64 i] w fun e w' => (∃ v : Int, e = .returned (.int .i64 v)) ∧ Below w.heap.size w w' := by
  obtain ⟨W, hW, H⟩ := Hd.one w (.int .i64 x) (.int .i64 y) 26
  have hC := hide (hc.below H.below)
  clear hc
  cases h : qOk (x, y)
  · go_enter Tryd.func27, Tryd.ntmps27
    go_wp2_with fail
    rw [← hW]
    clear hW
    have a0 := H.get (b := w.heap.size) (o := 0) (v := .int .i64 x) (by simp)
    have a1 := H.get (b := w.heap.size) (o := 1) (v := .int .i64 y) (by simp)
    go_wp2_with (go_at_call 75; refine (sRestOk_xy _ _ _).mono ?_; rintro e w' ⟨rfl, hb⟩; rw [h]; replace H := H.call hb; have a0 := H.get (b := w.heap.size) (o := 0) (v := .int .i64 x) (by simp); have a1 := H.get (b := w.heap.size) (o := 1) (v := .int .i64 y) (by simp))
    go_ret
    exact ⟨⟨_, rfl⟩, H.below⟩
  · have hx := (qOk_iff _).1 h
    simp only at hx
    by_cases hz : x = 0
    · subst hz
      go_enter Tryd.func27, Tryd.ntmps27
      go_wp2_with fail
      rw [← hW]
      clear hW
      have a0 := H.get (b := w.heap.size) (o := 0) (v := .int .i64 0) (by simp)
      have a1 := H.get (b := w.heap.size) (o := 1) (v := .int .i64 y) (by simp)
      go_wp2_with (go_at_call 75; refine (sRestOk_xy _ _ _).mono ?_; rintro e w' ⟨rfl, hb⟩; rw [h]; replace H := H.call hb; have a0 := H.get (b := w.heap.size) (o := 0) (v := .int .i64 0) (by simp); have a1 := H.get (b := w.heap.size) (o := 1) (v := .int .i64 y) (by simp))
      go_ret
      exact ⟨⟨_, rfl⟩, H.below⟩
    · have hz' : (x == 0) = false := by simp [hz]
      have hi3 : wrap64 (i + 3) = i + 3 := w64_id (by omega) (by omega)
      go_enter Tryd.func27, Tryd.ntmps27
      go_wp2_with fail
      rw [← hW]
      clear hW
      have a0 := H.get (b := w.heap.size) (o := 0) (v := .int .i64 x) (by simp)
      have a1 := H.get (b := w.heap.size) (o := 1) (v := .int .i64 y) (by simp)
      go_wp2_with (go_at_call 75; refine (sRestOk_xy _ _ _).mono ?_; rintro e w' ⟨rfl, hb⟩; rw [h]; replace H := H.call hb; have hC := hide ((unhide hC).below hb); have a0 := H.get (b := w.heap.size) (o := 0) (v := .int .i64 x) (by simp); have a1 := H.get (b := w.heap.size) (o := 1) (v := .int .i64 y) (by simp))
      go_cut [7] from 7 (fun t7 wx => ∃ v : Int, t7 = .int .i64 v ∧ Hd w [(w.heap.size, 0, .int .i64 x), (w.heap.size, 1, .int .i64 y)] wx ∧ Hid (Code8 wx a len))
      case first =>
        go_region_held3 (fun w' => w'.cell? ⟨w.heap.size, 0, none⟩ = some (.int .i64 x) ∧ w'.cell? ⟨w.heap.size, 1, none⟩ = some (.int .i64 y)) (first | exact ⟨a0, a1⟩ | (simp [go_sem, *]; done)) (first | (go_at_call 94; refine (at_any _ _ _ _ _ (by first | exact unhide hC | exact (unhide hC).below (below_drewN (Below.refl _ _) 1)) hl (by omega) (by omega)).mono ?_; rintro e w' ⟨z, rfl, z0, z1, hb⟩; (first | (replace H := H.call hb) | (replace H := (H.drewN 1).call hb)); (first | (replace hC := hide ((unhide hC).below hb)) | (replace hC := hide (((unhide hC).below (below_drewN (Below.refl _ _) 1)).below hb))); clear hb; have a0 := H.get (b := w.heap.size) (o := 0) (v := .int .i64 x) (by simp); have a1 := H.get (b := w.heap.size) (o := 1) (v := .int .i64 y) (by simp)))
        all_goals
          go_wp2_with fail
          go_meet
          exact ⟨_, rfl, by first | exact H | exact H.drewN 1, by first | exact hC | exact hide ((unhide hC).below (below_drewN (Below.refl _ _) 1))⟩
      case rest =>
        clear H hC a0 a1
        obtain ⟨v, rfl, H, hC⟩ := hcut
        have a0 := H.get (b := w.heap.size) (o := 0) (v := .int .i64 x) (by simp); have a1 := H.get (b := w.heap.size) (o := 1) (v := .int .i64 y) (by simp)
        go_wp2_with (first | (go_at_call 94; refine (at_any _ _ _ _ _ (by first | exact unhide hC | exact (unhide hC).below (below_drewN (Below.refl _ _) 1)) hl (by omega) (by omega)).mono ?_; rintro e w' ⟨z, rfl, z0, z1, hb⟩; (first | (replace H := H.call hb) | (replace H := (H.drewN 1).call hb)); (first | (replace hC := hide ((unhide hC).below hb)) | (replace hC := hide (((unhide hC).below (below_drewN (Below.refl _ _) 1)).below hb))); clear hb; have a0 := H.get (b := w.heap.size) (o := 0) (v := .int .i64 x) (by simp); have a1 := H.get (b := w.heap.size) (o := 1) (v := .int .i64 y) (by simp)))
        · go_cut [7] from 7 (fun t7 wx => ∃ v : Int, t7 = .int .i64 v ∧ Hd w [(w.heap.size, 0, .int .i64 x), (w.heap.size, 1, .int .i64 y)] wx)
          case first =>
            go_region_held3 (fun w' => w'.cell? ⟨w.heap.size, 0, none⟩ = some (.int .i64 x) ∧ w'.cell? ⟨w.heap.size, 1, none⟩ = some (.int .i64 y)) (first | exact ⟨a0, a1⟩ | (simp [go_sem, *]; done)) (first | (go_at_call 95; refine (wide_any _ _ _ _ _ (by first | exact unhide hC | exact (unhide hC).below (below_drewN (Below.refl _ _) 1)) hl (by omega) (by omega)).mono ?_; rintro e w' ⟨z, rfl, z0, z1, hb⟩; (first | (replace H := H.call hb) | (replace H := (H.drewN 1).call hb)); (first | (replace hC := hide ((unhide hC).below hb)) | (replace hC := hide (((unhide hC).below (below_drewN (Below.refl _ _) 1)).below hb))); clear hb; have a0 := H.get (b := w.heap.size) (o := 0) (v := .int .i64 x) (by simp); have a1 := H.get (b := w.heap.size) (o := 1) (v := .int .i64 y) (by simp)))
            all_goals
              go_wp2_with fail
              go_meet
              exact ⟨_, rfl, by first | exact H | exact H.drewN 1⟩
          case rest =>
            clear H hC a0 a1
            obtain ⟨v, rfl, H⟩ := hcut
            go_wp2_with (go_at_call 96; refine (specWrap_any _ _).mono ?_; rintro e w' ⟨rfl, rfl⟩)
            go_ret
            exact ⟨⟨_, rfl⟩, H.below⟩
        · go_wp2_with (go_at_call 96; refine (specWrap_any _ _).mono ?_; rintro e w' ⟨rfl, rfl⟩)
          go_ret
          exact ⟨⟨_, rfl⟩, H.below⟩
end Go.Proofs.YthbbgkpkijlclaaDoor.num
