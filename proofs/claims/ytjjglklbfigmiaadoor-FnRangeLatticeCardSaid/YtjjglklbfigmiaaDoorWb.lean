/-
  The laws' within and has.
-/
import Derived.Test.YtjjglklbfigmiaaDoorWa
import Derived.Test.YtjjglklbfigmiaaDoorTf
import Derived.Test.YtjjglklbfigmiaaDoorSf
import Derived.Deep.RegionHeld3
namespace Go.Proofs.YtjjglklbfigmiaaDoor.num
open Go.ChangeShapes Go.WideShapes Go.ChangeAt Go.RowKit
set_option linter.unusedVariables false

set_option maxRecDepth 100000 in
set_option maxHeartbeats 4000000 in
theorem has_any {base : Nat} {ok : Int → Prop} (l : List Int) (v : Int) (sv : Value) (w : World) (h : rws.Seq 1 rws.ci ok base w sv l) :
    Calls Tryd.prog 44 #[sv, .int .i64 v] w fun e w' => e = .returned (.bool (l.contains v)) ∧ w' = w := by
  obtain ⟨a, cap, rfl, hc1, hc2⟩ := h.shape
  have H := hide h
  unfold maxLen at hc2
  clear h
  go_enter Tryd.func44, Tryd.ntmps44
  go_wp2
  go_loop [5] (fun i => ∃ j : Nat, j ≤ l.length ∧ i = .int .i64 j ∧ (l.take j).contains v = false) (fun i => l.length - (intOf i).toNat)
  case atStart => exact ⟨0, by omega, rfl, by simp⟩
  case round =>
    obtain ⟨j, hj, rfl, hn⟩ := hrel
    by_cases hlt : j < l.length
    · obtain ⟨t, ht⟩ : ∃ t, l[j]? = some t := ⟨_, List.getElem?_eq_getElem hlt⟩
      obtain ⟨b, off, rfl, hb, hc⟩ := (unhide H).atI ht
      have HN := hide hn
      have HT := hide ht
      clear hn ht
      cases q : (t == v)
      · go_wp2
        refine ⟨⟨j + 1, by omega, by go_num, ?_⟩, by simp [intOf]; omega⟩
        rw [List.take_add_one, unhide HT]
        have h1 := unhide HN
        simp at h1 q ⊢
        exact ⟨h1, fun k => q k.symm⟩
      · go_wp2
        go_ret
        refine ⟨ret_bool ?_, rfl⟩
        have := List.mem_of_getElem? (unhide HT)
        simp at q ⊢
        rw [← q]; exact this
    · obtain rfl : j = l.length := by omega
      rw [List.take_length] at hn
      go_wp2
      go_ret
      refine ⟨ret_bool ?_, rfl⟩
      simpa using hn
set_option maxRecDepth 100000 in
set_option maxHeartbeats 4000000 in
theorem within_any (w : World) (x y : Int) (a : Option Addr) (len cap : Nat) (i : Int) (h : Code8 w a len) (hl : len ≤ 1048576) (hi : 0 ≤ i) (hi2 : i ≤ 900000) :
    Calls Tryd.prog 42 #[.agg #[.int .i64 x, .int .i64 y], .slice a len cap, .int .i64 i] w fun e w' => ∃ v : Int, e = .returned (.int .i64 v) ∧ (rOk (x, y) = true → isN (x, y) = false → rHas (x, y) v = true) ∧ Below w.heap.size w w' := by
  obtain ⟨W, hW, H⟩ := Hd.one w (.int .i64 x) (.int .i64 y) 25
  have c0 := H.get (b := w.heap.size) (o := 0) (v := .int .i64 x) (by simp)
  have c1 := H.get (b := w.heap.size) (o := 1) (v := .int .i64 y) (by simp)
  have HC := hide h
  clear h
  have e5 : IntKind.i64.wrap (i + 5) = i + 5 := IntWalk.i64_in _ ⟨by omega, by omega⟩
  cases k : rOk (x, y)
  · by_cases hlt : y < x
    · go_enter Tryd.func42, Tryd.ntmps42
      go_wp2_with fail
      rw [← hW]
      clear hW
      go_wp2_with (first | (go_at_call 54; refine (at_any _ _ _ _ _ ((unhide HC).below H.below) hl (by omega) (by omega)).mono ?_; rintro e w1 ⟨v, rfl, v0, v1, hb⟩; replace H := H.call hb) | (go_at_call 18; refine (RangeOk_xy _ _ _).mono ?_; rintro e w2 ⟨rfl, hb⟩; rw [k]; replace H := H.call hb))
      go_ret
      exact ⟨_, rfl, fun k => (by cases k), H.below⟩
    · go_enter Tryd.func42, Tryd.ntmps42
      go_wp2_with fail
      rw [← hW]
      clear hW
      go_wp2_with (first | (go_at_call 54; refine (at_any _ _ _ _ _ ((unhide HC).below H.below) hl (by omega) (by omega)).mono ?_; rintro e w1 ⟨v, rfl, v0, v1, hb⟩; replace H := H.call hb) | (go_at_call 18; refine (RangeOk_xy _ _ _).mono ?_; rintro e w2 ⟨rfl, hb⟩; rw [k]; replace H := H.call hb))
      go_ret
      exact ⟨_, rfl, fun k => (by cases k), H.below⟩
  · by_cases hlt : y < x
    · have hn : isN (x, y) = true := (rOk_none_of k).2 hlt
      go_enter Tryd.func42, Tryd.ntmps42
      go_wp2_with fail
      rw [← hW]
      clear hW
      go_wp2_with (first | (go_at_call 54; refine (at_any _ _ _ _ _ ((unhide HC).below H.below) hl (by omega) (by omega)).mono ?_; rintro e w1 ⟨v, rfl, v0, v1, hb⟩; replace H := H.call hb) | (go_at_call 18; refine (RangeOk_xy _ _ _).mono ?_; rintro e w2 ⟨rfl, hb⟩; rw [k]; replace H := H.call hb))
      go_ret
      exact ⟨_, rfl, fun _ k => (by rw [hn] at k; cases k), H.below⟩
    · have hn : isN (x, y) = false := some_not (a := (x, y)) (by simp; omega)
      obtain ⟨o1, o2, o3⟩ := ok_some k (by rw [hn]; simp)
      simp only at o1 o2 o3
      have g1 : IntKind.i64.wrap (y - x) = y - x := IntWalk.i64_in _ ⟨by omega, by omega⟩
      have g2 : IntKind.i64.wrap (y - x + 1) = y - x + 1 := IntWalk.i64_in _ ⟨by omega, by omega⟩
      have hz : ((y - x + 1) == 0) = false := by simp; omega
      go_enter Tryd.func42, Tryd.ntmps42
      go_wp2_with fail
      rw [← hW]
      clear hW
      go_wp2_with (first | (go_at_call 54; refine (at_any _ _ _ _ _ ((unhide HC).below H.below) hl (by omega) (by omega)).mono ?_; rintro e w1 ⟨v, rfl, v0, v1, hb⟩; replace H := H.call hb; have d0 := H.get (b := w.heap.size) (o := 0) (v := .int .i64 x) (by simp); have d1 := H.get (b := w.heap.size) (o := 1) (v := .int .i64 y) (by simp)) | (go_at_call 18; refine (RangeOk_xy _ _ _).mono ?_; rintro e w2 ⟨rfl, hb⟩; rw [k]; replace H := H.call hb; have d0 := H.get (b := w.heap.size) (o := 0) (v := .int .i64 x) (by simp); have d1 := H.get (b := w.heap.size) (o := 1) (v := .int .i64 y) (by simp)) | (go_at_call 53; refine (wide_any _ _ _ _ _ ((unhide HC).below H.below) hl (by omega) (by omega)).mono ?_; rintro e w2 ⟨v, rfl, v0, v1, hb⟩; replace H := H.call hb; have d0 := H.get (b := w.heap.size) (o := 0) (v := .int .i64 x) (by simp); have d1 := H.get (b := w.heap.size) (o := 1) (v := .int .i64 y) (by simp)))
      · go_region_with (first
        | (go_at_call 54; refine (at_any _ _ _ _ _ ((unhide HC).below (by first | exact H.below | exact (H.drewN 1).below)) hl (by omega) (by omega)).mono ?_; rintro e w5 ⟨u, rfl, u0, u1, hb⟩; (first | (replace H := H.call hb) | (replace H := (H.drewN 1).call hb)); have d0 := H.get (b := w.heap.size) (o := 0) (v := .int .i64 x) (by simp); have d1 := H.get (b := w.heap.size) (o := 1) (v := .int .i64 y) (by simp); have m1 := Int.emod_nonneg (u % 3) (show y - x + 1 ≠ 0 by omega); have m2 := Int.emod_lt_of_pos (u % 3) (show 0 < y - x + 1 by omega); have n1 := Int.emod_nonneg u (show y - x + 1 ≠ 0 by omega); have n2 := Int.emod_lt_of_pos u (show 0 < y - x + 1 by omega); have gw1 : IntKind.i64.wrap (x + u % 3 % (y - x + 1)) = x + u % 3 % (y - x + 1) := IntWalk.i64_in _ ⟨by omega, by omega⟩; have gw2 : IntKind.i64.wrap (y - u % 3 % (y - x + 1)) = y - u % 3 % (y - x + 1) := IntWalk.i64_in _ ⟨by omega, by omega⟩; have gw3 : IntKind.i64.wrap (x + u % (y - x + 1)) = x + u % (y - x + 1) := IntWalk.i64_in _ ⟨by omega, by omega⟩))
        all_goals
          go_wp2_with fail
          go_ret
          exact ⟨_, rfl, fun _ _ => (by rw [rHas_iff]; simp only; omega), H.below⟩
      · go_region_with (first
        | (go_at_call 54; refine (at_any _ _ _ _ _ ((unhide HC).below (by first | exact H.below | exact (H.drewN 1).below)) hl (by omega) (by omega)).mono ?_; rintro e w5 ⟨u, rfl, u0, u1, hb⟩; (first | (replace H := H.call hb) | (replace H := (H.drewN 1).call hb)); have d0 := H.get (b := w.heap.size) (o := 0) (v := .int .i64 x) (by simp); have d1 := H.get (b := w.heap.size) (o := 1) (v := .int .i64 y) (by simp); have m1 := Int.emod_nonneg (u % 3) (show y - x + 1 ≠ 0 by omega); have m2 := Int.emod_lt_of_pos (u % 3) (show 0 < y - x + 1 by omega); have n1 := Int.emod_nonneg u (show y - x + 1 ≠ 0 by omega); have n2 := Int.emod_lt_of_pos u (show 0 < y - x + 1 by omega); have gw1 : IntKind.i64.wrap (x + u % 3 % (y - x + 1)) = x + u % 3 % (y - x + 1) := IntWalk.i64_in _ ⟨by omega, by omega⟩; have gw2 : IntKind.i64.wrap (y - u % 3 % (y - x + 1)) = y - u % 3 % (y - x + 1) := IntWalk.i64_in _ ⟨by omega, by omega⟩; have gw3 : IntKind.i64.wrap (x + u % (y - x + 1)) = x + u % (y - x + 1) := IntWalk.i64_in _ ⟨by omega, by omega⟩))
        all_goals
          go_wp2_with fail
          go_ret
          exact ⟨_, rfl, fun _ _ => (by rw [rHas_iff]; simp only; omega), H.below⟩
      · go_region_with (first
        | (go_at_call 53; refine (wide_any _ _ _ _ _ ((unhide HC).below (by first | exact H.below | exact (H.drewN 1).below)) hl (by omega) (by omega)).mono ?_; rintro e w5 ⟨u, rfl, u0, u1, hb⟩; (first | (replace H := H.call hb) | (replace H := (H.drewN 1).call hb)); have d0 := H.get (b := w.heap.size) (o := 0) (v := .int .i64 x) (by simp); have d1 := H.get (b := w.heap.size) (o := 1) (v := .int .i64 y) (by simp); have m1 := Int.emod_nonneg (u % 3) (show y - x + 1 ≠ 0 by omega); have m2 := Int.emod_lt_of_pos (u % 3) (show 0 < y - x + 1 by omega); have n1 := Int.emod_nonneg u (show y - x + 1 ≠ 0 by omega); have n2 := Int.emod_lt_of_pos u (show 0 < y - x + 1 by omega); have gw1 : IntKind.i64.wrap (x + u % 3 % (y - x + 1)) = x + u % 3 % (y - x + 1) := IntWalk.i64_in _ ⟨by omega, by omega⟩; have gw2 : IntKind.i64.wrap (y - u % 3 % (y - x + 1)) = y - u % 3 % (y - x + 1) := IntWalk.i64_in _ ⟨by omega, by omega⟩; have gw3 : IntKind.i64.wrap (x + u % (y - x + 1)) = x + u % (y - x + 1) := IntWalk.i64_in _ ⟨by omega, by omega⟩))
        all_goals
          go_wp2_with fail
          go_ret
          exact ⟨_, rfl, fun _ _ => (by rw [rHas_iff]; simp only; omega), H.below⟩
end Go.Proofs.YtjjglklbfigmiaaDoor.num
