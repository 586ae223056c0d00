/-
  The model's l8Bits.
-/
import Derived.Test.YtjjglklbfigmiaaDoorSi
namespace Go.Proofs.YtjjglklbfigmiaaDoor.num
open Go.ChangeShapes Go.WideShapes Go.ChangeAt Go.RowKit
set_option linter.unusedVariables false


set_option maxRecDepth 100000 in
set_option maxHeartbeats 4000000 in
theorem l8Bits_any (op x y x2 y2 : Int) (hop : op = 6 ∨ op = 7 ∨ op = 8) (hy : y ≤ 2147483647) (hy2 : y2 ≤ 2147483647) (w : World) :
    Calls Tryd.prog 73 #[.int .i64 op, .agg #[.int .i64 x, .int .i64 y], .agg #[.int .i64 x2, .int .i64 y2]] w fun e w' => e = .returned (.agg #[.int .i64 (bits8 op (x, y) (x2, y2)).1, .int .i64 (bits8 op (x, y) (x2, y2)).2]) ∧ Below w.heap.size w w' := by
  obtain ⟨W, hW, H⟩ := Hd.three w (.int .i64 x) (.int .i64 y) (.int .i64 x2) (.int .i64 y2) (.int .i64 0) (.int .i64 0) 25 25 25
  have c0 := H.get (b := w.heap.size) (o := 0) (v := .int .i64 x) (by simp)
  have c1 := H.get (b := w.heap.size) (o := 1) (v := .int .i64 y) (by simp)
  have c2 := H.get (b := w.heap.size + 1) (o := 0) (v := .int .i64 x2) (by simp)
  have c3 := H.get (b := w.heap.size + 1) (o := 1) (v := .int .i64 y2) (by simp)
  have c4 := H.get (b := w.heap.size + 2) (o := 0) (v := .int .i64 0) (by simp)
  have c5 := H.get (b := w.heap.size + 2) (o := 1) (v := .int .i64 0) (by simp)
  have z0 := H.fz (b := w.heap.size + 2) (o := 0) (v := .int .i64 0) (by simp)
  have z1 := H.fz (b := w.heap.size + 2) (o := 1) (v := .int .i64 0) (by simp)
  by_cases hs : x = y ∧ x2 = y2
  · obtain ⟨rfl, rfl⟩ := hs
    rcases hop with rfl | rfl | rfl
    · have e : bits8 6 (x, x) (x2, x2) = ((wrap32 (bitsN 6 (low x) (low x2) : Nat)), (wrap32 (bitsN 6 (low x) (low x2) : Nat))) := by unfold bits8; rw [if_pos ⟨rfl, rfl⟩, exactV_6]
      rw [e]
      have hW2 := hW.symm
      clear hW
      go_enter Tryd.func73, Tryd.ntmps73
      go_wp2_with (first | (go_at_call 105; refine (l1Bits_any _ _ _ _).mono ?_; rintro e w' ⟨rfl, rfl⟩))
      obtain ⟨f0, f1, fb⟩ := H.fill (b := w.heap.size + 2) (x := .int .i64 0) (y := .int .i64 0) (by simp) (by simp) (by omega) (.int .i64 (wrap32 (bitsN 6 (low x) (low x2) : Nat))) (.int .i64 (wrap32 (bitsN 6 (low x) (low x2) : Nat)))
      refine bodyPost_ret (results_two rfl _ _ (w.heap.size + 2) (.int .i64 (wrap32 (bitsN 6 (low x) (low x2) : Nat))) (.int .i64 (wrap32 (bitsN 6 (low x) (low x2) : Nat))) _ rfl f0 f1 Tryd.underlying25 rfl (by kernel_rfl)) rfl ?_
      exact ⟨rfl, fb⟩
    · have e : bits8 7 (x, x) (x2, x2) = ((wrap32 (bitsN 7 (low x) (low x2) : Nat)), (wrap32 (bitsN 7 (low x) (low x2) : Nat))) := by unfold bits8; rw [if_pos ⟨rfl, rfl⟩, exactV_7]
      rw [e]
      have hW2 := hW.symm
      clear hW
      go_enter Tryd.func73, Tryd.ntmps73
      go_wp2_with (first | (go_at_call 105; refine (l1Bits_any _ _ _ _).mono ?_; rintro e w' ⟨rfl, rfl⟩))
      obtain ⟨f0, f1, fb⟩ := H.fill (b := w.heap.size + 2) (x := .int .i64 0) (y := .int .i64 0) (by simp) (by simp) (by omega) (.int .i64 (wrap32 (bitsN 7 (low x) (low x2) : Nat))) (.int .i64 (wrap32 (bitsN 7 (low x) (low x2) : Nat)))
      refine bodyPost_ret (results_two rfl _ _ (w.heap.size + 2) (.int .i64 (wrap32 (bitsN 7 (low x) (low x2) : Nat))) (.int .i64 (wrap32 (bitsN 7 (low x) (low x2) : Nat))) _ rfl f0 f1 Tryd.underlying25 rfl (by kernel_rfl)) rfl ?_
      exact ⟨rfl, fb⟩
    · have e : bits8 8 (x, x) (x2, x2) = ((wrap32 (bitsN 8 (low x) (low x2) : Nat)), (wrap32 (bitsN 8 (low x) (low x2) : Nat))) := by unfold bits8; rw [if_pos ⟨rfl, rfl⟩, exactV_8]
      rw [e]
      have hW2 := hW.symm
      clear hW
      go_enter Tryd.func73, Tryd.ntmps73
      go_wp2_with (first | (go_at_call 105; refine (l1Bits_any _ _ _ _).mono ?_; rintro e w' ⟨rfl, rfl⟩))
      obtain ⟨f0, f1, fb⟩ := H.fill (b := w.heap.size + 2) (x := .int .i64 0) (y := .int .i64 0) (by simp) (by simp) (by omega) (.int .i64 (wrap32 (bitsN 8 (low x) (low x2) : Nat))) (.int .i64 (wrap32 (bitsN 8 (low x) (low x2) : Nat)))
      refine bodyPost_ret (results_two rfl _ _ (w.heap.size + 2) (.int .i64 (wrap32 (bitsN 8 (low x) (low x2) : Nat))) (.int .i64 (wrap32 (bitsN 8 (low x) (low x2) : Nat))) _ rfl f0 f1 Tryd.underlying25 rfl (by kernel_rfl)) rfl ?_
      exact ⟨rfl, fb⟩
  · have hs2 : (¬ x = y) ∨ (x = y ∧ ¬ x2 = y2) := by omega
    rcases hop with rfl | rfl | rfl
    · by_cases p : 0 ≤ x
      · by_cases q : 0 ≤ x2
        · skip
          have e : bits8 6 (x, y) (x2, y2) = (0, (min y y2)) := by unfold bits8; rw [if_neg hs]; simp [p, q]
          rw [e]
          clear hs
          rcases hs2 with q1 | ⟨rfl, q2⟩
          · skip
            have hW2 := hW.symm
            clear hW
            go_enter Tryd.func73, Tryd.ntmps73
            go_wp2_with (first | (go_at_call 61; refine (l8Min_any _ _ _).mono ?_; rintro e w' ⟨rfl, rfl⟩) | (go_at_call 62; refine (l8Max_any _ _ _).mono ?_; rintro e w' ⟨rfl, rfl⟩) | (go_at_call 106; refine (l8Mask_any _ (by omega) _).mono ?_; rintro e w' ⟨rfl, rfl⟩))
            obtain ⟨f0, f1, fb⟩ := H.fill (b := w.heap.size + 2) (x := .int .i64 0) (y := .int .i64 0) (by simp) (by simp) (by omega) (.int .i64 0) (.int .i64 (min y y2))
            refine bodyPost_ret (results_two rfl _ _ (w.heap.size + 2) (.int .i64 0) (.int .i64 (min y y2)) _ rfl f0 f1 Tryd.underlying25 rfl (by kernel_rfl)) rfl ?_
            exact ⟨rfl, fb⟩
          · skip
            have hW2 := hW.symm
            clear hW
            go_enter Tryd.func73, Tryd.ntmps73
            go_wp2_with (first | (go_at_call 61; refine (l8Min_any _ _ _).mono ?_; rintro e w' ⟨rfl, rfl⟩) | (go_at_call 62; refine (l8Max_any _ _ _).mono ?_; rintro e w' ⟨rfl, rfl⟩) | (go_at_call 106; refine (l8Mask_any _ (by omega) _).mono ?_; rintro e w' ⟨rfl, rfl⟩))
            obtain ⟨f0, f1, fb⟩ := H.fill (b := w.heap.size + 2) (x := .int .i64 0) (y := .int .i64 0) (by simp) (by simp) (by omega) (.int .i64 0) (.int .i64 (min x y2))
            refine bodyPost_ret (results_two rfl _ _ (w.heap.size + 2) (.int .i64 0) (.int .i64 (min x y2)) _ rfl f0 f1 Tryd.underlying25 rfl (by kernel_rfl)) rfl ?_
            exact ⟨rfl, fb⟩
        · skip
          have e : bits8 6 (x, y) (x2, y2) = (0, y) := by unfold bits8; rw [if_neg hs]; simp [p, q]
          rw [e]
          clear hs
          rcases hs2 with q1 | ⟨rfl, q2⟩
          · skip
            have hW2 := hW.symm
            clear hW
            go_enter Tryd.func73, Tryd.ntmps73
            go_wp2_with (first | (go_at_call 61; refine (l8Min_any _ _ _).mono ?_; rintro e w' ⟨rfl, rfl⟩) | (go_at_call 62; refine (l8Max_any _ _ _).mono ?_; rintro e w' ⟨rfl, rfl⟩) | (go_at_call 106; refine (l8Mask_any _ (by omega) _).mono ?_; rintro e w' ⟨rfl, rfl⟩))
            obtain ⟨f0, f1, fb⟩ := H.fill (b := w.heap.size + 2) (x := .int .i64 0) (y := .int .i64 0) (by simp) (by simp) (by omega) (.int .i64 0) (.int .i64 y)
            refine bodyPost_ret (results_two rfl _ _ (w.heap.size + 2) (.int .i64 0) (.int .i64 y) _ rfl f0 f1 Tryd.underlying25 rfl (by kernel_rfl)) rfl ?_
            exact ⟨rfl, fb⟩
          · skip
            have hW2 := hW.symm
            clear hW
            go_enter Tryd.func73, Tryd.ntmps73
            go_wp2_with (first | (go_at_call 61; refine (l8Min_any _ _ _).mono ?_; rintro e w' ⟨rfl, rfl⟩) | (go_at_call 62; refine (l8Max_any _ _ _).mono ?_; rintro e w' ⟨rfl, rfl⟩) | (go_at_call 106; refine (l8Mask_any _ (by omega) _).mono ?_; rintro e w' ⟨rfl, rfl⟩))
            obtain ⟨f0, f1, fb⟩ := H.fill (b := w.heap.size + 2) (x := .int .i64 0) (y := .int .i64 0) (by simp) (by simp) (by omega) (.int .i64 0) (.int .i64 x)
            refine bodyPost_ret (results_two rfl _ _ (w.heap.size + 2) (.int .i64 0) (.int .i64 x) _ rfl f0 f1 Tryd.underlying25 rfl (by kernel_rfl)) rfl ?_
            exact ⟨rfl, fb⟩
      · by_cases q : 0 ≤ x2
        · skip
          have e : bits8 6 (x, y) (x2, y2) = (0, y2) := by unfold bits8; rw [if_neg hs]; simp [p, q]
          rw [e]
          clear hs
          rcases hs2 with q1 | ⟨rfl, q2⟩
          · skip
            have hW2 := hW.symm
            clear hW
            go_enter Tryd.func73, Tryd.ntmps73
            go_wp2_with (first | (go_at_call 61; refine (l8Min_any _ _ _).mono ?_; rintro e w' ⟨rfl, rfl⟩) | (go_at_call 62; refine (l8Max_any _ _ _).mono ?_; rintro e w' ⟨rfl, rfl⟩) | (go_at_call 106; refine (l8Mask_any _ (by omega) _).mono ?_; rintro e w' ⟨rfl, rfl⟩))
            obtain ⟨f0, f1, fb⟩ := H.fill (b := w.heap.size + 2) (x := .int .i64 0) (y := .int .i64 0) (by simp) (by simp) (by omega) (.int .i64 0) (.int .i64 y2)
            refine bodyPost_ret (results_two rfl _ _ (w.heap.size + 2) (.int .i64 0) (.int .i64 y2) _ rfl f0 f1 Tryd.underlying25 rfl (by kernel_rfl)) rfl ?_
            exact ⟨rfl, fb⟩
          · skip
            have hW2 := hW.symm
            clear hW
            go_enter Tryd.func73, Tryd.ntmps73
            go_wp2_with (first | (go_at_call 61; refine (l8Min_any _ _ _).mono ?_; rintro e w' ⟨rfl, rfl⟩) | (go_at_call 62; refine (l8Max_any _ _ _).mono ?_; rintro e w' ⟨rfl, rfl⟩) | (go_at_call 106; refine (l8Mask_any _ (by omega) _).mono ?_; rintro e w' ⟨rfl, rfl⟩))
            obtain ⟨f0, f1, fb⟩ := H.fill (b := w.heap.size + 2) (x := .int .i64 0) (y := .int .i64 0) (by simp) (by simp) (by omega) (.int .i64 0) (.int .i64 y2)
            refine bodyPost_ret (results_two rfl _ _ (w.heap.size + 2) (.int .i64 0) (.int .i64 y2) _ rfl f0 f1 Tryd.underlying25 rfl (by kernel_rfl)) rfl ?_
            exact ⟨rfl, fb⟩
        · skip
          have e : bits8 6 (x, y) (x2, y2) = ((-2147483648), 2147483647) := by unfold bits8; rw [if_neg hs]; simp [p, q]
          rw [e]
          clear hs
          rcases hs2 with q1 | ⟨rfl, q2⟩
          · skip
            have hW2 := hW.symm
            clear hW
            go_enter Tryd.func73, Tryd.ntmps73
            go_wp2_with (first | (go_at_call 61; refine (l8Min_any _ _ _).mono ?_; rintro e w' ⟨rfl, rfl⟩) | (go_at_call 62; refine (l8Max_any _ _ _).mono ?_; rintro e w' ⟨rfl, rfl⟩) | (go_at_call 106; refine (l8Mask_any _ (by omega) _).mono ?_; rintro e w' ⟨rfl, rfl⟩))
            obtain ⟨f0, f1, fb⟩ := H.fill (b := w.heap.size + 2) (x := .int .i64 0) (y := .int .i64 0) (by simp) (by simp) (by omega) (.int .i64 (-2147483648)) (.int .i64 2147483647)
            refine bodyPost_ret (results_two rfl _ _ (w.heap.size + 2) (.int .i64 (-2147483648)) (.int .i64 2147483647) _ rfl f0 f1 Tryd.underlying25 rfl (by kernel_rfl)) rfl ?_
            exact ⟨rfl, fb⟩
          · skip
            have hW2 := hW.symm
            clear hW
            go_enter Tryd.func73, Tryd.ntmps73
            go_wp2_with (first | (go_at_call 61; refine (l8Min_any _ _ _).mono ?_; rintro e w' ⟨rfl, rfl⟩) | (go_at_call 62; refine (l8Max_any _ _ _).mono ?_; rintro e w' ⟨rfl, rfl⟩) | (go_at_call 106; refine (l8Mask_any _ (by omega) _).mono ?_; rintro e w' ⟨rfl, rfl⟩))
            obtain ⟨f0, f1, fb⟩ := H.fill (b := w.heap.size + 2) (x := .int .i64 0) (y := .int .i64 0) (by simp) (by simp) (by omega) (.int .i64 (-2147483648)) (.int .i64 2147483647)
            refine bodyPost_ret (results_two rfl _ _ (w.heap.size + 2) (.int .i64 (-2147483648)) (.int .i64 2147483647) _ rfl f0 f1 Tryd.underlying25 rfl (by kernel_rfl)) rfl ?_
            exact ⟨rfl, fb⟩
    · by_cases p : 0 ≤ x
      · by_cases q : 0 ≤ x2
        · skip
          have e : bits8 7 (x, y) (x2, y2) = ((max x x2), (mask8 (max y y2))) := by unfold bits8; rw [if_neg hs]; simp [p, q]
          rw [e]
          clear hs
          rcases hs2 with q1 | ⟨rfl, q2⟩
          · skip
            have hW2 := hW.symm
            clear hW
            go_enter Tryd.func73, Tryd.ntmps73
            go_wp2_with (first | (go_at_call 61; refine (l8Min_any _ _ _).mono ?_; rintro e w' ⟨rfl, rfl⟩) | (go_at_call 62; refine (l8Max_any _ _ _).mono ?_; rintro e w' ⟨rfl, rfl⟩) | (go_at_call 106; refine (l8Mask_any _ (by omega) _).mono ?_; rintro e w' ⟨rfl, rfl⟩))
            have k0 := fun p : Over W => H.over (b := w.heap.size) (o := 0) (v := .int .i64 x) (by simp) p
            have k1 := fun p : Over W => H.over (b := w.heap.size) (o := 1) (v := .int .i64 y) (by simp) p
            have k2 := fun p : Over W => H.over (b := w.heap.size + 1) (o := 0) (v := .int .i64 x2) (by simp) p
            have k3 := fun p : Over W => H.over (b := w.heap.size + 1) (o := 1) (v := .int .i64 y2) (by simp) p
            refine wp_region_tail_over rfl rfl rfl rfl (by kernel_rfl) (by kernel_rfl) (by kernel_rfl) ?_
            simp only [List.dropLast, tv, List.cons_append, List.nil_append]
            repeat (go_big_quiet_step (first | (go_at_call 62; rename_i p; refine (l8Max_any _ _ _).mono ?_; rintro e' w' ⟨rfl, rfl⟩; exact ⟨rfl, p, rfl⟩) | (go_at_call 106; rename_i p; refine (l8Mask_any _ (by omega) _).mono ?_; rintro e' w' ⟨rfl, rfl⟩; exact ⟨rfl, p, rfl⟩)))
            refine wpQuiet_nil ?_
            rintro _ ⟨p, rfl⟩
            replace H := H.call p.below
            clear k0 k1 k2 k3
            generalize p.w = w5 at *
            have c0 := H.get (b := w.heap.size + 2) (o := 0) (v := .int .i64 0) (by simp)
            have c1 := H.get (b := w.heap.size + 2) (o := 1) (v := .int .i64 0) (by simp)
            have z0 := H.fz (b := w.heap.size + 2) (o := 0) (v := .int .i64 0) (by simp)
            have z1 := H.fz (b := w.heap.size + 2) (o := 1) (v := .int .i64 0) (by simp)
            go_simp
            go_wp2
            obtain ⟨f0, f1, fb⟩ := H.fill (b := w.heap.size + 2) (x := .int .i64 0) (y := .int .i64 0) (by simp) (by simp) (by omega) (.int .i64 (max x x2)) (.int .i64 (mask8 (max y y2)))
            refine bodyPost_ret (results_two rfl _ _ (w.heap.size + 2) (.int .i64 (max x x2)) (.int .i64 (mask8 (max y y2))) _ rfl f0 f1 Tryd.underlying25 rfl (by kernel_rfl)) rfl ?_
            exact ⟨rfl, fb⟩
          · skip
            have hW2 := hW.symm
            clear hW
            go_enter Tryd.func73, Tryd.ntmps73
            go_wp2_with (first | (go_at_call 61; refine (l8Min_any _ _ _).mono ?_; rintro e w' ⟨rfl, rfl⟩) | (go_at_call 62; refine (l8Max_any _ _ _).mono ?_; rintro e w' ⟨rfl, rfl⟩) | (go_at_call 106; refine (l8Mask_any _ (by omega) _).mono ?_; rintro e w' ⟨rfl, rfl⟩))
            have k0 := fun p : Over W => H.over (b := w.heap.size) (o := 0) (v := .int .i64 x) (by simp) p
            have k1 := fun p : Over W => H.over (b := w.heap.size) (o := 1) (v := .int .i64 x) (by simp) p
            have k2 := fun p : Over W => H.over (b := w.heap.size + 1) (o := 0) (v := .int .i64 x2) (by simp) p
            have k3 := fun p : Over W => H.over (b := w.heap.size + 1) (o := 1) (v := .int .i64 y2) (by simp) p
            refine wp_region_tail_over rfl rfl rfl rfl (by kernel_rfl) (by kernel_rfl) (by kernel_rfl) ?_
            simp only [List.dropLast, tv, List.cons_append, List.nil_append]
            repeat (go_big_quiet_step (first | (go_at_call 62; rename_i p; refine (l8Max_any _ _ _).mono ?_; rintro e' w' ⟨rfl, rfl⟩; exact ⟨rfl, p, rfl⟩) | (go_at_call 106; rename_i p; refine (l8Mask_any _ (by omega) _).mono ?_; rintro e' w' ⟨rfl, rfl⟩; exact ⟨rfl, p, rfl⟩)))
            refine wpQuiet_nil ?_
            rintro _ ⟨p, rfl⟩
            replace H := H.call p.below
            clear k0 k1 k2 k3
            generalize p.w = w5 at *
            have c0 := H.get (b := w.heap.size + 2) (o := 0) (v := .int .i64 0) (by simp)
            have c1 := H.get (b := w.heap.size + 2) (o := 1) (v := .int .i64 0) (by simp)
            have z0 := H.fz (b := w.heap.size + 2) (o := 0) (v := .int .i64 0) (by simp)
            have z1 := H.fz (b := w.heap.size + 2) (o := 1) (v := .int .i64 0) (by simp)
            go_simp
            go_wp2
            obtain ⟨f0, f1, fb⟩ := H.fill (b := w.heap.size + 2) (x := .int .i64 0) (y := .int .i64 0) (by simp) (by simp) (by omega) (.int .i64 (max x x2)) (.int .i64 (mask8 (max x y2)))
            refine bodyPost_ret (results_two rfl _ _ (w.heap.size + 2) (.int .i64 (max x x2)) (.int .i64 (mask8 (max x y2))) _ rfl f0 f1 Tryd.underlying25 rfl (by kernel_rfl)) rfl ?_
            exact ⟨rfl, fb⟩
        · skip
          have e : bits8 7 (x, y) (x2, y2) = ((-2147483648), 2147483647) := by unfold bits8; rw [if_neg hs]; simp [p, q]
          rw [e]
          clear hs
          rcases hs2 with q1 | ⟨rfl, q2⟩
          · skip
            have hW2 := hW.symm
            clear hW
            go_enter Tryd.func73, Tryd.ntmps73
            go_wp2_with (first | (go_at_call 61; refine (l8Min_any _ _ _).mono ?_; rintro e w' ⟨rfl, rfl⟩) | (go_at_call 62; refine (l8Max_any _ _ _).mono ?_; rintro e w' ⟨rfl, rfl⟩) | (go_at_call 106; refine (l8Mask_any _ (by omega) _).mono ?_; rintro e w' ⟨rfl, rfl⟩))
            obtain ⟨f0, f1, fb⟩ := H.fill (b := w.heap.size + 2) (x := .int .i64 0) (y := .int .i64 0) (by simp) (by simp) (by omega) (.int .i64 (-2147483648)) (.int .i64 2147483647)
            refine bodyPost_ret (results_two rfl _ _ (w.heap.size + 2) (.int .i64 (-2147483648)) (.int .i64 2147483647) _ rfl f0 f1 Tryd.underlying25 rfl (by kernel_rfl)) rfl ?_
            exact ⟨rfl, fb⟩
          · skip
            have hW2 := hW.symm
            clear hW
            go_enter Tryd.func73, Tryd.ntmps73
            go_wp2_with (first | (go_at_call 61; refine (l8Min_any _ _ _).mono ?_; rintro e w' ⟨rfl, rfl⟩) | (go_at_call 62; refine (l8Max_any _ _ _).mono ?_; rintro e w' ⟨rfl, rfl⟩) | (go_at_call 106; refine (l8Mask_any _ (by omega) _).mono ?_; rintro e w' ⟨rfl, rfl⟩))
            obtain ⟨f0, f1, fb⟩ := H.fill (b := w.heap.size + 2) (x := .int .i64 0) (y := .int .i64 0) (by simp) (by simp) (by omega) (.int .i64 (-2147483648)) (.int .i64 2147483647)
            refine bodyPost_ret (results_two rfl _ _ (w.heap.size + 2) (.int .i64 (-2147483648)) (.int .i64 2147483647) _ rfl f0 f1 Tryd.underlying25 rfl (by kernel_rfl)) rfl ?_
            exact ⟨rfl, fb⟩
      · skip
        have e : bits8 7 (x, y) (x2, y2) = ((-2147483648), 2147483647) := by unfold bits8; rw [if_neg hs]; simp [p]
        rw [e]
        clear hs
        rcases hs2 with q1 | ⟨rfl, q2⟩
        · skip
          have hW2 := hW.symm
          clear hW
          go_enter Tryd.func73, Tryd.ntmps73
          go_wp2_with (first | (go_at_call 61; refine (l8Min_any _ _ _).mono ?_; rintro e w' ⟨rfl, rfl⟩) | (go_at_call 62; refine (l8Max_any _ _ _).mono ?_; rintro e w' ⟨rfl, rfl⟩) | (go_at_call 106; refine (l8Mask_any _ (by omega) _).mono ?_; rintro e w' ⟨rfl, rfl⟩))
          obtain ⟨f0, f1, fb⟩ := H.fill (b := w.heap.size + 2) (x := .int .i64 0) (y := .int .i64 0) (by simp) (by simp) (by omega) (.int .i64 (-2147483648)) (.int .i64 2147483647)
          refine bodyPost_ret (results_two rfl _ _ (w.heap.size + 2) (.int .i64 (-2147483648)) (.int .i64 2147483647) _ rfl f0 f1 Tryd.underlying25 rfl (by kernel_rfl)) rfl ?_
          exact ⟨rfl, fb⟩
        · skip
          have hW2 := hW.symm
          clear hW
          go_enter Tryd.func73, Tryd.ntmps73
          go_wp2_with (first | (go_at_call 61; refine (l8Min_any _ _ _).mono ?_; rintro e w' ⟨rfl, rfl⟩) | (go_at_call 62; refine (l8Max_any _ _ _).mono ?_; rintro e w' ⟨rfl, rfl⟩) | (go_at_call 106; refine (l8Mask_any _ (by omega) _).mono ?_; rintro e w' ⟨rfl, rfl⟩))
          obtain ⟨f0, f1, fb⟩ := H.fill (b := w.heap.size + 2) (x := .int .i64 0) (y := .int .i64 0) (by simp) (by simp) (by omega) (.int .i64 (-2147483648)) (.int .i64 2147483647)
          refine bodyPost_ret (results_two rfl _ _ (w.heap.size + 2) (.int .i64 (-2147483648)) (.int .i64 2147483647) _ rfl f0 f1 Tryd.underlying25 rfl (by kernel_rfl)) rfl ?_
          exact ⟨rfl, fb⟩
    · by_cases p : 0 ≤ x
      · by_cases q : 0 ≤ x2
        · skip
          have e : bits8 8 (x, y) (x2, y2) = (0, (mask8 (max y y2))) := by unfold bits8; rw [if_neg hs]; simp [p, q]
          rw [e]
          clear hs
          rcases hs2 with q1 | ⟨rfl, q2⟩
          · skip
            have hW2 := hW.symm
            clear hW
            go_enter Tryd.func73, Tryd.ntmps73
            go_wp2_with (first | (go_at_call 61; refine (l8Min_any _ _ _).mono ?_; rintro e w' ⟨rfl, rfl⟩) | (go_at_call 62; refine (l8Max_any _ _ _).mono ?_; rintro e w' ⟨rfl, rfl⟩) | (go_at_call 106; refine (l8Mask_any _ (by omega) _).mono ?_; rintro e w' ⟨rfl, rfl⟩))
            obtain ⟨f0, f1, fb⟩ := H.fill (b := w.heap.size + 2) (x := .int .i64 0) (y := .int .i64 0) (by simp) (by simp) (by omega) (.int .i64 0) (.int .i64 (mask8 (max y y2)))
            refine bodyPost_ret (results_two rfl _ _ (w.heap.size + 2) (.int .i64 0) (.int .i64 (mask8 (max y y2))) _ rfl f0 f1 Tryd.underlying25 rfl (by kernel_rfl)) rfl ?_
            exact ⟨rfl, fb⟩
          · skip
            have hW2 := hW.symm
            clear hW
            go_enter Tryd.func73, Tryd.ntmps73
            go_wp2_with (first | (go_at_call 61; refine (l8Min_any _ _ _).mono ?_; rintro e w' ⟨rfl, rfl⟩) | (go_at_call 62; refine (l8Max_any _ _ _).mono ?_; rintro e w' ⟨rfl, rfl⟩) | (go_at_call 106; refine (l8Mask_any _ (by omega) _).mono ?_; rintro e w' ⟨rfl, rfl⟩))
            obtain ⟨f0, f1, fb⟩ := H.fill (b := w.heap.size + 2) (x := .int .i64 0) (y := .int .i64 0) (by simp) (by simp) (by omega) (.int .i64 0) (.int .i64 (mask8 (max x y2)))
            refine bodyPost_ret (results_two rfl _ _ (w.heap.size + 2) (.int .i64 0) (.int .i64 (mask8 (max x y2))) _ rfl f0 f1 Tryd.underlying25 rfl (by kernel_rfl)) rfl ?_
            exact ⟨rfl, fb⟩
        · skip
          have e : bits8 8 (x, y) (x2, y2) = ((-2147483648), 2147483647) := by unfold bits8; rw [if_neg hs]; simp [p, q]
          rw [e]
          clear hs
          rcases hs2 with q1 | ⟨rfl, q2⟩
          · skip
            have hW2 := hW.symm
            clear hW
            go_enter Tryd.func73, Tryd.ntmps73
            go_wp2_with (first | (go_at_call 61; refine (l8Min_any _ _ _).mono ?_; rintro e w' ⟨rfl, rfl⟩) | (go_at_call 62; refine (l8Max_any _ _ _).mono ?_; rintro e w' ⟨rfl, rfl⟩) | (go_at_call 106; refine (l8Mask_any _ (by omega) _).mono ?_; rintro e w' ⟨rfl, rfl⟩))
            obtain ⟨f0, f1, fb⟩ := H.fill (b := w.heap.size + 2) (x := .int .i64 0) (y := .int .i64 0) (by simp) (by simp) (by omega) (.int .i64 (-2147483648)) (.int .i64 2147483647)
            refine bodyPost_ret (results_two rfl _ _ (w.heap.size + 2) (.int .i64 (-2147483648)) (.int .i64 2147483647) _ rfl f0 f1 Tryd.underlying25 rfl (by kernel_rfl)) rfl ?_
            exact ⟨rfl, fb⟩
          · skip
            have hW2 := hW.symm
            clear hW
            go_enter Tryd.func73, Tryd.ntmps73
            go_wp2_with (first | (go_at_call 61; refine (l8Min_any _ _ _).mono ?_; rintro e w' ⟨rfl, rfl⟩) | (go_at_call 62; refine (l8Max_any _ _ _).mono ?_; rintro e w' ⟨rfl, rfl⟩) | (go_at_call 106; refine (l8Mask_any _ (by omega) _).mono ?_; rintro e w' ⟨rfl, rfl⟩))
            obtain ⟨f0, f1, fb⟩ := H.fill (b := w.heap.size + 2) (x := .int .i64 0) (y := .int .i64 0) (by simp) (by simp) (by omega) (.int .i64 (-2147483648)) (.int .i64 2147483647)
            refine bodyPost_ret (results_two rfl _ _ (w.heap.size + 2) (.int .i64 (-2147483648)) (.int .i64 2147483647) _ rfl f0 f1 Tryd.underlying25 rfl (by kernel_rfl)) rfl ?_
            exact ⟨rfl, fb⟩
      · skip
        have e : bits8 8 (x, y) (x2, y2) = ((-2147483648), 2147483647) := by unfold bits8; rw [if_neg hs]; simp [p]
        rw [e]
        clear hs
        rcases hs2 with q1 | ⟨rfl, q2⟩
        · skip
          have hW2 := hW.symm
          clear hW
          go_enter Tryd.func73, Tryd.ntmps73
          go_wp2_with (first | (go_at_call 61; refine (l8Min_any _ _ _).mono ?_; rintro e w' ⟨rfl, rfl⟩) | (go_at_call 62; refine (l8Max_any _ _ _).mono ?_; rintro e w' ⟨rfl, rfl⟩) | (go_at_call 106; refine (l8Mask_any _ (by omega) _).mono ?_; rintro e w' ⟨rfl, rfl⟩))
          obtain ⟨f0, f1, fb⟩ := H.fill (b := w.heap.size + 2) (x := .int .i64 0) (y := .int .i64 0) (by simp) (by simp) (by omega) (.int .i64 (-2147483648)) (.int .i64 2147483647)
          refine bodyPost_ret (results_two rfl _ _ (w.heap.size + 2) (.int .i64 (-2147483648)) (.int .i64 2147483647) _ rfl f0 f1 Tryd.underlying25 rfl (by kernel_rfl)) rfl ?_
          exact ⟨rfl, fb⟩
        · skip
          have hW2 := hW.symm
          clear hW
          go_enter Tryd.func73, Tryd.ntmps73
          go_wp2_with (first | (go_at_call 61; refine (l8Min_any _ _ _).mono ?_; rintro e w' ⟨rfl, rfl⟩) | (go_at_call 62; refine (l8Max_any _ _ _).mono ?_; rintro e w' ⟨rfl, rfl⟩) | (go_at_call 106; refine (l8Mask_any _ (by omega) _).mono ?_; rintro e w' ⟨rfl, rfl⟩))
          obtain ⟨f0, f1, fb⟩ := H.fill (b := w.heap.size + 2) (x := .int .i64 0) (y := .int .i64 0) (by simp) (by simp) (by omega) (.int .i64 (-2147483648)) (.int .i64 2147483647)
          refine bodyPost_ret (results_two rfl _ _ (w.heap.size + 2) (.int .i64 (-2147483648)) (.int .i64 2147483647) _ rfl f0 f1 Tryd.underlying25 rfl (by kernel_rfl)) rfl ?_
          exact ⟨rfl, fb⟩
end Go.Proofs.YtjjglklbfigmiaaDoor.num
