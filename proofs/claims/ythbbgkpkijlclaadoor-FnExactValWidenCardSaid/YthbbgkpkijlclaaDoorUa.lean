/-
  The model's rests: RestOk, RestHas, the greatest common divisor.
-/
import Derived.Test.YthbbgkpkijlclaaDoorHg
import Derived.Test.YthbbgkpkijlclaaDoorGc
namespace Go.Proofs.YthbbgkpkijlclaaDoor.num
open Go.ChangeShapes Go.WideShapes Go.ChangeAt Go.RowKit
set_option linter.unusedVariables false

theorem sRestOk_xy (x y : Int) (w : World) :
    Calls Tryd.prog 75 #[.agg #[.int .i64 x, .int .i64 y]] w fun e w' => e = .returned (.bool (qOk (x, y))) ∧ Below w.heap.size w w' := by
  go_enter Tryd.func75, Tryd.ntmps75
  by_cases h0 : x = 0
  · subst h0
    go_wp2_with (go_at_call 66; refine (specOk_any _ _).mono ?_; rintro e w' ⟨rfl, rfl⟩)
    go_ret
    exact ⟨rfl, (Below.refl _ _).alloc (Nat.le_refl _) _⟩
  · cases h1 : inB x 1 65536
    · go_wp2_with (go_at_call 97; refine (l1In_any _ _ _ _).mono ?_; rintro e w' ⟨rfl, rfl⟩; try rw [h1])
      go_ret
      refine ⟨ret_bool ?_, (Below.refl _ _).alloc (Nat.le_refl _) _⟩
      rw [eq_comm, qOk_not]; rw [inB_not] at h1; simp only; omega
    · have hw : wrap64 (x - 1) = x - 1 := w64_id (by rw [inB_iff] at h1; omega) (by rw [inB_iff] at h1; omega)
      go_wp2_with (go_at_call 97; refine (l1In_any _ _ _ _).mono ?_; rintro e w' ⟨rfl, rfl⟩; try rw [h1])
      go_ret
      refine ⟨ret_bool ?_, (Below.refl _ _).alloc (Nat.le_refl _) _⟩
      rw [Bool.eq_iff_iff, qOk_iff, inB_iff]; rw [inB_iff] at h1; simp only; omega
theorem sRestHas_xy (x y v : Int) (w : World) :
    Calls Tryd.prog 29 #[.agg #[.int .i64 x, .int .i64 y], .int .i64 v] w fun e w' => e = .returned (.bool (qHas (x, y) v)) ∧ Below w.heap.size w w' := by
  obtain ⟨W, hW, H⟩ := Hd.one w (.int .i64 x) (.int .i64 y) 26
  have a0 := H.get (b := w.heap.size) (o := 0) (v := .int .i64 x) (by simp)
  have a1 := H.get (b := w.heap.size) (o := 1) (v := .int .i64 y) (by simp)
  cases h : qOk (x, y)
  · have e : qHas (x, y) v = false := by unfold qHas; rw [h]; rfl
    rw [e]
    go_enter Tryd.func29, Tryd.ntmps29
    go_wp2_with fail
    rw [← hW]
    clear hW
    go_wp2_with (go_at_call 75; refine (sRestOk_xy _ _ _).mono ?_; rintro e w' ⟨rfl, hb⟩; try rw [h])
    go_ret
    exact ⟨rfl, (H.call hb).below⟩
  · cases h2 : okB v
    · have e : qHas (x, y) v = false := by unfold qHas; rw [h, h2]; rfl
      rw [e]
      go_enter Tryd.func29, Tryd.ntmps29
      go_wp2_with fail
      rw [← hW]
      clear hW
      go_wp2_with (first | (go_at_call 75; refine (sRestOk_xy _ _ _).mono ?_; rintro e w' ⟨rfl, hb⟩; try rw [h]) | (go_at_call 66; refine (specOk_any _ _).mono ?_; rintro e w' ⟨rfl, rfl⟩; try rw [h2]))
      go_ret
      exact ⟨rfl, (H.call hb).below⟩
    · have e : qHas (x, y) v = (if x = 0 then decide (v = y) else decide (v % x = y)) := by unfold qHas; rw [h, h2]; rfl
      rw [e]
      by_cases h0 : x = 0
      · subst h0
        rw [if_pos rfl]
        go_enter Tryd.func29, Tryd.ntmps29
        go_wp2_with fail
        rw [← hW]
        clear hW
        go_wp2_with (first | (go_at_call 75; refine (sRestOk_xy _ _ _).mono ?_; rintro e w' ⟨rfl, hb⟩; try rw [h]; replace H := H.call hb; have a0 := H.get (b := w.heap.size) (o := 0) (v := .int .i64 0) (by simp); have a1 := H.get (b := w.heap.size) (o := 1) (v := .int .i64 y) (by simp)) | (go_at_call 66; refine (specOk_any _ _).mono ?_; rintro e w' ⟨rfl, rfl⟩; try rw [h2]))
        go_ret
        exact ⟨ret_bool (by rw [Bool.eq_iff_iff]; simp), H.below⟩
      · have hx : 0 < x ∧ x ≤ 65536 := by rw [qOk_iff] at h; simp only at h; omega
        have hx2 : x ≤ 9223372036854775807 := by omega
        rw [if_neg h0]
        go_enter Tryd.func29, Tryd.ntmps29
        go_wp2_with fail
        rw [← hW]
        clear hW
        go_wp2_with (first | (go_at_call 75; refine (sRestOk_xy _ _ _).mono ?_; rintro e w' ⟨rfl, hb⟩; try rw [h]; replace H := H.call hb; have a0 := H.get (b := w.heap.size) (o := 0) (v := .int .i64 x) (by simp); have a1 := H.get (b := w.heap.size) (o := 1) (v := .int .i64 y) (by simp)) | (go_at_call 66; refine (specOk_any _ _).mono ?_; rintro e w' ⟨rfl, rfl⟩; try rw [h2]))
        have k0 := fun p : Over w' => H.over (b := w.heap.size) (o := 0) (v := .int .i64 x) (by simp) p
        have k1 := fun p : Over w' => H.over (b := w.heap.size) (o := 1) (v := .int .i64 y) (by simp) p
        refine wp_region_over (by kernel_rfl) (by kernel_rfl) ?_
        repeat (go_big_quiet_step (first | (go_at_call 92; rename_i p; refine (l1Mod_any v x hx.1 hx2 _).mono ?_; rintro e' w' ⟨rfl, rfl⟩; exact ⟨rfl, p, rfl⟩)))
        refine wpQuiet_nil ?_
        rintro _ ⟨p, rfl⟩
        replace H := H.call p.below
        clear k0 k1
        generalize p.w = w3 at *
        go_wp2
        go_ret
        exact ⟨ret_bool (by rw [Bool.eq_iff_iff]; simp), H.below⟩
theorem l9Gcd_any (x y : Int) (hx : -9223372036854775807 ≤ x ∧ x ≤ 9223372036854775807) (hy : -9223372036854775807 ≤ y ∧ y ≤ 9223372036854775807) (w : World) :
    Calls Tryd.prog 152 #[.int .i64 x, .int .i64 y] w fun e w' => e = .returned (.int .i64 (gcd9 x y)) ∧ w' = w := by
  have n1 : x < 0 → wrap64 (-x) = -x := fun h => w64_id (by omega) (by omega)
  have n2 : y < 0 → wrap64 (-y) = -y := fun h => w64_id (by omega) (by omega)
  go_enter Tryd.func152, Tryd.ntmps152
  go_wp2
  all_goals
    go_loop [0, 1] (fun a b => ∃ p q : Int, a = .int .i64 p ∧ b = .int .i64 q ∧ 0 ≤ p ∧ 0 ≤ q ∧ p ≤ 9223372036854775807 ∧ q ≤ 9223372036854775807 ∧ gcd9 p q = gcd9 x y) (fun _ b => (intOf b).toNat)
    case atStart =>
      first
        | exact ⟨-x, -y, rfl, rfl, by omega, by omega, by omega, by omega, by rw [gcd9_neg_left, gcd9_neg_right]⟩
        | exact ⟨-x, y, rfl, rfl, by omega, by omega, by omega, by omega, by rw [gcd9_neg_left]⟩
        | exact ⟨x, -y, rfl, rfl, by omega, by omega, by omega, by omega, by rw [gcd9_neg_right]⟩
        | exact ⟨x, y, rfl, rfl, by omega, by omega, by omega, by omega, rfl⟩
    case round =>
      obtain ⟨p, q, rfl, rfl, p0, q0, p1, q1, hg⟩ := hrel
      by_cases hq : q = 0
      · subst hq
        rw [gcd9_zero] at hg
        go_wp2
        go_ret
        exact ⟨ret_int (by omega), rfl⟩
      · have r0 := Int.emod_nonneg p hq
        have r1 := Int.emod_lt_of_pos p (show 0 < q by omega)
        go_wp2
        go_round
        case rel => exact ⟨q, p % q, rfl, rfl, by omega, by omega, by omega, by omega, by rw [← Int.tmod_eq_emod_of_nonneg p0, gcd9_step, hg]⟩
        case measure => simp [intOf]; omega
end Go.Proofs.YthbbgkpkijlclaaDoor.num
