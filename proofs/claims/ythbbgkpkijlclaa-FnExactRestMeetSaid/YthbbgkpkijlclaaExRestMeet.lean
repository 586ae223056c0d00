/-
  For every two rests the law FnExactRestMeet returns true and writes nothing that was there. No condition.
-/
import Derived.Test.YthbbgkpkijlclaaHp
import Derived.Test.YthbbgkpkijlclaaUm
import Derived.ShutString
import Derived.ChangeOld
import Derived.Below
namespace Go.Proofs.Ythbbgkpkijlclaa.fnExactRestMeet
open Go.ChangeShapes Go.WideShapes Go.ChangeAt Go.RowKit Go.Proofs.Ythbbgkpkijlclaa.num
set_option linter.unusedVariables false

set_option maxHeartbeats 4000000 in
theorem walk (x y x2 y2 : Int) (w : World) :
    Calls Try.prog 4 #[.agg #[.int .i64 x, .int .i64 y], .agg #[.int .i64 x2, .int .i64 y2]] w fun e w' => e = .returned (.bool true) ∧ Below w.heap.size w w' := by
  have hs : ∀ w1 : World, Calls Try.prog 8 #[.agg #[.int .i64 x, .int .i64 y], .agg #[.int .i64 x2, .int .i64 y2]] w1 fun e w' => e = .returned (.tuple #[.agg #[.int .i64 (meet9 (x, y) (x2, y2)).1.1, .int .i64 (meet9 (x, y) (x2, y2)).1.2], .bool (meet9 (x, y) (x2, y2)).2]) ∧ Below w1.heap.size w1 w' := fun w1 => sMeet_xy x y x2 y2 w1
  have hi : ∀ w1 : World, Calls Try.prog 9 #[.agg #[.int .i64 x, .int .i64 y], .agg #[.int .i64 x2, .int .i64 y2]] w1 fun e w' => e = .returned (.tuple #[.agg #[.int .i64 (meet9 (x, y) (x2, y2)).1.1, .int .i64 (meet9 (x, y) (x2, y2)).1.2], .bool (meet9 (x, y) (x2, y2)).2]) ∧ Below w1.heap.size w1 w' := fun w1 => iMeet_xy9 x y x2 y2 w1
  generalize (meet9 (x, y) (x2, y2)) = q at *
  obtain ⟨W, hW, H⟩ := Hd.two w (.int .i64 x) (.int .i64 y) (.int .i64 x2) (.int .i64 y2) 23 23
  go_enter Try.func4, Try.ntmps4
  go_wp2_with fail
  rw [← hW]
  clear hW
  have a0 := H.get (b := w.heap.size) (o := 0) (v := .int .i64 x) (by simp)
  have a1 := H.get (b := w.heap.size) (o := 1) (v := .int .i64 y) (by simp)
  have b0 := H.get (b := w.heap.size + 1) (o := 0) (v := .int .i64 x2) (by simp)
  have b1 := H.get (b := w.heap.size + 1) (o := 1) (v := .int .i64 y2) (by simp)
  have l0 := H.lt (b := w.heap.size) (o := 0) (v := .int .i64 x) (by simp)
  have l1 := H.lt (b := w.heap.size + 1) (o := 0) (v := .int .i64 x2) (by simp)
  go_cut [5, 6] from 5 (fun t5 t6 wx => ∃ g, t5 = .pointer (some ⟨g, 0, none⟩) ∧ t6 = .bool q.2 ∧ w.heap.size + 1 < g ∧ Hd w ((g, 0, .int .i64 q.1.1) :: (g, 1, .int .i64 q.1.2) :: [(w.heap.size + 1, 0, .int .i64 x2), (w.heap.size + 1, 1, .int .i64 y2), (w.heap.size, 0, .int .i64 x), (w.heap.size, 1, .int .i64 y)]) wx)
  case first =>
    go_region_held3 (fun w' => w'.cell? ⟨w.heap.size, 0, none⟩ = some (.int .i64 x) ∧ w'.cell? ⟨w.heap.size, 1, none⟩ = some (.int .i64 y) ∧ w'.cell? ⟨w.heap.size + 1, 0, none⟩ = some (.int .i64 x2) ∧ w'.cell? ⟨w.heap.size + 1, 1, none⟩ = some (.int .i64 y2)) (first | exact ⟨a0, a1, b0, b1⟩ | (simp [go_sem, *]; done)) (first | (go_at_call 6; refine (toRest_xy _ _ _).mono ?_; rintro e w' ⟨rfl, hb⟩; (first | (replace H := H.call hb) | (replace H := (H.drewN 1).call hb) | (replace H := (H.box _ _ _).call hb) | (replace H := ((H.box _ _ _).drewN 1).call hb) | (replace H := ((H.drewN 1).box _ _ _).call hb)); obtain ⟨n0, n1, n2, n3, n4⟩ := H.top; have a0 := H.get (b := w.heap.size) (o := 0) (v := .int .i64 x) (by simp); have a1 := H.get (b := w.heap.size) (o := 1) (v := .int .i64 y) (by simp); have b0 := H.get (b := w.heap.size + 1) (o := 0) (v := .int .i64 x2) (by simp); have b1 := H.get (b := w.heap.size + 1) (o := 1) (v := .int .i64 y2) (by simp); have l0 := H.lt (b := w.heap.size) (o := 0) (v := .int .i64 x) (by simp); have l1 := H.lt (b := w.heap.size + 1) (o := 0) (v := .int .i64 x2) (by simp)) | (go_at_call 8; refine (hs _).mono ?_; rintro e w' ⟨rfl, hb⟩; (first | (replace H := H.call hb) | (replace H := (H.drewN 1).call hb) | (replace H := (H.box _ _ _).call hb) | (replace H := ((H.box _ _ _).drewN 1).call hb) | (replace H := ((H.drewN 1).box _ _ _).call hb)); obtain ⟨n0, n1, n2, n3, n4⟩ := H.top; have a0 := H.get (b := w.heap.size) (o := 0) (v := .int .i64 x) (by simp); have a1 := H.get (b := w.heap.size) (o := 1) (v := .int .i64 y) (by simp); have b0 := H.get (b := w.heap.size + 1) (o := 0) (v := .int .i64 x2) (by simp); have b1 := H.get (b := w.heap.size + 1) (o := 1) (v := .int .i64 y2) (by simp); have l0 := H.lt (b := w.heap.size) (o := 0) (v := .int .i64 x) (by simp); have l1 := H.lt (b := w.heap.size + 1) (o := 0) (v := .int .i64 x2) (by simp)))
    all_goals
      go_wp2_with fail
      go_meet
      first
        | exact ⟨_, rfl, rfl, by omega, H.box _ _ _⟩
        | exact ⟨_, rfl, rfl, by omega, H.set2 (by omega) (by simp; omega) _ _⟩
  case rest =>
    obtain ⟨g, rfl, rfl, hg, H'⟩ := hcut
    clear H a0 a1 b0 b1 l0 l1
    have H := H'
    clear H'
    have a0 := H.get (b := w.heap.size) (o := 0) (v := .int .i64 x) (by simp)
    have a1 := H.get (b := w.heap.size) (o := 1) (v := .int .i64 y) (by simp)
    have b0 := H.get (b := w.heap.size + 1) (o := 0) (v := .int .i64 x2) (by simp)
    have b1 := H.get (b := w.heap.size + 1) (o := 1) (v := .int .i64 y2) (by simp)
    have l0 := H.lt (b := w.heap.size) (o := 0) (v := .int .i64 x) (by simp)
    have l1 := H.lt (b := w.heap.size + 1) (o := 0) (v := .int .i64 x2) (by simp)
    have j0 := H.get (b := g) (o := 0) (v := .int .i64 q.1.1) (by simp); have j1 := H.get (b := g) (o := 1) (v := .int .i64 q.1.2) (by simp); have jl := H.lt (b := g) (o := 0) (v := .int .i64 q.1.1) (by simp)
    go_wp2_with fail
    go_cut [7, 8] from 7 (fun t7 t8 wx => ∃ g2, t7 = .pointer (some ⟨g2, 0, none⟩) ∧ t8 = .bool q.2 ∧ g < g2 ∧ Hd w ((g2, 0, .int .i64 q.1.1) :: (g2, 1, .int .i64 q.1.2) :: (g, 0, .int .i64 q.1.1) :: (g, 1, .int .i64 q.1.2) :: [(w.heap.size + 1, 0, .int .i64 x2), (w.heap.size + 1, 1, .int .i64 y2), (w.heap.size, 0, .int .i64 x), (w.heap.size, 1, .int .i64 y)]) wx)
    case first =>
      go_region_held3 (fun w' => w'.cell? ⟨w.heap.size, 0, none⟩ = some (.int .i64 x) ∧ w'.cell? ⟨w.heap.size, 1, none⟩ = some (.int .i64 y) ∧ w'.cell? ⟨w.heap.size + 1, 0, none⟩ = some (.int .i64 x2) ∧ w'.cell? ⟨w.heap.size + 1, 1, none⟩ = some (.int .i64 y2) ∧ w'.cell? ⟨g, 0, none⟩ = some (.int .i64 q.1.1) ∧ w'.cell? ⟨g, 1, none⟩ = some (.int .i64 q.1.2)) (first | exact ⟨a0, a1, b0, b1, j0, j1⟩ | (simp [go_sem, *]; done)) (first | (go_at_call 6; refine (toRest_xy _ _ _).mono ?_; rintro e w' ⟨rfl, hb⟩; (first | (replace H := H.call hb) | (replace H := (H.drewN 1).call hb) | (replace H := (H.box _ _ _).call hb) | (replace H := ((H.box _ _ _).drewN 1).call hb) | (replace H := ((H.drewN 1).box _ _ _).call hb)); obtain ⟨n0, n1, n2, n3, n4⟩ := H.top; have a0 := H.get (b := w.heap.size) (o := 0) (v := .int .i64 x) (by simp); have a1 := H.get (b := w.heap.size) (o := 1) (v := .int .i64 y) (by simp); have b0 := H.get (b := w.heap.size + 1) (o := 0) (v := .int .i64 x2) (by simp); have b1 := H.get (b := w.heap.size + 1) (o := 1) (v := .int .i64 y2) (by simp); have l0 := H.lt (b := w.heap.size) (o := 0) (v := .int .i64 x) (by simp); have l1 := H.lt (b := w.heap.size + 1) (o := 0) (v := .int .i64 x2) (by simp); have j0 := H.get (b := g) (o := 0) (v := .int .i64 q.1.1) (by simp); have j1 := H.get (b := g) (o := 1) (v := .int .i64 q.1.2) (by simp); have jl := H.lt (b := g) (o := 0) (v := .int .i64 q.1.1) (by simp)) | (go_at_call 9; refine (hi _).mono ?_; rintro e w' ⟨rfl, hb⟩; (first | (replace H := H.call hb) | (replace H := (H.drewN 1).call hb) | (replace H := (H.box _ _ _).call hb) | (replace H := ((H.box _ _ _).drewN 1).call hb) | (replace H := ((H.drewN 1).box _ _ _).call hb)); obtain ⟨n0, n1, n2, n3, n4⟩ := H.top; have a0 := H.get (b := w.heap.size) (o := 0) (v := .int .i64 x) (by simp); have a1 := H.get (b := w.heap.size) (o := 1) (v := .int .i64 y) (by simp); have b0 := H.get (b := w.heap.size + 1) (o := 0) (v := .int .i64 x2) (by simp); have b1 := H.get (b := w.heap.size + 1) (o := 1) (v := .int .i64 y2) (by simp); have l0 := H.lt (b := w.heap.size) (o := 0) (v := .int .i64 x) (by simp); have l1 := H.lt (b := w.heap.size + 1) (o := 0) (v := .int .i64 x2) (by simp); have j0 := H.get (b := g) (o := 0) (v := .int .i64 q.1.1) (by simp); have j1 := H.get (b := g) (o := 1) (v := .int .i64 q.1.2) (by simp); have jl := H.lt (b := g) (o := 0) (v := .int .i64 q.1.1) (by simp)))
      all_goals
        go_wp2_with fail
        go_meet
        first
          | exact ⟨_, rfl, rfl, by omega, H.box _ _ _⟩
          | exact ⟨_, rfl, rfl, by omega, H.set2 (by omega) (by simp; omega) _ _⟩
    case rest =>
      obtain ⟨g2, rfl, rfl, hg2, H'⟩ := hcut
      clear H a0 a1 b0 b1 l0 l1 j0 j1 jl
      have H := H'
      clear H'
      have j0 := H.get (b := g) (o := 0) (v := .int .i64 q.1.1) (by simp)
      have j1 := H.get (b := g) (o := 1) (v := .int .i64 q.1.2) (by simp)
      have r0 := H.get (b := g2) (o := 0) (v := .int .i64 q.1.1) (by simp)
      have r1 := H.get (b := g2) (o := 1) (v := .int .i64 q.1.2) (by simp)
      go_wp2_with (go_at_call 10; refine (eqRest_xy _ _ _ _ _).mono ?_; rintro e w' ⟨rfl, hb⟩; replace H := H.call hb)
      go_ret
      exact ⟨rfl, H.below⟩
set_option maxRecDepth 100000 in
theorem lifted (os : Os) (started : os.Started) (H : Type) (enc : TypeId × Value → H) :
    ReturnsInHanded {} Try.checked os 4 .any (Rows.fnExactRestMeetSpec.pre6 enc Try.prog Try.f4 Rows.fnExactRestMeetRow.domain false) (Rows.fnExactRestMeetSpec.post enc Try.prog Try.f4 false true false false) := by
  refine returnsInHanded_of_change (C := Try.checked) own started (by kernel_rfl) Try.func4
    (ChangeSpec.witness6 (enc := enc) (C := Try.checked) false ⟨#[], #[.agg #[.int .i64 0, .int .i64 0], .agg #[.int .i64 0, .int .i64 0]], []⟩ 8 (by kernel_rfl) (by kernel_rfl) (by kernel_rfl) (by kernel_rfl)) ?_
  intro W base args ds gs before hval0 hW hcnd _
  have hval : ∀ (j : Nat) t v, Try.f4.params[j]? = some t → args[j]? = some v → Value.okWide Try.prog W .any base t v := hval0
  have hW' := hW
  obtain ⟨p, q, hA0, hV, rfl, hfz, hnd⟩ := hW
  have hA : DataW.TrodAll enc Try.prog W 0 (fun _ => true) true Try.f4.params.toList args.toList ds p := hA0
  rw [Try.params4] at hA hval
  obtain ⟨v0, vs0, d0, ds0, p0, q0, hargs, rfl, rfl, h0, r0⟩ := trodAll_cons hA
  obtain ⟨v1, vs1, d1, ds1, p1, q1, hvs0, rfl, rfl, h1, r1⟩ := trodAll_cons r0
  obtain ⟨rfl, rfl, rfl⟩ := trodAll_nil r1
  obtain rfl : args = #[v0, v1] := by cases args; simp_all
  obtain ⟨rfl, rfl⟩ := trodVars_none hV
  have k0 := h0
  have lt0 : ∀ x ∈ p0, x.block < W.heap.size := by obtain ⟨m, hm⟩ := k0; exact DataW.trod_lt m _ _ _ hm
  obtain ⟨a0, rfl⟩ := arg_twoQ (okWide_struct Try.underlying23 (hval 0 23 v0 rfl rfl)) h0
  have k1 := h1
  have lt1 : ∀ x ∈ p1, x.block < W.heap.size := by obtain ⟨m, hm⟩ := k1; exact DataW.trod_lt m _ _ _ hm
  obtain ⟨a1, rfl⟩ := arg_twoQ (okWide_struct Try.underlying23 (hval 1 23 v1 rfl rfl)) h1
  clear hA0 hval0
  simp only [List.append_nil] at hW'
  refine (walk a0.1 a0.2 a1.1 a1.2 W).mono fun e W' ⟨he, hg⟩ => ?_
  subst he
  exact ⟨_, rfl, _, _, _, [], _, [], hW', trodAll_mk1 (shut_bool Try.underlying4 _), (trodAll_cons_mk (Below.trod laidOut (by kernel_rfl) (of_decide_eq_true (by kernel_rfl)) k0 hg lt0) (trodAll_cons_mk (Below.trod laidOut (by kernel_rfl) (of_decide_eq_true (by kernel_rfl)) k1 hg lt1) trodAll_mk0)), rfl, hg.frame _, fun h => by cases h⟩

theorem over : Rows.fnExactRestMeetRow.holds Try.pinned (OpenSpec.ofChange Rows.fnExactRestMeetSpec) :=
  OpenClaim.holds_of_wide 4 Try.f4 rfl rfl rfl rfl rfl rfl rfl ⟨rfl, rfl, rfl, rfl, rfl⟩ rfl rfl rfl rfl rfl (by kernel_rfl) Try.func4 (by kernel_rfl)
    (of_decide_eq_true (by kernel_rfl)) (by unfold Func.isWrapper; first | (rw [if_pos (by decide +kernel)]; kernel_rfl) | (rw [if_neg (by decide +kernel)]; exact ⟨rfl, rfl⟩))
    (fun os started H enc _ => lifted os started H enc)
end Go.Proofs.Ythbbgkpkijlclaa.fnExactRestMeet
namespace Go.Proofs.Ythbbgkpkijlclaa
/-- THE STATEMENT. -/
theorem fnExactRestMeet_holds : Rows.FnExactRestMeetSaid := fnExactRestMeet.over
#print axioms fnExactRestMeet_holds
end Go.Proofs.Ythbbgkpkijlclaa
