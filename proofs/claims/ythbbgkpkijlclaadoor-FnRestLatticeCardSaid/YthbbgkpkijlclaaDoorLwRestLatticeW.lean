/-
  For every code the law FnRestLattice returns true and writes nothing that was there; its package variable as the program's text lays it.
-/
import Derived.Test.YthbbgkpkijlclaaDoorYh
import Derived.Test.YthbbgkpkijlclaaDoorYf
import Derived.Test.YthbbgkpkijlclaaDoorVe
import Derived.Test.YthbbgkpkijlclaaDoorUM
import Derived.SevenTiedAt
import Derived.Stop.LaidErr
import Derived.ShutString
import Derived.ChangeOld
import Derived.Below
namespace Go.Proofs.YthbbgkpkijlclaaDoor.fnRestLattice
open Go.ChangeShapes Go.WideShapes Go.ChangeAt Go.RowKit Go.Proofs.YthbbgkpkijlclaaDoor.num
set_option linter.unusedVariables false

/-- The variables that the row lists. -/
abbrev laid : List (String × DataW Unit) := Rows.fnRestLatticeRow.laid
/-- The door's own heap meets the condition. -/
theorem door_met (os : Os) (args : Array Value) : laidMetH Tryd.prog laid ((World.doorLaid Tryd.prog 400 os).forCall (fun _ _ => 0) ⟨#[], args, []⟩).memory :=
  laidMetH_of_parts3 (fuel := 8) (laidMet_of_run' 8 (by kernel_rfl) (by kernel_rfl)) (by kernel_rfl) (by kernel_rfl)
theorem laid_of {W : World} (h : laidMetH Tryd.prog laid W) : Gv W 2 (1, 0) := by
  rw [MakeChecks.laidMetH_plain _ _ _ (by kernel_rfl)] at h
  exact gv_of_headQ (by kernel_rfl) (by kernel_rfl) h
set_option maxRecDepth 100000 in
set_option maxHeartbeats 4000000 in
theorem walk (a0 : Option Addr) (len0 cap0 : Nat) (z0 : List Int) (w : World) (w0 : IsRow .u8 w a0 len0 cap0 z0) (h : Gq w) :
    Calls Tryd.prog 19 #[.slice a0 len0 cap0] w fun e w' => e = .returned (.bool true) ∧ Below w.heap.size w w' := by
  obtain ⟨hc, hl, hm⟩ := code_of_row w0
  have HC := hide hc
  clear hc w0
  by_cases hlen : 1048576 < len0
  · go_enter Tryd.func19, Tryd.ntmps19
    go_wp2
    go_ret
    exact ⟨rfl, Below.refl _ _⟩
  replace hlen : len0 ≤ 1048576 := by omega
  go_enter Tryd.func19, Tryd.ntmps19
  go_wp2_with fail
  refine (drawRestMeet_any _ _ _ _ (unhide HC) hl hm).mono ?_
  rintro e w1 ⟨⟨x, y, x2, y2, rfl⟩, hb⟩
  have hN : Gq w1 := Gv.below h hb
  have hCC := hide ((unhide HC).below hb)
  obtain ⟨W, hW, H⟩ := Hd.two w1 (.int .i64 x) (.int .i64 y) (.int .i64 x2) (.int .i64 y2) 26 26
  have hup : ∀ {w'}, Below w1.heap.size w1 w' → Below w.heap.size w w' := fun k => below_up hb hb.size k
  clear hb HC h
  have ca0 := H.get (b := w1.heap.size) (o := 0) (v := .int .i64 x) (by simp)
  have ca1 := H.get (b := w1.heap.size) (o := 1) (v := .int .i64 y) (by simp)
  have cal := H.lt (b := w1.heap.size) (o := 0) (v := .int .i64 x) (by simp)
  have cb0 := H.get (b := w1.heap.size + 1) (o := 0) (v := .int .i64 x2) (by simp)
  have cb1 := H.get (b := w1.heap.size + 1) (o := 1) (v := .int .i64 y2) (by simp)
  have cbl := H.lt (b := w1.heap.size + 1) (o := 0) (v := .int .i64 x2) (by simp)
  have HJ := fun (w : World) (h : Gq w) => iRestJoin_xy x y x2 y2 w h
  have HJs := fun (w : World) => sRestJoin_xy x y x2 y2 w
  have HM : ∀ w1 : World, Calls Tryd.prog 72 #[.agg #[.int .i64 x, .int .i64 y], .agg #[.int .i64 x2, .int .i64 y2]] w1 fun e w' => e = .returned (.tuple #[.agg #[.int .i64 (meet9 (x, y) (x2, y2)).1.1, .int .i64 (meet9 (x, y) (x2, y2)).1.2], .bool (meet9 (x, y) (x2, y2)).2]) ∧ Below w1.heap.size w1 w' := fun w1 => iMeet_xy9 x y x2 y2 w1
  have HMs : ∀ w1 : World, Calls Tryd.prog 73 #[.agg #[.int .i64 x, .int .i64 y], .agg #[.int .i64 x2, .int .i64 y2]] w1 fun e w' => e = .returned (.tuple #[.agg #[.int .i64 (meet9 (x, y) (x2, y2)).1.1, .int .i64 (meet9 (x, y) (x2, y2)).1.2], .bool (meet9 (x, y) (x2, y2)).2]) ∧ Below w1.heap.size w1 w' := fun w1 => sMeet_xy x y x2 y2 w1
  have hjbad : (qOk (x, y) = false ∨ qOk (x2, y2) = false) → join9 (x, y) (x2, y2) = (1, 0) := fun k => by
    unfold join9
    rw [if_pos k]
    rfl
  have hmbad : (qOk (x, y) = false ∨ qOk (x2, y2) = false) → (meet9 (x, y) (x2, y2)).2 = false := fun k => by
    unfold meet9
    rw [if_pos k]
  have hi1 : qOk (x, y) = true → qOk (x2, y2) = true → in9 (x, y) (join9 (x, y) (x2, y2)) = true := join9_in_left
  have hi2 : qOk (x, y) = true → qOk (x2, y2) = true → in9 (x2, y2) (join9 (x, y) (x2, y2)) = true := join9_in_right
  have hmok : (meet9 (x, y) (x2, y2)).2 = true → qOk (meet9 (x, y) (x2, y2)).1 = true := meet9_ok
  have hmhas : ∀ v, qHas (x, y) v = true → qHas (x2, y2) v = true → (meet9 (x, y) (x2, y2)).2 = true ∧ qHas (meet9 (x, y) (x2, y2)).1 v = true := fun v h1 h2 => meet9_has h1 h2
  generalize hJ : join9 (x, y) (x2, y2) = J at *
  generalize hM : meet9 (x, y) (x2, y2) = M at *
  clear hJ hM
  go_wp2_with fail
  rw [← hW]
  clear hW
  go_wp2_with (first | (go_at_call 71; refine (HJ _ (Gv.below hN H.below)).mono ?_; rintro e w2 ⟨rfl, hb⟩; replace H := H.call hb; clear hb; have ca0 := H.get (b := w1.heap.size) (o := 0) (v := .int .i64 x) (by simp); have ca1 := H.get (b := w1.heap.size) (o := 1) (v := .int .i64 y) (by simp); have cal := H.lt (b := w1.heap.size) (o := 0) (v := .int .i64 x) (by simp); have cb0 := H.get (b := w1.heap.size + 1) (o := 0) (v := .int .i64 x2) (by simp); have cb1 := H.get (b := w1.heap.size + 1) (o := 1) (v := .int .i64 y2) (by simp); have cbl := H.lt (b := w1.heap.size + 1) (o := 0) (v := .int .i64 x2) (by simp)) | (go_at_call 72; refine (HM _).mono ?_; rintro e w3 ⟨rfl, hb⟩; replace H := (H.box _ _ _).call hb; clear hb cal cbl ca0 ca1 cb0 cb1; obtain ⟨gj, hgj⟩ : ∃ g, g = w2.heap.size := ⟨_, rfl⟩; rw [← hgj] at H ⊢; clear hgj w2; have ca0 := H.get (b := w1.heap.size) (o := 0) (v := .int .i64 x) (by simp); have ca1 := H.get (b := w1.heap.size) (o := 1) (v := .int .i64 y) (by simp); have cal := H.lt (b := w1.heap.size) (o := 0) (v := .int .i64 x) (by simp); have cb0 := H.get (b := w1.heap.size + 1) (o := 0) (v := .int .i64 x2) (by simp); have cb1 := H.get (b := w1.heap.size + 1) (o := 1) (v := .int .i64 y2) (by simp); have cbl := H.lt (b := w1.heap.size + 1) (o := 0) (v := .int .i64 x2) (by simp)) | (go_at_call 73; refine (HMs _).mono ?_; rintro e w4 ⟨rfl, hb⟩; replace H := (H.box _ _ _).call hb; clear hb cal cbl ca0 ca1 cb0 cb1; obtain ⟨gm, hgm⟩ : ∃ g, g = w3.heap.size := ⟨_, rfl⟩; rw [← hgm] at H ⊢; clear hgm w3; have ca0 := H.get (b := w1.heap.size) (o := 0) (v := .int .i64 x) (by simp); have ca1 := H.get (b := w1.heap.size) (o := 1) (v := .int .i64 y) (by simp); have cal := H.lt (b := w1.heap.size) (o := 0) (v := .int .i64 x) (by simp); have cb0 := H.get (b := w1.heap.size + 1) (o := 0) (v := .int .i64 x2) (by simp); have cb1 := H.get (b := w1.heap.size + 1) (o := 1) (v := .int .i64 y2) (by simp); have cbl := H.lt (b := w1.heap.size + 1) (o := 0) (v := .int .i64 x2) (by simp)))
  replace H := H.box (.int .i64 M.1.1) (.int .i64 M.1.2) 26
  generalize w4.alloc (.cells #[.int .i64 M.1.1, .int .i64 M.1.2] 26) = W4 at H ⊢
  generalize w4.heap.size = gn at H ⊢
  clear cal cbl ca0 ca1 cb0 cb1
  have k0 := fun p : Over W4 => H.over (b := w1.heap.size) (o := 0) (v := .int .i64 x) (by simp) p
  have k1 := fun p : Over W4 => H.over (b := w1.heap.size) (o := 1) (v := .int .i64 y) (by simp) p
  have k2 := fun p : Over W4 => H.over (b := w1.heap.size + 1) (o := 0) (v := .int .i64 x2) (by simp) p
  have k3 := fun p : Over W4 => H.over (b := w1.heap.size + 1) (o := 1) (v := .int .i64 y2) (by simp) p
  have k4 := fun p : Over W4 => H.over (b := gj) (o := 0) (v := .int .i64 J.1) (by simp) p
  have k5 := fun p : Over W4 => H.over (b := gj) (o := 1) (v := .int .i64 J.2) (by simp) p
  have k6 := fun p : Over W4 => H.over (b := gm) (o := 0) (v := .int .i64 M.1.1) (by simp) p
  have k7 := fun p : Over W4 => H.over (b := gm) (o := 1) (v := .int .i64 M.1.2) (by simp) p
  have k8 := fun p : Over W4 => H.over (b := gn) (o := 0) (v := .int .i64 M.1.1) (by simp) p
  have k9 := fun p : Over W4 => H.over (b := gn) (o := 1) (v := .int .i64 M.1.2) (by simp) p
  refine wp_region_over (by kernel_rfl) (by kernel_rfl) ?_
  repeat (go_big_quiet_step (first | (go_at_call 74; rename_i p; refine (HJs _).mono ?_; rintro e' w' ⟨rfl, hb1⟩; exact ⟨rfl, p.next hb1⟩)))
  refine wpQuiet_nil ?_
  rintro _ ⟨p, rfl⟩
  replace H := H.call p.below
  clear k0 k1 k2 k3 k4 k5 k6 k7 k8 k9
  obtain ⟨W5, hW5⟩ : ∃ W5, W5 = p.w := ⟨_, rfl⟩
  rw [← hW5] at H ⊢
  clear hW5 p W4 HJ HJs HM HMs
  have c0 := H.get (b := w1.heap.size) (o := 0) (v := .int .i64 x) (by simp)
  have c1 := H.get (b := w1.heap.size) (o := 1) (v := .int .i64 y) (by simp)
  have c2 := H.get (b := w1.heap.size + 1) (o := 0) (v := .int .i64 x2) (by simp)
  have c3 := H.get (b := w1.heap.size + 1) (o := 1) (v := .int .i64 y2) (by simp)
  have c4 := H.get (b := gj) (o := 0) (v := .int .i64 J.1) (by simp)
  have c5 := H.get (b := gj) (o := 1) (v := .int .i64 J.2) (by simp)
  have c6 := H.get (b := gm) (o := 0) (v := .int .i64 M.1.1) (by simp)
  have c7 := H.get (b := gm) (o := 1) (v := .int .i64 M.1.2) (by simp)
  have c8 := H.get (b := gn) (o := 0) (v := .int .i64 M.1.1) (by simp)
  have c9 := H.get (b := gn) (o := 1) (v := .int .i64 M.1.2) (by simp)
  have l0 := H.lt (b := w1.heap.size) (o := 0) (v := .int .i64 x) (by simp)
  have l1 := H.lt (b := w1.heap.size + 1) (o := 0) (v := .int .i64 x2) (by simp)
  have l2 := H.lt (b := gj) (o := 0) (v := .int .i64 J.1) (by simp)
  have l3 := H.lt (b := gm) (o := 0) (v := .int .i64 M.1.1) (by simp)
  have l4 := H.lt (b := gn) (o := 0) (v := .int .i64 M.1.1) (by simp)
  cases k : qOk (x, y)
  · have e := hjbad (.inl k)
    have e1 : J.1 = 1 := by rw [e]
    have e2 : J.2 = 0 := by rw [e]
    have e3 := hmbad (.inl k)
    clear hjbad hmbad hi1 hi2 hmok hmhas e
    go_wp2_with (first | (go_at_call 75; refine (sRestOk_xy _ _ _).mono ?_; rintro e w6 ⟨rfl, hb⟩; (first | rw [k] | rw [k2]); replace H := H.call hb; clear hb c0 c1 c2 c3 c4 c5 c6 c7 c8 c9 l0 l1 l2 l3 l4; have c0 := H.get (b := w1.heap.size) (o := 0) (v := .int .i64 x) (by simp); have c1 := H.get (b := w1.heap.size) (o := 1) (v := .int .i64 y) (by simp); have c2 := H.get (b := w1.heap.size + 1) (o := 0) (v := .int .i64 x2) (by simp); have c3 := H.get (b := w1.heap.size + 1) (o := 1) (v := .int .i64 y2) (by simp); have c4 := H.get (b := gj) (o := 0) (v := .int .i64 J.1) (by simp); have c5 := H.get (b := gj) (o := 1) (v := .int .i64 J.2) (by simp); have c6 := H.get (b := gm) (o := 0) (v := .int .i64 M.1.1) (by simp); have c7 := H.get (b := gm) (o := 1) (v := .int .i64 M.1.2) (by simp); have c8 := H.get (b := gn) (o := 0) (v := .int .i64 M.1.1) (by simp); have c9 := H.get (b := gn) (o := 1) (v := .int .i64 M.1.2) (by simp); have l0 := H.lt (b := w1.heap.size) (o := 0) (v := .int .i64 x) (by simp); have l1 := H.lt (b := w1.heap.size + 1) (o := 0) (v := .int .i64 x2) (by simp); have l2 := H.lt (b := gj) (o := 0) (v := .int .i64 J.1) (by simp); have l3 := H.lt (b := gm) (o := 0) (v := .int .i64 M.1.1) (by simp); have l4 := H.lt (b := gn) (o := 0) (v := .int .i64 M.1.1) (by simp)) | (go_at_call 77; refine (iRestOk_xy _ _ _).mono ?_; rintro e w6 ⟨rfl, hb⟩; (first | rw [hmk hm2]); replace H := H.call hb; clear hb c0 c1 c2 c3 c4 c5 c6 c7 c8 c9 l0 l1 l2 l3 l4; have c0 := H.get (b := w1.heap.size) (o := 0) (v := .int .i64 x) (by simp); have c1 := H.get (b := w1.heap.size) (o := 1) (v := .int .i64 y) (by simp); have c2 := H.get (b := w1.heap.size + 1) (o := 0) (v := .int .i64 x2) (by simp); have c3 := H.get (b := w1.heap.size + 1) (o := 1) (v := .int .i64 y2) (by simp); have c4 := H.get (b := gj) (o := 0) (v := .int .i64 J.1) (by simp); have c5 := H.get (b := gj) (o := 1) (v := .int .i64 J.2) (by simp); have c6 := H.get (b := gm) (o := 0) (v := .int .i64 M.1.1) (by simp); have c7 := H.get (b := gm) (o := 1) (v := .int .i64 M.1.2) (by simp); have c8 := H.get (b := gn) (o := 0) (v := .int .i64 M.1.1) (by simp); have c9 := H.get (b := gn) (o := 1) (v := .int .i64 M.1.2) (by simp); have l0 := H.lt (b := w1.heap.size) (o := 0) (v := .int .i64 x) (by simp); have l1 := H.lt (b := w1.heap.size + 1) (o := 0) (v := .int .i64 x2) (by simp); have l2 := H.lt (b := gj) (o := 0) (v := .int .i64 J.1) (by simp); have l3 := H.lt (b := gm) (o := 0) (v := .int .i64 M.1.1) (by simp); have l4 := H.lt (b := gn) (o := 0) (v := .int .i64 M.1.1) (by simp)) | (go_at_call 76; refine (iRestIn_xy _ _ _ _ _ (Gv.below hN H.below)).mono ?_; rintro e w6 ⟨rfl, hb⟩; (first | rw [i1] | rw [i2]); replace H := H.call hb; clear hb c0 c1 c2 c3 c4 c5 c6 c7 c8 c9 l0 l1 l2 l3 l4; have c0 := H.get (b := w1.heap.size) (o := 0) (v := .int .i64 x) (by simp); have c1 := H.get (b := w1.heap.size) (o := 1) (v := .int .i64 y) (by simp); have c2 := H.get (b := w1.heap.size + 1) (o := 0) (v := .int .i64 x2) (by simp); have c3 := H.get (b := w1.heap.size + 1) (o := 1) (v := .int .i64 y2) (by simp); have c4 := H.get (b := gj) (o := 0) (v := .int .i64 J.1) (by simp); have c5 := H.get (b := gj) (o := 1) (v := .int .i64 J.2) (by simp); have c6 := H.get (b := gm) (o := 0) (v := .int .i64 M.1.1) (by simp); have c7 := H.get (b := gm) (o := 1) (v := .int .i64 M.1.2) (by simp); have c8 := H.get (b := gn) (o := 0) (v := .int .i64 M.1.1) (by simp); have c9 := H.get (b := gn) (o := 1) (v := .int .i64 M.1.2) (by simp); have l0 := H.lt (b := w1.heap.size) (o := 0) (v := .int .i64 x) (by simp); have l1 := H.lt (b := w1.heap.size + 1) (o := 0) (v := .int .i64 x2) (by simp); have l2 := H.lt (b := gj) (o := 0) (v := .int .i64 J.1) (by simp); have l3 := H.lt (b := gm) (o := 0) (v := .int .i64 M.1.1) (by simp); have l4 := H.lt (b := gn) (o := 0) (v := .int .i64 M.1.1) (by simp)))
    go_ret
    exact ⟨rfl, hup H.below⟩
  · cases k2 : qOk (x2, y2)
    · have e := hjbad (.inr k2)
      have e1 : J.1 = 1 := by rw [e]
      have e2 : J.2 = 0 := by rw [e]
      have e3 := hmbad (.inr k2)
      clear hjbad hmbad hi1 hi2 hmok hmhas e
      go_wp2_with (first | (go_at_call 75; refine (sRestOk_xy _ _ _).mono ?_; rintro e w6 ⟨rfl, hb⟩; (first | rw [k] | rw [k2]); replace H := H.call hb; clear hb c0 c1 c2 c3 c4 c5 c6 c7 c8 c9 l0 l1 l2 l3 l4; have c0 := H.get (b := w1.heap.size) (o := 0) (v := .int .i64 x) (by simp); have c1 := H.get (b := w1.heap.size) (o := 1) (v := .int .i64 y) (by simp); have c2 := H.get (b := w1.heap.size + 1) (o := 0) (v := .int .i64 x2) (by simp); have c3 := H.get (b := w1.heap.size + 1) (o := 1) (v := .int .i64 y2) (by simp); have c4 := H.get (b := gj) (o := 0) (v := .int .i64 J.1) (by simp); have c5 := H.get (b := gj) (o := 1) (v := .int .i64 J.2) (by simp); have c6 := H.get (b := gm) (o := 0) (v := .int .i64 M.1.1) (by simp); have c7 := H.get (b := gm) (o := 1) (v := .int .i64 M.1.2) (by simp); have c8 := H.get (b := gn) (o := 0) (v := .int .i64 M.1.1) (by simp); have c9 := H.get (b := gn) (o := 1) (v := .int .i64 M.1.2) (by simp); have l0 := H.lt (b := w1.heap.size) (o := 0) (v := .int .i64 x) (by simp); have l1 := H.lt (b := w1.heap.size + 1) (o := 0) (v := .int .i64 x2) (by simp); have l2 := H.lt (b := gj) (o := 0) (v := .int .i64 J.1) (by simp); have l3 := H.lt (b := gm) (o := 0) (v := .int .i64 M.1.1) (by simp); have l4 := H.lt (b := gn) (o := 0) (v := .int .i64 M.1.1) (by simp)) | (go_at_call 77; refine (iRestOk_xy _ _ _).mono ?_; rintro e w6 ⟨rfl, hb⟩; (first | rw [hmk hm2]); replace H := H.call hb; clear hb c0 c1 c2 c3 c4 c5 c6 c7 c8 c9 l0 l1 l2 l3 l4; have c0 := H.get (b := w1.heap.size) (o := 0) (v := .int .i64 x) (by simp); have c1 := H.get (b := w1.heap.size) (o := 1) (v := .int .i64 y) (by simp); have c2 := H.get (b := w1.heap.size + 1) (o := 0) (v := .int .i64 x2) (by simp); have c3 := H.get (b := w1.heap.size + 1) (o := 1) (v := .int .i64 y2) (by simp); have c4 := H.get (b := gj) (o := 0) (v := .int .i64 J.1) (by simp); have c5 := H.get (b := gj) (o := 1) (v := .int .i64 J.2) (by simp); have c6 := H.get (b := gm) (o := 0) (v := .int .i64 M.1.1) (by simp); have c7 := H.get (b := gm) (o := 1) (v := .int .i64 M.1.2) (by simp); have c8 := H.get (b := gn) (o := 0) (v := .int .i64 M.1.1) (by simp); have c9 := H.get (b := gn) (o := 1) (v := .int .i64 M.1.2) (by simp); have l0 := H.lt (b := w1.heap.size) (o := 0) (v := .int .i64 x) (by simp); have l1 := H.lt (b := w1.heap.size + 1) (o := 0) (v := .int .i64 x2) (by simp); have l2 := H.lt (b := gj) (o := 0) (v := .int .i64 J.1) (by simp); have l3 := H.lt (b := gm) (o := 0) (v := .int .i64 M.1.1) (by simp); have l4 := H.lt (b := gn) (o := 0) (v := .int .i64 M.1.1) (by simp)) | (go_at_call 76; refine (iRestIn_xy _ _ _ _ _ (Gv.below hN H.below)).mono ?_; rintro e w6 ⟨rfl, hb⟩; (first | rw [i1] | rw [i2]); replace H := H.call hb; clear hb c0 c1 c2 c3 c4 c5 c6 c7 c8 c9 l0 l1 l2 l3 l4; have c0 := H.get (b := w1.heap.size) (o := 0) (v := .int .i64 x) (by simp); have c1 := H.get (b := w1.heap.size) (o := 1) (v := .int .i64 y) (by simp); have c2 := H.get (b := w1.heap.size + 1) (o := 0) (v := .int .i64 x2) (by simp); have c3 := H.get (b := w1.heap.size + 1) (o := 1) (v := .int .i64 y2) (by simp); have c4 := H.get (b := gj) (o := 0) (v := .int .i64 J.1) (by simp); have c5 := H.get (b := gj) (o := 1) (v := .int .i64 J.2) (by simp); have c6 := H.get (b := gm) (o := 0) (v := .int .i64 M.1.1) (by simp); have c7 := H.get (b := gm) (o := 1) (v := .int .i64 M.1.2) (by simp); have c8 := H.get (b := gn) (o := 0) (v := .int .i64 M.1.1) (by simp); have c9 := H.get (b := gn) (o := 1) (v := .int .i64 M.1.2) (by simp); have l0 := H.lt (b := w1.heap.size) (o := 0) (v := .int .i64 x) (by simp); have l1 := H.lt (b := w1.heap.size + 1) (o := 0) (v := .int .i64 x2) (by simp); have l2 := H.lt (b := gj) (o := 0) (v := .int .i64 J.1) (by simp); have l3 := H.lt (b := gm) (o := 0) (v := .int .i64 M.1.1) (by simp); have l4 := H.lt (b := gn) (o := 0) (v := .int .i64 M.1.1) (by simp)))
      go_ret
      exact ⟨rfl, hup H.below⟩
    · have i1 : in9 (x, y) (J.1, J.2) = true := hi1 k k2
      have i2 : in9 (x2, y2) (J.1, J.2) = true := hi2 k k2
      have hjh : ∀ v, qHas (x, y) v = true → qHas (J.1, J.2) v = true := fun v hv => in9_has i1 hv
      have hmk : M.2 = true → qOk (M.1.1, M.1.2) = true := hmok
      have hmh : ∀ v, qHas (x, y) v = true → qHas (x2, y2) v = true → M.2 = true ∧ qHas (M.1.1, M.1.2) v = true := hmhas
      clear hjbad hmbad hi1 hi2 hmok hmhas
      cases hm2 : M.2
      all_goals
        go_wp2_with (first | (go_at_call 75; refine (sRestOk_xy _ _ _).mono ?_; rintro e w6 ⟨rfl, hb⟩; (first | rw [k] | rw [k2]); replace H := H.call hb; clear hb c0 c1 c2 c3 c4 c5 c6 c7 c8 c9 l0 l1 l2 l3 l4; have c0 := H.get (b := w1.heap.size) (o := 0) (v := .int .i64 x) (by simp); have c1 := H.get (b := w1.heap.size) (o := 1) (v := .int .i64 y) (by simp); have c2 := H.get (b := w1.heap.size + 1) (o := 0) (v := .int .i64 x2) (by simp); have c3 := H.get (b := w1.heap.size + 1) (o := 1) (v := .int .i64 y2) (by simp); have c4 := H.get (b := gj) (o := 0) (v := .int .i64 J.1) (by simp); have c5 := H.get (b := gj) (o := 1) (v := .int .i64 J.2) (by simp); have c6 := H.get (b := gm) (o := 0) (v := .int .i64 M.1.1) (by simp); have c7 := H.get (b := gm) (o := 1) (v := .int .i64 M.1.2) (by simp); have c8 := H.get (b := gn) (o := 0) (v := .int .i64 M.1.1) (by simp); have c9 := H.get (b := gn) (o := 1) (v := .int .i64 M.1.2) (by simp); have l0 := H.lt (b := w1.heap.size) (o := 0) (v := .int .i64 x) (by simp); have l1 := H.lt (b := w1.heap.size + 1) (o := 0) (v := .int .i64 x2) (by simp); have l2 := H.lt (b := gj) (o := 0) (v := .int .i64 J.1) (by simp); have l3 := H.lt (b := gm) (o := 0) (v := .int .i64 M.1.1) (by simp); have l4 := H.lt (b := gn) (o := 0) (v := .int .i64 M.1.1) (by simp)) | (go_at_call 77; refine (iRestOk_xy _ _ _).mono ?_; rintro e w6 ⟨rfl, hb⟩; (first | rw [hmk hm2]); replace H := H.call hb; clear hb c0 c1 c2 c3 c4 c5 c6 c7 c8 c9 l0 l1 l2 l3 l4; have c0 := H.get (b := w1.heap.size) (o := 0) (v := .int .i64 x) (by simp); have c1 := H.get (b := w1.heap.size) (o := 1) (v := .int .i64 y) (by simp); have c2 := H.get (b := w1.heap.size + 1) (o := 0) (v := .int .i64 x2) (by simp); have c3 := H.get (b := w1.heap.size + 1) (o := 1) (v := .int .i64 y2) (by simp); have c4 := H.get (b := gj) (o := 0) (v := .int .i64 J.1) (by simp); have c5 := H.get (b := gj) (o := 1) (v := .int .i64 J.2) (by simp); have c6 := H.get (b := gm) (o := 0) (v := .int .i64 M.1.1) (by simp); have c7 := H.get (b := gm) (o := 1) (v := .int .i64 M.1.2) (by simp); have c8 := H.get (b := gn) (o := 0) (v := .int .i64 M.1.1) (by simp); have c9 := H.get (b := gn) (o := 1) (v := .int .i64 M.1.2) (by simp); have l0 := H.lt (b := w1.heap.size) (o := 0) (v := .int .i64 x) (by simp); have l1 := H.lt (b := w1.heap.size + 1) (o := 0) (v := .int .i64 x2) (by simp); have l2 := H.lt (b := gj) (o := 0) (v := .int .i64 J.1) (by simp); have l3 := H.lt (b := gm) (o := 0) (v := .int .i64 M.1.1) (by simp); have l4 := H.lt (b := gn) (o := 0) (v := .int .i64 M.1.1) (by simp)) | (go_at_call 76; refine (iRestIn_xy _ _ _ _ _ (Gv.below hN H.below)).mono ?_; rintro e w6 ⟨rfl, hb⟩; (first | rw [i1] | rw [i2]); replace H := H.call hb; clear hb c0 c1 c2 c3 c4 c5 c6 c7 c8 c9 l0 l1 l2 l3 l4; have c0 := H.get (b := w1.heap.size) (o := 0) (v := .int .i64 x) (by simp); have c1 := H.get (b := w1.heap.size) (o := 1) (v := .int .i64 y) (by simp); have c2 := H.get (b := w1.heap.size + 1) (o := 0) (v := .int .i64 x2) (by simp); have c3 := H.get (b := w1.heap.size + 1) (o := 1) (v := .int .i64 y2) (by simp); have c4 := H.get (b := gj) (o := 0) (v := .int .i64 J.1) (by simp); have c5 := H.get (b := gj) (o := 1) (v := .int .i64 J.2) (by simp); have c6 := H.get (b := gm) (o := 0) (v := .int .i64 M.1.1) (by simp); have c7 := H.get (b := gm) (o := 1) (v := .int .i64 M.1.2) (by simp); have c8 := H.get (b := gn) (o := 0) (v := .int .i64 M.1.1) (by simp); have c9 := H.get (b := gn) (o := 1) (v := .int .i64 M.1.2) (by simp); have l0 := H.lt (b := w1.heap.size) (o := 0) (v := .int .i64 x) (by simp); have l1 := H.lt (b := w1.heap.size + 1) (o := 0) (v := .int .i64 x2) (by simp); have l2 := H.lt (b := gj) (o := 0) (v := .int .i64 J.1) (by simp); have l3 := H.lt (b := gm) (o := 0) (v := .int .i64 M.1.1) (by simp); have l4 := H.lt (b := gn) (o := 0) (v := .int .i64 M.1.1) (by simp)))
        have H1 := H.weak (L' := [(w1.heap.size, 0, .int .i64 x), (w1.heap.size, 1, .int .i64 y), (w1.heap.size + 1, 0, .int .i64 x2), (w1.heap.size + 1, 1, .int .i64 y2), (gj, 0, .int .i64 J.1), (gj, 1, .int .i64 J.2), (gm, 0, .int .i64 M.1.1), (gm, 1, .int .i64 M.1.2), (gn, 0, .int .i64 M.1.1), (gn, 1, .int .i64 M.1.2)]) (by simp)
        clear H c0 c1 c2 c3 c4 c5 c6 c7 c8 c9 l0 l1 l2 l3 l4 i1 i2
        go_loopw [10, 11] (fun kk p wr => ∃ j : Nat, kk = .int .i64 j ∧ j ≤ 8 ∧ Hd w1 [(w1.heap.size, 0, .int .i64 x), (w1.heap.size, 1, .int .i64 y), (w1.heap.size + 1, 0, .int .i64 x2), (w1.heap.size + 1, 1, .int .i64 y2), (gj, 0, .int .i64 J.1), (gj, 1, .int .i64 J.2), (gm, 0, .int .i64 M.1.1), (gm, 1, .int .i64 M.1.2), (gn, 0, .int .i64 M.1.1), (gn, 1, .int .i64 M.1.2)] wr) (fun kk _ _ => 8 - (intOf kk).toNat)
        case atStart => exact ⟨0, rfl, by omega, H1⟩
        case round =>
          clear H1
          obtain ⟨j, rfl, hj8, H⟩ := hrel
          have c0 := H.get (b := w1.heap.size) (o := 0) (v := .int .i64 x) (by simp)
          have c1 := H.get (b := w1.heap.size) (o := 1) (v := .int .i64 y) (by simp)
          have c2 := H.get (b := w1.heap.size + 1) (o := 0) (v := .int .i64 x2) (by simp)
          have c3 := H.get (b := w1.heap.size + 1) (o := 1) (v := .int .i64 y2) (by simp)
          have c4 := H.get (b := gj) (o := 0) (v := .int .i64 J.1) (by simp)
          have c5 := H.get (b := gj) (o := 1) (v := .int .i64 J.2) (by simp)
          have c6 := H.get (b := gm) (o := 0) (v := .int .i64 M.1.1) (by simp)
          have c7 := H.get (b := gm) (o := 1) (v := .int .i64 M.1.2) (by simp)
          have c8 := H.get (b := gn) (o := 0) (v := .int .i64 M.1.1) (by simp)
          have c9 := H.get (b := gn) (o := 1) (v := .int .i64 M.1.2) (by simp)
          have l0 := H.lt (b := w1.heap.size) (o := 0) (v := .int .i64 x) (by simp)
          have l1 := H.lt (b := w1.heap.size + 1) (o := 0) (v := .int .i64 x2) (by simp)
          have l2 := H.lt (b := gj) (o := 0) (v := .int .i64 J.1) (by simp)
          have l3 := H.lt (b := gm) (o := 0) (v := .int .i64 M.1.1) (by simp)
          have l4 := H.lt (b := gn) (o := 0) (v := .int .i64 M.1.1) (by simp)
          by_cases hlt : j < 8
          · go_wp2_with (first | (go_at_call 27; refine (ofRest_any _ _ _ _ _ _ _ ((unhide hCC).below H.below) hlen (by omega) (by omega)).mono ?_; rintro e w7 ⟨⟨u, rfl⟩, hb⟩; replace H := H.call hb; clear hb c0 c1 c2 c3 c4 c5 c6 c7 c8 c9 l0 l1 l2 l3 l4; have c0 := H.get (b := w1.heap.size) (o := 0) (v := .int .i64 x) (by simp); have c1 := H.get (b := w1.heap.size) (o := 1) (v := .int .i64 y) (by simp); have c2 := H.get (b := w1.heap.size + 1) (o := 0) (v := .int .i64 x2) (by simp); have c3 := H.get (b := w1.heap.size + 1) (o := 1) (v := .int .i64 y2) (by simp); have c4 := H.get (b := gj) (o := 0) (v := .int .i64 J.1) (by simp); have c5 := H.get (b := gj) (o := 1) (v := .int .i64 J.2) (by simp); have c6 := H.get (b := gm) (o := 0) (v := .int .i64 M.1.1) (by simp); have c7 := H.get (b := gm) (o := 1) (v := .int .i64 M.1.2) (by simp); have c8 := H.get (b := gn) (o := 0) (v := .int .i64 M.1.1) (by simp); have c9 := H.get (b := gn) (o := 1) (v := .int .i64 M.1.2) (by simp); have l0 := H.lt (b := w1.heap.size) (o := 0) (v := .int .i64 x) (by simp); have l1 := H.lt (b := w1.heap.size + 1) (o := 0) (v := .int .i64 x2) (by simp); have l2 := H.lt (b := gj) (o := 0) (v := .int .i64 J.1) (by simp); have l3 := H.lt (b := gm) (o := 0) (v := .int .i64 M.1.1) (by simp); have l4 := H.lt (b := gn) (o := 0) (v := .int .i64 M.1.1) (by simp)) | (go_at_call 29; refine (sRestHas_xy _ _ _ _).mono ?_; rintro e w9 ⟨rfl, hb⟩; replace H := H.call hb; clear hb c0 c1 c2 c3 c4 c5 c6 c7 c8 c9 l0 l1 l2 l3 l4; have c0 := H.get (b := w1.heap.size) (o := 0) (v := .int .i64 x) (by simp); have c1 := H.get (b := w1.heap.size) (o := 1) (v := .int .i64 y) (by simp); have c2 := H.get (b := w1.heap.size + 1) (o := 0) (v := .int .i64 x2) (by simp); have c3 := H.get (b := w1.heap.size + 1) (o := 1) (v := .int .i64 y2) (by simp); have c4 := H.get (b := gj) (o := 0) (v := .int .i64 J.1) (by simp); have c5 := H.get (b := gj) (o := 1) (v := .int .i64 J.2) (by simp); have c6 := H.get (b := gm) (o := 0) (v := .int .i64 M.1.1) (by simp); have c7 := H.get (b := gm) (o := 1) (v := .int .i64 M.1.2) (by simp); have c8 := H.get (b := gn) (o := 0) (v := .int .i64 M.1.1) (by simp); have c9 := H.get (b := gn) (o := 1) (v := .int .i64 M.1.2) (by simp); have l0 := H.lt (b := w1.heap.size) (o := 0) (v := .int .i64 x) (by simp); have l1 := H.lt (b := w1.heap.size + 1) (o := 0) (v := .int .i64 x2) (by simp); have l2 := H.lt (b := gj) (o := 0) (v := .int .i64 J.1) (by simp); have l3 := H.lt (b := gm) (o := 0) (v := .int .i64 M.1.1) (by simp); have l4 := H.lt (b := gn) (o := 0) (v := .int .i64 M.1.1) (by simp)) | (go_at_call 78; refine (iRestHas_xy _ _ _ _).mono ?_; rintro e w9 ⟨rfl, hb⟩; (first | rw [hjh _ (by assumption)] | rw [(hmh _ (by assumption) (by assumption)).2]); replace H := H.call hb; clear hb c0 c1 c2 c3 c4 c5 c6 c7 c8 c9 l0 l1 l2 l3 l4; have c0 := H.get (b := w1.heap.size) (o := 0) (v := .int .i64 x) (by simp); have c1 := H.get (b := w1.heap.size) (o := 1) (v := .int .i64 y) (by simp); have c2 := H.get (b := w1.heap.size + 1) (o := 0) (v := .int .i64 x2) (by simp); have c3 := H.get (b := w1.heap.size + 1) (o := 1) (v := .int .i64 y2) (by simp); have c4 := H.get (b := gj) (o := 0) (v := .int .i64 J.1) (by simp); have c5 := H.get (b := gj) (o := 1) (v := .int .i64 J.2) (by simp); have c6 := H.get (b := gm) (o := 0) (v := .int .i64 M.1.1) (by simp); have c7 := H.get (b := gm) (o := 1) (v := .int .i64 M.1.2) (by simp); have c8 := H.get (b := gn) (o := 0) (v := .int .i64 M.1.1) (by simp); have c9 := H.get (b := gn) (o := 1) (v := .int .i64 M.1.2) (by simp); have l0 := H.lt (b := w1.heap.size) (o := 0) (v := .int .i64 x) (by simp); have l1 := H.lt (b := w1.heap.size + 1) (o := 0) (v := .int .i64 x2) (by simp); have l2 := H.lt (b := gj) (o := 0) (v := .int .i64 J.1) (by simp); have l3 := H.lt (b := gm) (o := 0) (v := .int .i64 M.1.1) (by simp); have l4 := H.lt (b := gn) (o := 0) (v := .int .i64 M.1.1) (by simp)))
            all_goals first
              | exact ⟨⟨j + 1, by go_num, by omega, H.weak (by simp)⟩, by simp [intOf]; omega⟩
              | (exfalso; have := (hmh _ (by assumption) (by assumption)).1; rw [hm2] at this; cases this)
          · obtain rfl : j = 8 := by omega
            go_wp2_with fail
            go_ret
            exact ⟨rfl, hup H.below⟩
end Go.Proofs.YthbbgkpkijlclaaDoor.fnRestLattice
