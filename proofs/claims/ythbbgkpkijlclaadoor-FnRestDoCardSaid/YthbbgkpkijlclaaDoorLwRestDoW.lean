/-
  For every code the law FnRestDo returns true and writes nothing that was there; its package variables as the program's text lays them.
-/
import Derived.Test.YthbbgkpkijlclaaDoorYY
import Derived.Test.YthbbgkpkijlclaaDoorXX
import Derived.Test.YthbbgkpkijlclaaDoorVV
import Derived.SevenTiedAt
import Derived.Stop.LaidErr
import Derived.ShutString
import Derived.ChangeOld
import Derived.Below
namespace Go.Proofs.YthbbgkpkijlclaaDoor.fnRestDo
open Go.ChangeShapes Go.WideShapes Go.ChangeAt Go.RowKit Go.Proofs.YthbbgkpkijlclaaDoor.num
set_option linter.unusedVariables false

/-- The variables that the row lists. -/
abbrev laid : List (String × DataW Unit) := Rows.fnRestDoRow.laid
/-- The door's own heap meets the condition. -/
theorem door_met (os : Os) (args : Array Value) : laidMetH Tryd.prog laid ((World.doorLaid Tryd.prog 400 os).forCall (fun _ _ => 0) ⟨#[], args, []⟩).memory :=
  laidMetH_of_parts3 (fuel := 8) (laidMet_of_run' 8 (by kernel_rfl) (by kernel_rfl)) (by kernel_rfl) (by kernel_rfl)
theorem laid_of {W : World} (h : laidMetH Tryd.prog laid W) : Gv W 2 (1, 0) ∧ Gv W 4 (0, 31) := by
  rw [MakeChecks.laidMetH_plain _ _ _ (by kernel_rfl)] at h
  exact ⟨gv_of_headQ (by kernel_rfl) (by kernel_rfl) (laidMet.tail h), gv_of_head (by kernel_rfl) (by kernel_rfl) h⟩
set_option maxRecDepth 100000 in
set_option maxHeartbeats 4000000 in
theorem walk (a0 : Option Addr) (len0 cap0 : Nat) (z0 : List Int) (w : World) (w0 : IsRow .u8 w a0 len0 cap0 z0) (h : Gq w) (hS : Gv w 4 (0, 31)) :
    Calls Tryd.prog 20 #[.slice a0 len0 cap0] w fun e w' => e = .returned (.bool true) ∧ Below w.heap.size w w' := by
  obtain ⟨hc, hl, hm⟩ := code_of_row w0
  have HC := hide hc
  clear hc w0
  by_cases hlen : 1048576 < len0
  · go_enter Tryd.func20, Tryd.ntmps20
    go_wp2
    go_ret
    exact ⟨rfl, Below.refl _ _⟩
  replace hlen : len0 ≤ 1048576 := by omega
  go_enter Tryd.func20, Tryd.ntmps20
  go_wp2_with fail
  refine (drawRestDo_any _ _ _ _ (unhide HC) hl hm).mono ?_
  rintro e w1 ⟨⟨op, x, y, x2, y2, rfl⟩, hb⟩
  have hN : Gq w1 := Gv.below h hb
  have hS1 := Gv.below hS hb
  have hCC := hide ((unhide HC).below hb)
  obtain ⟨W, hW, H⟩ := Hd.two w1 (.int .i64 x) (.int .i64 y) (.int .i64 x2) (.int .i64 y2) 26 26
  have hup : ∀ {w'}, Below w1.heap.size w1 w' → Below w.heap.size w w' := fun k => below_up hb hb.size k
  clear hb HC h hS
  have ca0 := H.get (b := w1.heap.size) (o := 0) (v := .int .i64 x) (by simp)
  have ca1 := H.get (b := w1.heap.size) (o := 1) (v := .int .i64 y) (by simp)
  have cal := H.lt (b := w1.heap.size) (o := 0) (v := .int .i64 x) (by simp)
  have cb0 := H.get (b := w1.heap.size + 1) (o := 0) (v := .int .i64 x2) (by simp)
  have cb1 := H.get (b := w1.heap.size + 1) (o := 1) (v := .int .i64 y2) (by simp)
  have cbl := H.lt (b := w1.heap.size + 1) (o := 0) (v := .int .i64 x2) (by simp)
  have HI := fun (w : World) (h : Gq w) (hs : Gv w 4 (0, 31)) => iDo_xy op x y x2 y2 w h hs
  have HS := fun (w : World) => sDo_xy op x y x2 y2 w
  have hok := do9_ok op (x, y) (x2, y2)
  have hhas : ∀ u v, inB op 1 13 = true → qHas (x, y) u = true → qHas (x2, y2) v = true → (numDo op u v).2 = 0 → qHas (do9 op (x, y) (x2, y2)) (numDo op u v).1 = true := fun u v h1 h2 h3 h4 => do9_has h1 h2 h3 h4
  have hbad : (qOk (x, y) = false ∨ qOk (x2, y2) = false) → do9 op (x, y) (x2, y2) = (1, 0) := fun k => by
    unfold do9
    rw [if_pos (.inr k)]
    rfl
  generalize hD : do9 op (x, y) (x2, y2) = D at *
  go_wp2_with fail
  rw [← hW]
  clear hW
  go_wp2_with (go_at_call 80; refine (HI _ (Gv.below hN H.below) (Gv.below hS1 H.below)).mono ?_; rintro e w2 ⟨rfl, hb⟩; replace H := H.call hb; clear hb; have ca0 := H.get (b := w1.heap.size) (o := 0) (v := .int .i64 x) (by simp); have ca1 := H.get (b := w1.heap.size) (o := 1) (v := .int .i64 y) (by simp); have cal := H.lt (b := w1.heap.size) (o := 0) (v := .int .i64 x) (by simp); have cb0 := H.get (b := w1.heap.size + 1) (o := 0) (v := .int .i64 x2) (by simp); have cb1 := H.get (b := w1.heap.size + 1) (o := 1) (v := .int .i64 y2) (by simp); have cbl := H.lt (b := w1.heap.size + 1) (o := 0) (v := .int .i64 x2) (by simp))
  replace hok : qOk (D.1, D.2) = true := hok
  replace hhas : ∀ u v, inB op 1 13 = true → qHas (x, y) u = true → qHas (x2, y2) v = true → (numDo op u v).2 = 0 → qHas (D.1, D.2) (numDo op u v).1 = true := hhas
  replace H := H.box (.int .i64 D.1) (.int .i64 D.2) 26
  generalize w2.alloc (.cells #[.int .i64 D.1, .int .i64 D.2] 26) = W4 at H ⊢
  generalize w2.heap.size = gx at H ⊢
  clear cal cbl ca0 ca1 cb0 cb1
  have k0 := fun p : Over W4 => H.over (b := w1.heap.size) (o := 0) (v := .int .i64 x) (by simp) p
  have k1 := fun p : Over W4 => H.over (b := w1.heap.size) (o := 1) (v := .int .i64 y) (by simp) p
  have k2 := fun p : Over W4 => H.over (b := w1.heap.size + 1) (o := 0) (v := .int .i64 x2) (by simp) p
  have k3 := fun p : Over W4 => H.over (b := w1.heap.size + 1) (o := 1) (v := .int .i64 y2) (by simp) p
  have k4 := fun p : Over W4 => H.over (b := gx) (o := 0) (v := .int .i64 D.1) (by simp) p
  have k5 := fun p : Over W4 => H.over (b := gx) (o := 1) (v := .int .i64 D.2) (by simp) p
  refine wp_region_over (by kernel_rfl) (by kernel_rfl) ?_
  repeat (go_big_quiet_step (first | (go_at_call 81; rename_i p; refine (HS _).mono ?_; rintro e' w' ⟨rfl, hb1⟩; exact ⟨rfl, p.next hb1⟩) | (go_at_call 77; rename_i p; refine (iRestOk_xy _ _ _).mono ?_; rintro e' w' ⟨rfl, hb1⟩; exact ⟨by rw [hok], p.next hb1⟩)))
  refine wpQuiet_nil ?_
  rintro _ ⟨p, rfl⟩
  replace H := H.call p.below
  clear k0 k1 k2 k3 k4 k5
  obtain ⟨W5, hW5⟩ : ∃ W5, W5 = p.w := ⟨_, rfl⟩
  rw [← hW5] at H ⊢
  clear hW5 p W4 HI HS
  have c0 := H.get (b := w1.heap.size) (o := 0) (v := .int .i64 x) (by simp)
  have c1 := H.get (b := w1.heap.size) (o := 1) (v := .int .i64 y) (by simp)
  have c2 := H.get (b := w1.heap.size + 1) (o := 0) (v := .int .i64 x2) (by simp)
  have c3 := H.get (b := w1.heap.size + 1) (o := 1) (v := .int .i64 y2) (by simp)
  have c4 := H.get (b := gx) (o := 0) (v := .int .i64 D.1) (by simp)
  have c5 := H.get (b := gx) (o := 1) (v := .int .i64 D.2) (by simp)
  have l0 := H.lt (b := w1.heap.size) (o := 0) (v := .int .i64 x) (by simp)
  have l1 := H.lt (b := w1.heap.size + 1) (o := 0) (v := .int .i64 x2) (by simp)
  have l2 := H.lt (b := gx) (o := 0) (v := .int .i64 D.1) (by simp)
  cases k : qOk (x, y)
  · have e := hbad (.inl k)
    have e1 : D.1 = 1 := by rw [e]
    have e2 : D.2 = 0 := by rw [e]
    clear hbad hhas hok hD e
    go_wp2_with (first | (go_at_call 77; refine (iRestOk_xy _ _ _).mono ?_; rintro e w6 ⟨rfl, hb⟩; (first | rw [hok] | skip); replace H := H.call hb; clear hb c0 c1 c2 c3 c4 c5 l0 l1 l2; have c0 := H.get (b := w1.heap.size) (o := 0) (v := .int .i64 x) (by simp); have c1 := H.get (b := w1.heap.size) (o := 1) (v := .int .i64 y) (by simp); have c2 := H.get (b := w1.heap.size + 1) (o := 0) (v := .int .i64 x2) (by simp); have c3 := H.get (b := w1.heap.size + 1) (o := 1) (v := .int .i64 y2) (by simp); have c4 := H.get (b := gx) (o := 0) (v := .int .i64 D.1) (by simp); have c5 := H.get (b := gx) (o := 1) (v := .int .i64 D.2) (by simp); have l0 := H.lt (b := w1.heap.size) (o := 0) (v := .int .i64 x) (by simp); have l1 := H.lt (b := w1.heap.size + 1) (o := 0) (v := .int .i64 x2) (by simp); have l2 := H.lt (b := gx) (o := 0) (v := .int .i64 D.1) (by simp)) | (go_at_call 75; refine (sRestOk_xy _ _ _).mono ?_; rintro e w6 ⟨rfl, hb⟩; (first | rw [k] | rw [k2]); replace H := H.call hb; clear hb c0 c1 c2 c3 c4 c5 l0 l1 l2; have c0 := H.get (b := w1.heap.size) (o := 0) (v := .int .i64 x) (by simp); have c1 := H.get (b := w1.heap.size) (o := 1) (v := .int .i64 y) (by simp); have c2 := H.get (b := w1.heap.size + 1) (o := 0) (v := .int .i64 x2) (by simp); have c3 := H.get (b := w1.heap.size + 1) (o := 1) (v := .int .i64 y2) (by simp); have c4 := H.get (b := gx) (o := 0) (v := .int .i64 D.1) (by simp); have c5 := H.get (b := gx) (o := 1) (v := .int .i64 D.2) (by simp); have l0 := H.lt (b := w1.heap.size) (o := 0) (v := .int .i64 x) (by simp); have l1 := H.lt (b := w1.heap.size + 1) (o := 0) (v := .int .i64 x2) (by simp); have l2 := H.lt (b := gx) (o := 0) (v := .int .i64 D.1) (by simp)))
    go_ret
    exact ⟨rfl, hup H.below⟩
  · cases k2 : qOk (x2, y2)
    · have e := hbad (.inr k2)
      have e1 : D.1 = 1 := by rw [e]
      have e2 : D.2 = 0 := by rw [e]
      clear hbad hhas hok hD e
      go_wp2_with (first | (go_at_call 77; refine (iRestOk_xy _ _ _).mono ?_; rintro e w6 ⟨rfl, hb⟩; (first | rw [hok] | skip); replace H := H.call hb; clear hb c0 c1 c2 c3 c4 c5 l0 l1 l2; have c0 := H.get (b := w1.heap.size) (o := 0) (v := .int .i64 x) (by simp); have c1 := H.get (b := w1.heap.size) (o := 1) (v := .int .i64 y) (by simp); have c2 := H.get (b := w1.heap.size + 1) (o := 0) (v := .int .i64 x2) (by simp); have c3 := H.get (b := w1.heap.size + 1) (o := 1) (v := .int .i64 y2) (by simp); have c4 := H.get (b := gx) (o := 0) (v := .int .i64 D.1) (by simp); have c5 := H.get (b := gx) (o := 1) (v := .int .i64 D.2) (by simp); have l0 := H.lt (b := w1.heap.size) (o := 0) (v := .int .i64 x) (by simp); have l1 := H.lt (b := w1.heap.size + 1) (o := 0) (v := .int .i64 x2) (by simp); have l2 := H.lt (b := gx) (o := 0) (v := .int .i64 D.1) (by simp)) | (go_at_call 75; refine (sRestOk_xy _ _ _).mono ?_; rintro e w6 ⟨rfl, hb⟩; (first | rw [k] | rw [k2]); replace H := H.call hb; clear hb c0 c1 c2 c3 c4 c5 l0 l1 l2; have c0 := H.get (b := w1.heap.size) (o := 0) (v := .int .i64 x) (by simp); have c1 := H.get (b := w1.heap.size) (o := 1) (v := .int .i64 y) (by simp); have c2 := H.get (b := w1.heap.size + 1) (o := 0) (v := .int .i64 x2) (by simp); have c3 := H.get (b := w1.heap.size + 1) (o := 1) (v := .int .i64 y2) (by simp); have c4 := H.get (b := gx) (o := 0) (v := .int .i64 D.1) (by simp); have c5 := H.get (b := gx) (o := 1) (v := .int .i64 D.2) (by simp); have l0 := H.lt (b := w1.heap.size) (o := 0) (v := .int .i64 x) (by simp); have l1 := H.lt (b := w1.heap.size + 1) (o := 0) (v := .int .i64 x2) (by simp); have l2 := H.lt (b := gx) (o := 0) (v := .int .i64 D.1) (by simp)))
      go_ret
      exact ⟨rfl, hup H.below⟩
    · clear hbad hD
      go_wp2_with (first | (go_at_call 77; refine (iRestOk_xy _ _ _).mono ?_; rintro e w6 ⟨rfl, hb⟩; (first | rw [hok] | skip); replace H := H.call hb; clear hb c0 c1 c2 c3 c4 c5 l0 l1 l2; have c0 := H.get (b := w1.heap.size) (o := 0) (v := .int .i64 x) (by simp); have c1 := H.get (b := w1.heap.size) (o := 1) (v := .int .i64 y) (by simp); have c2 := H.get (b := w1.heap.size + 1) (o := 0) (v := .int .i64 x2) (by simp); have c3 := H.get (b := w1.heap.size + 1) (o := 1) (v := .int .i64 y2) (by simp); have c4 := H.get (b := gx) (o := 0) (v := .int .i64 D.1) (by simp); have c5 := H.get (b := gx) (o := 1) (v := .int .i64 D.2) (by simp); have l0 := H.lt (b := w1.heap.size) (o := 0) (v := .int .i64 x) (by simp); have l1 := H.lt (b := w1.heap.size + 1) (o := 0) (v := .int .i64 x2) (by simp); have l2 := H.lt (b := gx) (o := 0) (v := .int .i64 D.1) (by simp)) | (go_at_call 75; refine (sRestOk_xy _ _ _).mono ?_; rintro e w6 ⟨rfl, hb⟩; (first | rw [k] | rw [k2]); replace H := H.call hb; clear hb c0 c1 c2 c3 c4 c5 l0 l1 l2; have c0 := H.get (b := w1.heap.size) (o := 0) (v := .int .i64 x) (by simp); have c1 := H.get (b := w1.heap.size) (o := 1) (v := .int .i64 y) (by simp); have c2 := H.get (b := w1.heap.size + 1) (o := 0) (v := .int .i64 x2) (by simp); have c3 := H.get (b := w1.heap.size + 1) (o := 1) (v := .int .i64 y2) (by simp); have c4 := H.get (b := gx) (o := 0) (v := .int .i64 D.1) (by simp); have c5 := H.get (b := gx) (o := 1) (v := .int .i64 D.2) (by simp); have l0 := H.lt (b := w1.heap.size) (o := 0) (v := .int .i64 x) (by simp); have l1 := H.lt (b := w1.heap.size + 1) (o := 0) (v := .int .i64 x2) (by simp); have l2 := H.lt (b := gx) (o := 0) (v := .int .i64 D.1) (by simp)))
      have H1 := H.weak (L' := [(w1.heap.size, 0, .int .i64 x), (w1.heap.size, 1, .int .i64 y), (w1.heap.size + 1, 0, .int .i64 x2), (w1.heap.size + 1, 1, .int .i64 y2), (gx, 0, .int .i64 D.1), (gx, 1, .int .i64 D.2)]) (by simp)
      clear H c0 c1 c2 c3 c4 c5 l0 l1 l2
      go_loopw [7, 8, 9, 10, 11] (fun kk p q r s wr => ∃ j : Nat, kk = .int .i64 j ∧ j ≤ 8 ∧ Hd w1 [(w1.heap.size, 0, .int .i64 x), (w1.heap.size, 1, .int .i64 y), (w1.heap.size + 1, 0, .int .i64 x2), (w1.heap.size + 1, 1, .int .i64 y2), (gx, 0, .int .i64 D.1), (gx, 1, .int .i64 D.2)] wr) (fun kk _ _ _ _ _ => 8 - (intOf kk).toNat)
      case atStart => exact ⟨0, rfl, by omega, H1⟩
      case round =>
        clear H1
        obtain ⟨j, rfl, hj8, H⟩ := hrel
        have c0 := H.get (b := w1.heap.size) (o := 0) (v := .int .i64 x) (by simp)
        have c1 := H.get (b := w1.heap.size) (o := 1) (v := .int .i64 y) (by simp)
        have c2 := H.get (b := w1.heap.size + 1) (o := 0) (v := .int .i64 x2) (by simp)
        have c3 := H.get (b := w1.heap.size + 1) (o := 1) (v := .int .i64 y2) (by simp)
        have c4 := H.get (b := gx) (o := 0) (v := .int .i64 D.1) (by simp)
        have c5 := H.get (b := gx) (o := 1) (v := .int .i64 D.2) (by simp)
        have l0 := H.lt (b := w1.heap.size) (o := 0) (v := .int .i64 x) (by simp)
        have l1 := H.lt (b := w1.heap.size + 1) (o := 0) (v := .int .i64 x2) (by simp)
        have l2 := H.lt (b := gx) (o := 0) (v := .int .i64 D.1) (by simp)
        by_cases hlt : j < 8
        · have e13 : IntKind.i64.wrap ((j : Int) + 13) = (j : Int) + 13 := IntWalk.i64_in _ ⟨by omega, by omega⟩
          go_wp2_with (first | (go_at_call 27; refine (ofRest_any _ _ _ _ _ _ _ ((unhide hCC).below H.below) hlen (by omega) (by omega)).mono ?_; rintro e w7 ⟨⟨u, rfl⟩, hb⟩; replace H := H.call hb; clear hb c0 c1 c2 c3 c4 c5 l0 l1 l2; have c0 := H.get (b := w1.heap.size) (o := 0) (v := .int .i64 x) (by simp); have c1 := H.get (b := w1.heap.size) (o := 1) (v := .int .i64 y) (by simp); have c2 := H.get (b := w1.heap.size + 1) (o := 0) (v := .int .i64 x2) (by simp); have c3 := H.get (b := w1.heap.size + 1) (o := 1) (v := .int .i64 y2) (by simp); have c4 := H.get (b := gx) (o := 0) (v := .int .i64 D.1) (by simp); have c5 := H.get (b := gx) (o := 1) (v := .int .i64 D.2) (by simp); have l0 := H.lt (b := w1.heap.size) (o := 0) (v := .int .i64 x) (by simp); have l1 := H.lt (b := w1.heap.size + 1) (o := 0) (v := .int .i64 x2) (by simp); have l2 := H.lt (b := gx) (o := 0) (v := .int .i64 D.1) (by simp)) | (go_at_call 65; refine (specDo_any _ _ _ _).mono ?_; rintro e w8 ⟨rfl, rfl⟩) | (go_at_call 29; refine (sRestHas_xy _ _ _ _).mono ?_; rintro e w9 ⟨rfl, hb⟩; replace H := H.call hb; clear hb c0 c1 c2 c3 c4 c5 l0 l1 l2; have c0 := H.get (b := w1.heap.size) (o := 0) (v := .int .i64 x) (by simp); have c1 := H.get (b := w1.heap.size) (o := 1) (v := .int .i64 y) (by simp); have c2 := H.get (b := w1.heap.size + 1) (o := 0) (v := .int .i64 x2) (by simp); have c3 := H.get (b := w1.heap.size + 1) (o := 1) (v := .int .i64 y2) (by simp); have c4 := H.get (b := gx) (o := 0) (v := .int .i64 D.1) (by simp); have c5 := H.get (b := gx) (o := 1) (v := .int .i64 D.2) (by simp); have l0 := H.lt (b := w1.heap.size) (o := 0) (v := .int .i64 x) (by simp); have l1 := H.lt (b := w1.heap.size + 1) (o := 0) (v := .int .i64 x2) (by simp); have l2 := H.lt (b := gx) (o := 0) (v := .int .i64 D.1) (by simp)) | (go_at_call 78; refine (iRestHas_xy _ _ _ _).mono ?_; rintro e w9 ⟨rfl, hb⟩; rw [hhas _ _ ((inB_iff _ _ _).2 ⟨by omega, by omega⟩) (by assumption) (by assumption) (by first | assumption | omega)]; replace H := H.call hb; clear hb c0 c1 c2 c3 c4 c5 l0 l1 l2; have c0 := H.get (b := w1.heap.size) (o := 0) (v := .int .i64 x) (by simp); have c1 := H.get (b := w1.heap.size) (o := 1) (v := .int .i64 y) (by simp); have c2 := H.get (b := w1.heap.size + 1) (o := 0) (v := .int .i64 x2) (by simp); have c3 := H.get (b := w1.heap.size + 1) (o := 1) (v := .int .i64 y2) (by simp); have c4 := H.get (b := gx) (o := 0) (v := .int .i64 D.1) (by simp); have c5 := H.get (b := gx) (o := 1) (v := .int .i64 D.2) (by simp); have l0 := H.lt (b := w1.heap.size) (o := 0) (v := .int .i64 x) (by simp); have l1 := H.lt (b := w1.heap.size + 1) (o := 0) (v := .int .i64 x2) (by simp); have l2 := H.lt (b := gx) (o := 0) (v := .int .i64 D.1) (by simp)))
          all_goals exact ⟨⟨j + 1, by go_num, by omega, H.weak (by simp)⟩, by simp [intOf]; omega⟩
        · obtain rfl : j = 8 := by omega
          go_wp2_with fail
          go_ret
          exact ⟨rfl, hup H.below⟩
end Go.Proofs.YthbbgkpkijlclaaDoor.fnRestDo
