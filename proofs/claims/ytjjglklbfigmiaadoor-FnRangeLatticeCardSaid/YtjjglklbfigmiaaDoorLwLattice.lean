/-
  For every code the law FnRangeLattice returns true and writes nothing that was there; its package variables as the program's text lays them.
-/
import Derived.Test.YtjjglklbfigmiaaDoorSs8
import Derived.Test.YtjjglklbfigmiaaDoorTf
import Derived.Test.YtjjglklbfigmiaaDoorWb
import Derived.Test.YtjjglklbfigmiaaDoorTk
import Derived.Test.YtjjglklbfigmiaaDoorTj
import Derived.Test.YtjjglklbfigmiaaDoorTg
import Derived.Test.YtjjglklbfigmiaaDoorSg
import Derived.Test.YtjjglklbfigmiaaDoorTie
import Derived.Test.YtjjglklbfigmiaaDoorCards
import Derived.SevenTiedAt
import Derived.Stop.LaidErr
import Derived.ShutString
import Derived.ChangeOld
import Derived.Below
namespace Go.Proofs.YtjjglklbfigmiaaDoor.fnRangeLattice
open Go.ChangeShapes Go.WideShapes Go.ChangeAt Go.RowKit Go.Proofs.YtjjglklbfigmiaaDoor.num
set_option linter.unusedVariables false

/-- The variables that the row lists. -/
abbrev laid : List (String × DataW Unit) := Rows.fnRangeLatticeRow.laid
/-- The door's own heap meets the condition. -/
theorem door_met (os : Os) (args : Array Value) : laidMetH Tryd.prog laid ((World.doorLaid Tryd.prog 400 os).forCall (fun _ _ => 0) ⟨#[], args, []⟩).memory :=
  laidMetH_of_parts3 (fuel := 8) (laidMet_of_run' 8 (by kernel_rfl) (by kernel_rfl)) (by kernel_rfl) (by kernel_rfl)
theorem laid_of {W : World} (h : laidMetH Tryd.prog laid W) : Gv W 0 (1, 0) := by
  rw [MakeChecks.laidMetH_plain _ _ _ (by kernel_rfl)] at h
  exact gv_of_head (by kernel_rfl) (by kernel_rfl) h
set_option maxRecDepth 100000 in
set_option maxHeartbeats 4000000 in
theorem walk (a0 : Option Addr) (len0 cap0 : Nat) (z0 : List Int) (w : World) (w0 : IsRow .u8 w a0 len0 cap0 z0) (h : Gv w 0 (1, 0)) :
    Calls Tryd.prog 14 #[.slice a0 len0 cap0] w fun e w' => e = .returned (.bool true) ∧ Below w.heap.size w w' := by
  obtain ⟨hc, hl, hm⟩ := code_of_row w0
  have HC := hide hc
  clear hc w0
  by_cases hlen : 1048576 < len0
  · go_enter Tryd.func14, Tryd.ntmps14
    go_wp2
    go_ret
    exact ⟨rfl, Below.refl _ _⟩
  replace hlen : len0 ≤ 1048576 := by omega
  go_enter Tryd.func14, Tryd.ntmps14
  go_wp2_with fail
  refine (drawWiden8_any _ _ _ _ (unhide HC) hl hm).mono ?_
  rintro e w1 ⟨⟨x, y, x2, y2, sv, l, rfl, hbd, hl5, hI, hrow⟩, hb⟩
  have hN := h.below hb
  have hCC := hide ((unhide HC).below hb)
  have hS : rws.Seq 1 rws.ci (fun _ => True) w.heap.size w1 sv l := by
    refine rws.Row.seq (e := 3) ?_ (fun _ => rfl) (fun _ _ _ => trivial)
    have e : (l.map rws.ci).flatten = l.map (Value.int .i64) := by
      clear hrow hl5 hI
      induction l with
      | nil => rfl
      | cons t l ih => simp [rws.ci] at ih ⊢; exact ih
    show w1.ownsRow w.heap.size 3 1 sv l.length _
    rw [e]
    exact hrow
  obtain ⟨sa, scap, rfl, hs1, hs2⟩ := hS.shape
  unfold maxLen at hs2
  obtain ⟨W, hW, H⟩ := Hd.two w1 (.int .i64 x) (.int .i64 y) (.int .i64 x2) (.int .i64 y2) 25 25
  have hup : ∀ {w'}, Below w1.heap.size w1 w' → Below w.heap.size w w' := fun k => below_up hb hb.size k
  clear hb HC hrow hI h
  have hseq := fun {w'} (k : Below w1.heap.size w1 w') => rws.Seq.below hS k
  have ca0 := H.get (b := w1.heap.size) (o := 0) (v := .int .i64 x) (by simp)
  have ca1 := H.get (b := w1.heap.size) (o := 1) (v := .int .i64 y) (by simp)
  have cal := H.lt (b := w1.heap.size) (o := 0) (v := .int .i64 x) (by simp)
  have cb0 := H.get (b := w1.heap.size + 1) (o := 0) (v := .int .i64 x2) (by simp)
  have cb1 := H.get (b := w1.heap.size + 1) (o := 1) (v := .int .i64 y2) (by simp)
  have cbl := H.lt (b := w1.heap.size + 1) (o := 0) (v := .int .i64 x2) (by simp)
  have HJ := fun (w : World) (h : Gv w 0 none8) => iJoin_xy x y x2 y2 w h
  have HM := fun (w : World) (h : Gv w 0 none8) => iMeet_xy x y x2 y2 w h
  have HV := fun (n : Nat) (w : World) (hs : rws.Seq 1 rws.ci (fun _ => True) n w (.slice sa l.length scap) l) (h : Gv w 0 none8) => iWiden_xy x y x2 y2 l (.slice sa l.length scap) w hs h
  have HJs := fun (w : World) => RangeJoin_xy x y x2 y2 w
  have HMs := fun (w : World) => RangeMeet_xy x y x2 y2 w
  have HVs := fun (n : Nat) (w : World) (hs : rws.Seq 1 rws.ci (fun _ => True) n w (.slice sa l.length scap) l) => RangeWiden_xy x y x2 y2 l (.slice sa l.length scap) w hs
  generalize hj : join8 (x, y) (x2, y2) = J at *
  generalize hm8 : meet8 (x, y) (x2, y2) = M at *
  generalize hv : widen8 (x, y) (x2, y2) l = V at *
  go_wp2_with fail
  rw [← hW]
  clear hW
  go_wp2_with (first | (go_at_call 26; refine (HJ _ (hN.below H.below)).mono ?_; rintro e w2 ⟨rfl, hb⟩; replace H := H.call hb; clear hb; have ca0 := H.get (b := w1.heap.size) (o := 0) (v := .int .i64 x) (by simp); have ca1 := H.get (b := w1.heap.size) (o := 1) (v := .int .i64 y) (by simp); have cal := H.lt (b := w1.heap.size) (o := 0) (v := .int .i64 x) (by simp); have cb0 := H.get (b := w1.heap.size + 1) (o := 0) (v := .int .i64 x2) (by simp); have cb1 := H.get (b := w1.heap.size + 1) (o := 1) (v := .int .i64 y2) (by simp); have cbl := H.lt (b := w1.heap.size + 1) (o := 0) (v := .int .i64 x2) (by simp)) | (go_at_call 29; refine (HM _ (hN.below (H.box _ _ _).below)).mono ?_; rintro e w3 ⟨rfl, hb⟩; replace H := (H.box _ _ _).call hb; clear hb cal cbl ca0 ca1 cb0 cb1; obtain ⟨gj, hgj⟩ : ∃ g, g = w2.heap.size := ⟨_, rfl⟩; rw [← hgj] at H ⊢; clear hgj; clear w2; have ca0 := H.get (b := w1.heap.size) (o := 0) (v := .int .i64 x) (by simp); have ca1 := H.get (b := w1.heap.size) (o := 1) (v := .int .i64 y) (by simp); have cal := H.lt (b := w1.heap.size) (o := 0) (v := .int .i64 x) (by simp); have cb0 := H.get (b := w1.heap.size + 1) (o := 0) (v := .int .i64 x2) (by simp); have cb1 := H.get (b := w1.heap.size + 1) (o := 1) (v := .int .i64 y2) (by simp); have cbl := H.lt (b := w1.heap.size + 1) (o := 0) (v := .int .i64 x2) (by simp)) | (go_at_call 32; refine (HV _ _ (hseq (H.box _ _ _).below) (hN.below (H.box _ _ _).below)).mono ?_; rintro e w4 ⟨rfl, hb⟩; replace H := (H.box _ _ _).call hb; clear hb cal cbl ca0 ca1 cb0 cb1; obtain ⟨gm, hgm⟩ : ∃ g, g = w3.heap.size := ⟨_, rfl⟩; rw [← hgm] at H ⊢; clear hgm; clear w3; have ca0 := H.get (b := w1.heap.size) (o := 0) (v := .int .i64 x) (by simp); have ca1 := H.get (b := w1.heap.size) (o := 1) (v := .int .i64 y) (by simp); have cal := H.lt (b := w1.heap.size) (o := 0) (v := .int .i64 x) (by simp); have cb0 := H.get (b := w1.heap.size + 1) (o := 0) (v := .int .i64 x2) (by simp); have cb1 := H.get (b := w1.heap.size + 1) (o := 1) (v := .int .i64 y2) (by simp); have cbl := H.lt (b := w1.heap.size + 1) (o := 0) (v := .int .i64 x2) (by simp)))
  replace H := H.box (.int .i64 V.1) (.int .i64 V.2) 25
  generalize w4.alloc (.cells #[.int .i64 V.1, .int .i64 V.2] 25) = W4 at H ⊢
  generalize w4.heap.size = gv at H ⊢
  clear cal cbl ca0 ca1 cb0 cb1
  have k0 := fun p : Over W4 => H.over (b := w1.heap.size) (o := 0) (v := .int .i64 x) (by simp) p
  have k1 := fun p : Over W4 => H.over (b := w1.heap.size) (o := 1) (v := .int .i64 y) (by simp) p
  have k2 := fun p : Over W4 => H.over (b := w1.heap.size + 1) (o := 0) (v := .int .i64 x2) (by simp) p
  have k3 := fun p : Over W4 => H.over (b := w1.heap.size + 1) (o := 1) (v := .int .i64 y2) (by simp) p
  have k4 := fun p : Over W4 => H.over (b := gj) (o := 0) (v := .int .i64 J.1) (by simp) p
  have k5 := fun p : Over W4 => H.over (b := gj) (o := 1) (v := .int .i64 J.2) (by simp) p
  have k6 := fun p : Over W4 => H.over (b := gm) (o := 0) (v := .int .i64 M.1) (by simp) p
  have k7 := fun p : Over W4 => H.over (b := gm) (o := 1) (v := .int .i64 M.2) (by simp) p
  have k8 := fun p : Over W4 => H.over (b := gv) (o := 0) (v := .int .i64 V.1) (by simp) p
  have k9 := fun p : Over W4 => H.over (b := gv) (o := 1) (v := .int .i64 V.2) (by simp) p
  have hsq := hseq H.below
  refine wp_region_over (by kernel_rfl) (by kernel_rfl) ?_
  repeat (go_big_quiet_step (first | (go_at_call 25; rename_i p; refine (HJs _).mono ?_; rintro e' w' ⟨rfl, hb1⟩; exact ⟨rfl, p.next hb1⟩) | (go_at_call 28; rename_i p; refine (HMs _).mono ?_; rintro e' w' ⟨rfl, hb1⟩; exact ⟨rfl, p.next hb1⟩) | (go_at_call 30; rename_i p; refine (HVs _ _ (hsq.below p.below)).mono ?_; rintro e' w' ⟨rfl, hb1⟩; exact ⟨rfl, p.next hb1⟩)))
  refine wpQuiet_nil ?_
  rintro _ ⟨p, rfl⟩
  replace H := H.call p.below
  clear k0 k1 k2 k3 k4 k5 k6 k7 k8 k9 hsq
  obtain ⟨W5, hW5⟩ : ∃ W5, W5 = p.w := ⟨_, rfl⟩
  rw [← hW5] at H ⊢
  clear hW5 p W4
  clear HJ HM HV HJs HMs HVs
  have c0 := H.get (b := w1.heap.size) (o := 0) (v := .int .i64 x) (by simp)
  have c1 := H.get (b := w1.heap.size) (o := 1) (v := .int .i64 y) (by simp)
  have c2 := H.get (b := w1.heap.size + 1) (o := 0) (v := .int .i64 x2) (by simp)
  have c3 := H.get (b := w1.heap.size + 1) (o := 1) (v := .int .i64 y2) (by simp)
  have c4 := H.get (b := gj) (o := 0) (v := .int .i64 J.1) (by simp)
  have c5 := H.get (b := gj) (o := 1) (v := .int .i64 J.2) (by simp)
  have c6 := H.get (b := gm) (o := 0) (v := .int .i64 M.1) (by simp)
  have c7 := H.get (b := gm) (o := 1) (v := .int .i64 M.2) (by simp)
  have c8 := H.get (b := gv) (o := 0) (v := .int .i64 V.1) (by simp)
  have c9 := H.get (b := gv) (o := 1) (v := .int .i64 V.2) (by simp)
  cases k : rOk (x, y)
  · have ej : J = (1, 0) := by rw [← hj]; unfold join8; rw [if_pos (by simp [k])]; rfl
    have em : M = (1, 0) := by rw [← hm8]; unfold meet8; rw [if_pos (by simp [k])]; rfl
    have ev : V = (1, 0) := by rw [← hv]; unfold widen8; rw [if_pos (by simp [k]), hj, ej]
    have ej1 : J.1 = 1 := by rw [ej]
    have ej2 : J.2 = 0 := by rw [ej]
    have em1 : M.1 = 1 := by rw [em]
    have em2 : M.2 = 0 := by rw [em]
    have ev1 : V.1 = 1 := by rw [ev]
    have ev2 : V.2 = 0 := by rw [ev]
    go_wp2_with (go_at_call 18; refine (RangeOk_xy _ _ _).mono ?_; rintro e w6 ⟨rfl, hb⟩; (first | rw [k] | rw [k2]); replace H := H.call hb; clear hb c0 c1 c2 c3 c4 c5 c6 c7 c8 c9; have c0 := H.get (b := w1.heap.size) (o := 0) (v := .int .i64 x) (by simp); have c1 := H.get (b := w1.heap.size) (o := 1) (v := .int .i64 y) (by simp); have c2 := H.get (b := w1.heap.size + 1) (o := 0) (v := .int .i64 x2) (by simp); have c3 := H.get (b := w1.heap.size + 1) (o := 1) (v := .int .i64 y2) (by simp); have c4 := H.get (b := gj) (o := 0) (v := .int .i64 J.1) (by simp); have c5 := H.get (b := gj) (o := 1) (v := .int .i64 J.2) (by simp); have c6 := H.get (b := gm) (o := 0) (v := .int .i64 M.1) (by simp); have c7 := H.get (b := gm) (o := 1) (v := .int .i64 M.2) (by simp); have c8 := H.get (b := gv) (o := 0) (v := .int .i64 V.1) (by simp); have c9 := H.get (b := gv) (o := 1) (v := .int .i64 V.2) (by simp))
    go_ret
    exact ⟨rfl, hup H.below⟩
  · cases k2 : rOk (x2, y2)
    · have ej : J = (1, 0) := by rw [← hj]; unfold join8; rw [if_pos (by simp [k2])]; rfl
      have em : M = (1, 0) := by rw [← hm8]; unfold meet8; rw [if_pos (by simp [k2])]; rfl
      have ev : V = (1, 0) := by rw [← hv]; unfold widen8; rw [if_pos (by simp [k2]), hj, ej]
      have ej1 : J.1 = 1 := by rw [ej]
      have ej2 : J.2 = 0 := by rw [ej]
      have em1 : M.1 = 1 := by rw [em]
      have em2 : M.2 = 0 := by rw [em]
      have ev1 : V.1 = 1 := by rw [ev]
      have ev2 : V.2 = 0 := by rw [ev]
      go_wp2_with (go_at_call 18; refine (RangeOk_xy _ _ _).mono ?_; rintro e w6 ⟨rfl, hb⟩; (first | rw [k] | rw [k2]); replace H := H.call hb; clear hb c0 c1 c2 c3 c4 c5 c6 c7 c8 c9; have c0 := H.get (b := w1.heap.size) (o := 0) (v := .int .i64 x) (by simp); have c1 := H.get (b := w1.heap.size) (o := 1) (v := .int .i64 y) (by simp); have c2 := H.get (b := w1.heap.size + 1) (o := 0) (v := .int .i64 x2) (by simp); have c3 := H.get (b := w1.heap.size + 1) (o := 1) (v := .int .i64 y2) (by simp); have c4 := H.get (b := gj) (o := 0) (v := .int .i64 J.1) (by simp); have c5 := H.get (b := gj) (o := 1) (v := .int .i64 J.2) (by simp); have c6 := H.get (b := gm) (o := 0) (v := .int .i64 M.1) (by simp); have c7 := H.get (b := gm) (o := 1) (v := .int .i64 M.2) (by simp); have c8 := H.get (b := gv) (o := 0) (v := .int .i64 V.1) (by simp); have c9 := H.get (b := gv) (o := 1) (v := .int .i64 V.2) (by simp))
      go_ret
      exact ⟨rfl, hup H.below⟩
    · have i1 : rIn (x, y) (J.1, J.2) = true := by show rIn (x, y) J = true; rw [← hj]; exact join8_in_l k k2
      have i2 : rIn (x2, y2) (J.1, J.2) = true := by show rIn (x2, y2) J = true; rw [← hj]; exact join8_in_r k k2
      have i3 : rIn (J.1, J.2) (V.1, V.2) = true := by show rIn J V = true; rw [← hj, ← hv]; exact (widen8_ok _ _ l).2 k k2
      have i4 : rIn (M.1, M.2) (x, y) = true := by show rIn M (x, y) = true; rw [← hm8]; exact meet8_in_l k k2
      have i5 : rIn (M.1, M.2) (x2, y2) = true := by show rIn M (x2, y2) = true; rw [← hm8]; exact meet8_in_r k k2
      have hmeet : ∀ v, rHas (M.1, M.2) v = (rHas (x, y) v && rHas (x2, y2) v) := fun v => by show rHas M v = _; rw [← hm8]; exact meet8_has k k2 v
      go_wp2_with (first | (go_at_call 18; refine (RangeOk_xy _ _ _).mono ?_; rintro e w6 ⟨rfl, hb⟩; (first | rw [k] | rw [k2]); replace H := H.call hb; clear hb c0 c1 c2 c3 c4 c5 c6 c7 c8 c9; have c0 := H.get (b := w1.heap.size) (o := 0) (v := .int .i64 x) (by simp); have c1 := H.get (b := w1.heap.size) (o := 1) (v := .int .i64 y) (by simp); have c2 := H.get (b := w1.heap.size + 1) (o := 0) (v := .int .i64 x2) (by simp); have c3 := H.get (b := w1.heap.size + 1) (o := 1) (v := .int .i64 y2) (by simp); have c4 := H.get (b := gj) (o := 0) (v := .int .i64 J.1) (by simp); have c5 := H.get (b := gj) (o := 1) (v := .int .i64 J.2) (by simp); have c6 := H.get (b := gm) (o := 0) (v := .int .i64 M.1) (by simp); have c7 := H.get (b := gm) (o := 1) (v := .int .i64 M.2) (by simp); have c8 := H.get (b := gv) (o := 0) (v := .int .i64 V.1) (by simp); have c9 := H.get (b := gv) (o := 1) (v := .int .i64 V.2) (by simp)) | (go_at_call 24; refine (iIn_xy _ _ _ _ _ (hN.below H.below)).mono ?_; rintro e w6 ⟨rfl, hb⟩; (first | rw [i1] | rw [i2] | rw [i3] | rw [i4] | rw [i5]); replace H := H.call hb; clear hb c0 c1 c2 c3 c4 c5 c6 c7 c8 c9; have c0 := H.get (b := w1.heap.size) (o := 0) (v := .int .i64 x) (by simp); have c1 := H.get (b := w1.heap.size) (o := 1) (v := .int .i64 y) (by simp); have c2 := H.get (b := w1.heap.size + 1) (o := 0) (v := .int .i64 x2) (by simp); have c3 := H.get (b := w1.heap.size + 1) (o := 1) (v := .int .i64 y2) (by simp); have c4 := H.get (b := gj) (o := 0) (v := .int .i64 J.1) (by simp); have c5 := H.get (b := gj) (o := 1) (v := .int .i64 J.2) (by simp); have c6 := H.get (b := gm) (o := 0) (v := .int .i64 M.1) (by simp); have c7 := H.get (b := gm) (o := 1) (v := .int .i64 M.2) (by simp); have c8 := H.get (b := gv) (o := 0) (v := .int .i64 V.1) (by simp); have c9 := H.get (b := gv) (o := 1) (v := .int .i64 V.2) (by simp)))
      clear c0 c1 c2 c3 c4 c5 c6 c7 c8 c9
      go_loopw [9, 10] (fun kk v wr => ∃ j : Nat, kk = .int .i64 j ∧ j ≤ 6 ∧ Hd w1 [(gv, 0, .int .i64 V.1), (gv, 1, .int .i64 V.2), (gm, 0, .int .i64 M.1), (gm, 1, .int .i64 M.2), (gj, 0, .int .i64 J.1), (gj, 1, .int .i64 J.2), (w1.heap.size + 1, 0, .int .i64 x2), (w1.heap.size + 1, 1, .int .i64 y2), (w1.heap.size, 0, .int .i64 x), (w1.heap.size, 1, .int .i64 y)] wr) (fun kk _ _ => 6 - (intOf kk).toNat)
      case atStart => exact ⟨0, rfl, by omega, H⟩
      case round =>
        clear H
        obtain ⟨j, rfl, hj6, H⟩ := hrel
        have c0 := H.get (b := w1.heap.size) (o := 0) (v := .int .i64 x) (by simp)
        have c1 := H.get (b := w1.heap.size) (o := 1) (v := .int .i64 y) (by simp)
        have c2 := H.get (b := w1.heap.size + 1) (o := 0) (v := .int .i64 x2) (by simp)
        have c3 := H.get (b := w1.heap.size + 1) (o := 1) (v := .int .i64 y2) (by simp)
        have c4 := H.get (b := gj) (o := 0) (v := .int .i64 J.1) (by simp)
        have c5 := H.get (b := gj) (o := 1) (v := .int .i64 J.2) (by simp)
        have c6 := H.get (b := gm) (o := 0) (v := .int .i64 M.1) (by simp)
        have c7 := H.get (b := gm) (o := 1) (v := .int .i64 M.2) (by simp)
        have c8 := H.get (b := gv) (o := 0) (v := .int .i64 V.1) (by simp)
        have c9 := H.get (b := gv) (o := 1) (v := .int .i64 V.2) (by simp)
        by_cases hlt : j < 6
        · go_wp2_with (go_at_call 42; refine (within_any _ _ _ _ _ _ _ ((unhide hCC).below H.below) hlen (by omega) (by omega)).mono ?_; rintro e w7 ⟨v, rfl, hv7, hb⟩; replace H := H.call hb; clear hb hv7 c0 c1 c2 c3 c4 c5 c6 c7 c8 c9; have c0 := H.get (b := w1.heap.size) (o := 0) (v := .int .i64 x) (by simp); have c1 := H.get (b := w1.heap.size) (o := 1) (v := .int .i64 y) (by simp); have c2 := H.get (b := w1.heap.size + 1) (o := 0) (v := .int .i64 x2) (by simp); have c3 := H.get (b := w1.heap.size + 1) (o := 1) (v := .int .i64 y2) (by simp); have c4 := H.get (b := gj) (o := 0) (v := .int .i64 J.1) (by simp); have c5 := H.get (b := gj) (o := 1) (v := .int .i64 J.2) (by simp); have c6 := H.get (b := gm) (o := 0) (v := .int .i64 M.1) (by simp); have c7 := H.get (b := gm) (o := 1) (v := .int .i64 M.2) (by simp); have c8 := H.get (b := gv) (o := 0) (v := .int .i64 V.1) (by simp); have c9 := H.get (b := gv) (o := 1) (v := .int .i64 V.2) (by simp))
          have hmv := hmeet v
          cases q1 : rHas (x, y) v
          all_goals
            cases q2 : rHas (x2, y2) v
            all_goals
              rw [q1, q2] at hmv
              obtain ⟨W8, hW8⟩ : ∃ W8, W8 = w7 := ⟨_, rfl⟩
              rw [← hW8] at H ⊢
              clear hW8 c0 c1 c2 c3 c4 c5 c6 c7 c8 c9 hmeet
              have k0 := fun p : Over W8 => H.over (b := w1.heap.size) (o := 0) (v := .int .i64 x) (by simp) p
              have k1 := fun p : Over W8 => H.over (b := w1.heap.size) (o := 1) (v := .int .i64 y) (by simp) p
              have k2 := fun p : Over W8 => H.over (b := w1.heap.size + 1) (o := 0) (v := .int .i64 x2) (by simp) p
              have k3 := fun p : Over W8 => H.over (b := w1.heap.size + 1) (o := 1) (v := .int .i64 y2) (by simp) p
              have k4 := fun p : Over W8 => H.over (b := gj) (o := 0) (v := .int .i64 J.1) (by simp) p
              have k5 := fun p : Over W8 => H.over (b := gj) (o := 1) (v := .int .i64 J.2) (by simp) p
              have k6 := fun p : Over W8 => H.over (b := gm) (o := 0) (v := .int .i64 M.1) (by simp) p
              have k7 := fun p : Over W8 => H.over (b := gm) (o := 1) (v := .int .i64 M.2) (by simp) p
              have k8 := fun p : Over W8 => H.over (b := gv) (o := 0) (v := .int .i64 V.1) (by simp) p
              have k9 := fun p : Over W8 => H.over (b := gv) (o := 1) (v := .int .i64 V.2) (by simp) p
              have hg := hN.below H.below
              refine wp_region_over (by kernel_rfl) (by kernel_rfl) ?_
              repeat (go_big_quiet_step (first | (go_at_call 22; rename_i p; refine (iHas_xy _ _ _ _ (hg.over p)).mono ?_; rintro e' w' ⟨rfl, hb1⟩; exact ⟨by rw [hmv], p.next hb1⟩) | (go_at_call 21; rename_i p; refine (RangeHas_xy _ _ _ _).mono ?_; rintro e' w' ⟨rfl, hb1⟩; exact ⟨by first | rw [q1] | rw [q2], p.next hb1⟩)))
              refine wpQuiet_nil ?_
              rintro _ ⟨p, rfl⟩
              replace H := H.call p.below
              clear k0 k1 k2 k3 k4 k5 k6 k7 k8 k9 hg
              go_wp2_with fail
              exact ⟨⟨j + 1, by go_num, by omega, H⟩, by simp [intOf]; omega⟩
        · obtain rfl : j = 6 := by omega
          clear hmeet
          have EX : Below w.heap.size w wr := hup H.below
          by_cases hn : y < x ∨ y2 < x2
          · have ev : V = J := by
              rw [← hv, ← hj]
              refine widen8_join l ?_
              rcases hn with hn | hn
              · exact .inl ((rOk_none_of k).2 hn)
              · exact .inr ((rOk_none_of k2).2 hn)
            have ev1 : V.1 = J.1 := by rw [ev]
            have ev2 : V.2 = J.2 := by rw [ev]
            clear hv ev
            by_cases hn1 : y < x
            · clear hn
              go_wp2_with fail
              go_ret
              exact ⟨rfl, EX⟩
            · have hn2 : y2 < x2 := by omega
              clear hn
              go_wp2_with fail
              go_ret
              exact ⟨rfl, EX⟩
          · have hn1 : ¬ y < x := by omega
            have hn2 : ¬ y2 < x2 := by omega
            have na : ¬ isN (x, y) = true := fun q => hn1 ((rOk_none_of k).1 q)
            have nb : ¬ isN (x2, y2) = true := fun q => hn2 ((rOk_none_of k2).1 q)
            have k1' := ok_some k na
            have k2' := ok_some k2 nb
            simp only at k1' k2'
            have hw := widen8_eq l k k2 na nb
            rw [hv] at hw
            have d1 : V.1 = x ∨ V.1 = -2147483648 ∨ l.contains V.1 = true := by
              rw [hw]
              simp only
              split
              · have := (down8_bd l x2 k2'.1).2.2
                simpa using Or.inr this
              · exact .inl rfl
            have d2 : V.2 = y ∨ V.2 = 2147483647 ∨ l.contains V.2 = true := by
              rw [hw]
              simp only
              split
              · have := (up8_bd l y2 k2'.2.1).2.2
                simpa using Or.inr this
              · exact .inl rfl
            clear hw hv k1' k2' na nb hn
            have HS := hide (hseq H.below)
            have D1 : (V.1 == x) = true ∨ ((V.1 == x) = false ∧ (V.1 == -2147483648) = true) ∨ ((V.1 == x) = false ∧ (V.1 == -2147483648) = false ∧ l.contains V.1 = true) := by
              cases t1 : (V.1 == x)
              · cases t2 : (V.1 == -2147483648)
                · simp at t1 t2
                  rcases d1 with d | d | d
                  · exact absurd d t1
                  · exact absurd d t2
                  · exact .inr (.inr ⟨rfl, rfl, d⟩)
                · exact .inr (.inl ⟨rfl, rfl⟩)
              · exact .inl rfl
            have D2 : (V.2 == y) = true ∨ ((V.2 == y) = false ∧ (V.2 == 2147483647) = true) ∨ ((V.2 == y) = false ∧ (V.2 == 2147483647) = false ∧ l.contains V.2 = true) := by
              cases t1 : (V.2 == y)
              · cases t2 : (V.2 == 2147483647)
                · simp at t1 t2
                  rcases d2 with d | d | d
                  · exact absurd d t1
                  · exact absurd d t2
                  · exact .inr (.inr ⟨rfl, rfl, d⟩)
                · exact .inr (.inl ⟨rfl, rfl⟩)
              · exact .inl rfl
            clear d1 d2
            rcases D1 with t1 | ⟨t1, t2⟩ | ⟨t1, t2, t3⟩
            all_goals
              rcases D2 with s1 | ⟨s1, s2⟩ | ⟨s1, s2, s3⟩
              all_goals
                go_wp2_with (go_at_call 44; refine (has_any l _ _ _ (unhide HS)).mono ?_; rintro e w8 ⟨rfl, rfl⟩; (first | rw [t3] | rw [s3]))
                go_ret
                exact ⟨rfl, EX⟩
set_option maxRecDepth 100000 in
theorem lifted (os : Os) (started : os.Started) (H : Type) (enc : TypeId × Value → H) :
    ReturnsInHanded {} Tryd.checked os 14 .any (fun w args => (Rows.fnRangeLatticeSpec.pre enc Tryd.prog Tryd.f14 [] false w args ∧ laidMetH Tryd.prog laid w) ∧ sizedMet enc Tryd.prog Tryd.f14 (OpenSpec.ofChange Rows.fnRangeLatticeSpec) false w args)
      (Rows.fnRangeLatticeSpec.post enc Tryd.prog Tryd.f14 false true false false) := by
  refine returnsInHanded_of_change_and (C := Tryd.checked) (X := fun w _ => laidMetH Tryd.prog laid w) (fun _ _ _ hh h => h.of_heap hh) own started (by kernel_rfl) Tryd.func14
    (ChangeSpec.witness_shaped (enc := enc) (C := Tryd.checked) (os := os) (X := fun w _ => laidMetH Tryd.prog laid w) false (World.doorLaid Tryd.prog 400 os) #[.slice none 0 0] 8 rfl (World.shaped_of_RefB (by kernel_rfl) (by kernel_rfl)) (by kernel_rfl) (by kernel_rfl) (by kernel_rfl) (door_met os _)) ?_
  intro W base args ds gs before hval0 hW _ _ hL _
  have hval : ∀ (j : Nat) t v, Tryd.f14.params[j]? = some t → args[j]? = some v → Value.okWide Tryd.prog W .any base t v := hval0
  have hW' := hW
  obtain ⟨p, q, hA0, hV0, rfl, hfz, hnd⟩ := hW
  have hA : DataW.TrodAll enc Tryd.prog W 0 (fun _ => true) true Tryd.f14.params.toList args.toList ds p := hA0
  have hV : DataW.TrodVars enc Tryd.prog W (fun _ => true) Rows.fnRangeLatticeSpec.vars gs q := hV0
  rw [Tryd.params14] at hA hval
  obtain ⟨v0, vs0, d0, ds0, p0, q0, hargs, rfl, rfl, h0, r0⟩ := trodAll_cons hA
  obtain ⟨rfl, rfl, rfl⟩ := trodAll_nil r0
  obtain rfl : args = #[v0] := by cases args; simp_all
  have k0 := h0
  have lt0 : ∀ x ∈ p0, x.block < W.heap.size := by obtain ⟨m, hm⟩ := k0; exact DataW.trod_lt m _ _ _ hm
  obtain ⟨a0, len0, cap0, rfl⟩ := okWide_slice Tryd.underlying44 (hval 0 44 v0 rfl rfl)
  obtain ⟨z0, w0⟩ : ∃ zs, IsRow .u8 W a0 len0 cap0 zs := by
    obtain ⟨fuel, hf⟩ := h0
    rcases open_ints Tryd.underlying44 Tryd.underlying5 (by kernel_rfl) hf with ⟨hcs, _⟩ | ⟨x, l, c, zs, hcs, _, hl, hm, hz, _, hcell, hwz⟩
    · simp [Value.cells] at hcs
      obtain ⟨rfl, rfl, rfl⟩ := hcs
      exact ⟨[], .inl ⟨rfl, rfl, rfl, rfl⟩⟩
    · simp [Value.cells] at hcs
      obtain ⟨rfl, rfl, rfl⟩ := hcs
      exact ⟨zs, .inr ⟨_, rfl, hl, hm, by simpa using hz, hcell, hwz⟩⟩
  have hL' := laid_of hL
  clear hA0 hval0
  refine (walk a0 len0 cap0 z0 W w0 hL').mono fun e W' ⟨he, bel⟩ => ?_
  subst he
  have kV := Below.trodVars laidOut bel (ns := Rows.fnRangeLatticeSpec.vars) (by kernel_rfl) hV
  have hlen : gs.length = 1 := vars_len hV
  match gs, hlen with
  | [g0], _ =>
    exact ⟨_, rfl, _, _, _, [], _, _, hW', trodAll_mk1 (shut_bool Tryd.underlying4 _), (trodAll_cons_mk (Below.trod laidOut (by kernel_rfl) (of_decide_eq_true (by kernel_rfl)) k0 bel lt0) trodAll_mk0), kV, bel.frame _, fun h => by cases h⟩

theorem over : Rows.FnRangeLatticeSaid :=
  OpenClaim.holds_of_wide 14 Tryd.f14 rfl rfl rfl rfl rfl rfl rfl ⟨rfl, rfl, rfl, rfl, rfl⟩ rfl rfl rfl rfl rfl (by kernel_rfl) Tryd.func14 (by kernel_rfl)
    (of_decide_eq_true (by kernel_rfl)) (by unfold Func.isWrapper; first | (rw [if_pos (by decide +kernel)]; kernel_rfl) | (rw [if_neg (by decide +kernel)]; exact ⟨rfl, rfl⟩))
    (fun os started H enc _ => lifted os started H enc)
end Go.Proofs.YtjjglklbfigmiaaDoor.fnRangeLattice
namespace Go.Proofs.YtjjglklbfigmiaaDoor
open Go
/-- THE STATEMENT: the tied card. -/
theorem fnRangeLattice_holds : Rows.FnRangeLatticeCardSaid :=
  Claim7.holds_tied_plain_at .later [] [.data] true Rows.fnRangeLatticeCard.stood.harness true
    fnRangeLattice.over (fun _ h => by cases h) (by kernel_rfl) (fun _ h => by cases h) fnRangeLattice_row_tie rfl ⟨rfl, rfl⟩ (by kernel_rfl) rfl
    (fun f fn hf hfn => by
      obtain rfl : f = 14 := Option.some.inj ((show Tryd.prog.funcNamed Rows.fnRangeLatticeRow.func = some 14 by kernel_rfl).symm.trans hf) |>.symm
      obtain rfl : fn = Tryd.f14 := (Option.some.inj (Tryd.func14.symm.trans hfn)).symm
      exact ⟨by kernel_rfl, fun j t ht => by
        rw [Tryd.params14] at ht
        have hm : t ∈ [44] := by simpa using Array.mem_of_getElem? ht
        have hall : ([44].all fun u => !Tryd.prog.wantsStandIn u) = true := by kernel_rfl
        exact (show Tryd.prog.wantsStandIn t = false by simpa using List.all_eq_true.1 hall t hm)⟩)
    (by kernel_rfl)
#print axioms fnRangeLattice_holds
end Go.Proofs.YtjjglklbfigmiaaDoor
