/-
  For every code the law FnRangeCmp returns true and writes nothing that was there; its package variables as the program's text lays them.
-/
import Derived.Test.YtjjglklbfigmiaaDoorWall
import Derived.Test.YtjjglklbfigmiaaDoorTf
import Derived.Test.YtjjglklbfigmiaaDoorTg
import Derived.Test.YtjjglklbfigmiaaDoorTyz
import Derived.Test.YtjjglklbfigmiaaDoorTp
import Derived.Test.YtjjglklbfigmiaaDoorTie
import Derived.Test.YtjjglklbfigmiaaDoorCards
import Derived.SevenTiedAt
import Derived.Stop.LaidErr
import Derived.ShutString
import Derived.ChangeOld
import Derived.Below
namespace Go.Proofs.YtjjglklbfigmiaaDoor.fnRangeCmp
open Go.ChangeShapes Go.WideShapes Go.ChangeAt Go.RowKit Go.Proofs.YtjjglklbfigmiaaDoor.num
set_option linter.unusedVariables false

/-- The variables that the row lists. -/
abbrev laid : List (String × DataW Unit) := Rows.fnRangeCmpRow.laid
/-- The door's own heap meets the condition. -/
theorem door_met (os : Os) (args : Array Value) : laidMetH Tryd.prog laid ((World.doorLaid Tryd.prog 400 os).forCall (fun _ _ => 0) ⟨#[], args, []⟩).memory :=
  laidMetH_of_parts3 (fuel := 8) (laidMet_of_run' 8 (by kernel_rfl) (by kernel_rfl)) (by kernel_rfl) (by kernel_rfl)
theorem laid_of {W : World} (h : laidMetH Tryd.prog laid W) : Gv W 0 (1, 0) ∧ Lib.TabIs Tryd.prog W nTurn .i64 turned := by
  rw [MakeChecks.laidMetH_plain _ _ _ (by kernel_rfl)] at h
  exact ⟨gv_of_head (by kernel_rfl) (by kernel_rfl) (laidMet.tail h), Lib.tabIs_of_head gTurn tTurn Tryd.underlying118 Tryd.underlying3 cellsI cellsT h⟩
set_option maxRecDepth 100000 in
set_option maxHeartbeats 4000000 in
theorem walk (a0 : Option Addr) (len0 cap0 : Nat) (z0 : List Int) (w : World) (w0 : IsRow .u8 w a0 len0 cap0 z0) (h : Gv w 0 (1, 0)) (ht : Lib.TabIs Tryd.prog w nTurn .i64 turned) :
    Calls Tryd.prog 15 #[.slice a0 len0 cap0] w fun e w' => e = .returned (.bool true) ∧ Below w.heap.size w w' := by
  have hT0 := tv_of ht
  clear ht
  obtain ⟨hc, hl, hm⟩ := code_of_row w0
  have HC := hide hc
  clear hc w0
  by_cases hlen : 1048576 < len0
  · go_enter Tryd.func15, Tryd.ntmps15
    go_wp2
    go_ret
    exact ⟨rfl, Below.refl _ _⟩
  replace hlen : len0 ≤ 1048576 := by omega
  go_enter Tryd.func15, Tryd.ntmps15
  go_wp2_with fail
  refine (drawCmp8_any _ _ _ _ (unhide HC) hl hm).mono ?_
  rintro e w1 ⟨⟨c, x, y, x2, y2, rfl, hbd⟩, hb⟩
  have hN := h.below hb
  have hT := hT0.below hb
  have hCC := hide ((unhide HC).below hb)
  obtain ⟨W, hW, H⟩ := Hd.two w1 (.int .i64 x) (.int .i64 y) (.int .i64 x2) (.int .i64 y2) 25 25
  have hup : ∀ {w'}, Below w1.heap.size w1 w' → Below w.heap.size w w' := fun k => below_up hb hb.size k
  clear hb HC h hT0 hbd
  have ca0 := H.get (b := w1.heap.size) (o := 0) (v := .int .i64 x) (by simp)
  have ca1 := H.get (b := w1.heap.size) (o := 1) (v := .int .i64 y) (by simp)
  have cal := H.lt (b := w1.heap.size) (o := 0) (v := .int .i64 x) (by simp)
  have cb0 := H.get (b := w1.heap.size + 1) (o := 0) (v := .int .i64 x2) (by simp)
  have cb1 := H.get (b := w1.heap.size + 1) (o := 1) (v := .int .i64 y2) (by simp)
  have cbl := H.lt (b := w1.heap.size + 1) (o := 0) (v := .int .i64 x2) (by simp)
  have HI := fun (w : World) (h : Gv w 0 none8) (ht : Tv w) => iCmp_xy c x y x2 y2 w h ht
  have HS := fun (w : World) => sCmp_xy c x y x2 y2 w
  generalize hR : rangeCmp c (x, y) (x2, y2) = R at *
  go_wp2_with fail
  rw [← hW]
  clear hW
  obtain ⟨P, Q⟩ := R
  cases k : rOk (x, y)
  · have e : (P, Q) = (none8, none8) := by rw [← hR]; unfold rangeCmp; rw [if_pos (by simp [k])]
    obtain ⟨e1, e2⟩ := Prod.mk.inj e
    have p1 : P.1 = 1 := by rw [e1]; rfl
    have p2 : P.2 = 0 := by rw [e1]; rfl
    have q1 : Q.1 = 1 := by rw [e2]; rfl
    have q2 : Q.2 = 0 := by rw [e2]; rfl
    clear e e1 e2 hR
    go_wp2_with (first | (go_at_call 39; refine (HI _ (hN.below H.below) (hT.below H.below)).mono ?_; rintro e w2 ⟨rfl, hb⟩; replace H := H.call hb; clear hb; have ca0 := H.get (b := w1.heap.size) (o := 0) (v := .int .i64 x) (by simp); have ca1 := H.get (b := w1.heap.size) (o := 1) (v := .int .i64 y) (by simp); have cal := H.lt (b := w1.heap.size) (o := 0) (v := .int .i64 x) (by simp); have cb0 := H.get (b := w1.heap.size + 1) (o := 0) (v := .int .i64 x2) (by simp); have cb1 := H.get (b := w1.heap.size + 1) (o := 1) (v := .int .i64 y2) (by simp); have cbl := H.lt (b := w1.heap.size + 1) (o := 0) (v := .int .i64 x2) (by simp)) | (go_at_call 38; refine (HS _).mono ?_; rintro e w3 ⟨rfl, hb⟩; replace H := ((H.box _ _ _).box _ _ _).call hb; rw [size_alloc1] at H; clear hb cal cbl ca0 ca1 cb0 cb1; obtain ⟨gx, hgx⟩ : ∃ g, g = w2.heap.size := ⟨_, rfl⟩; rw [← hgx] at H ⊢; clear hgx w2; have c0 := H.get (b := w1.heap.size) (o := 0) (v := .int .i64 x) (by simp); have c1 := H.get (b := w1.heap.size) (o := 1) (v := .int .i64 y) (by simp); have c2 := H.get (b := w1.heap.size + 1) (o := 0) (v := .int .i64 x2) (by simp); have c3 := H.get (b := w1.heap.size + 1) (o := 1) (v := .int .i64 y2) (by simp); have c4 := H.get (b := gx) (o := 0) (v := .int .i64 1) (by simp); have c5 := H.get (b := gx) (o := 1) (v := .int .i64 0) (by simp); have c6 := H.get (b := gx + 1) (o := 0) (v := .int .i64 1) (by simp); have c7 := H.get (b := gx + 1) (o := 1) (v := .int .i64 0) (by simp); have l0 := H.lt (b := w1.heap.size) (o := 0) (v := .int .i64 x) (by simp); have l1 := H.lt (b := w1.heap.size + 1) (o := 0) (v := .int .i64 x2) (by simp); have l2 := H.lt (b := gx) (o := 0) (v := .int .i64 1) (by simp); have l3 := H.lt (b := gx + 1) (o := 0) (v := .int .i64 1) (by simp)) | (go_at_call 18; refine (RangeOk_xy _ _ _).mono ?_; rintro e w6 ⟨rfl, hb⟩; (first | rw [k] | rw [k2]); (first | (replace H := H.call hb) | (replace H := ((H.box _ _ _).box _ _ _).call hb; rw [size_alloc1] at H)); clear hb c0 c1 c2 c3 c4 c5 c6 c7 l0 l1 l2 l3; have c0 := H.get (b := w1.heap.size) (o := 0) (v := .int .i64 x) (by simp); have c1 := H.get (b := w1.heap.size) (o := 1) (v := .int .i64 y) (by simp); have c2 := H.get (b := w1.heap.size + 1) (o := 0) (v := .int .i64 x2) (by simp); have c3 := H.get (b := w1.heap.size + 1) (o := 1) (v := .int .i64 y2) (by simp); have c4 := H.get (b := gx) (o := 0) (v := .int .i64 1) (by simp); have c5 := H.get (b := gx) (o := 1) (v := .int .i64 0) (by simp); have c6 := H.get (b := gx + 1) (o := 0) (v := .int .i64 1) (by simp); have c7 := H.get (b := gx + 1) (o := 1) (v := .int .i64 0) (by simp); have l0 := H.lt (b := w1.heap.size) (o := 0) (v := .int .i64 x) (by simp); have l1 := H.lt (b := w1.heap.size + 1) (o := 0) (v := .int .i64 x2) (by simp); have l2 := H.lt (b := gx) (o := 0) (v := .int .i64 1) (by simp); have l3 := H.lt (b := gx + 1) (o := 0) (v := .int .i64 1) (by simp)) | (go_at_call 24; refine (iIn_xy _ _ _ _ _ (by first | exact hN.below H.below | exact hN.below ((H.box _ _ _).box _ _ _).below)).mono ?_; rintro e w6 ⟨rfl, hb⟩; (first | rw [i1] | rw [i2]); (first | (replace H := H.call hb) | (replace H := ((H.box _ _ _).box _ _ _).call hb; rw [size_alloc1] at H)); clear hb c0 c1 c2 c3 c4 c5 c6 c7 l0 l1 l2 l3; have c0 := H.get (b := w1.heap.size) (o := 0) (v := .int .i64 x) (by simp); have c1 := H.get (b := w1.heap.size) (o := 1) (v := .int .i64 y) (by simp); have c2 := H.get (b := w1.heap.size + 1) (o := 0) (v := .int .i64 x2) (by simp); have c3 := H.get (b := w1.heap.size + 1) (o := 1) (v := .int .i64 y2) (by simp); have c4 := H.get (b := gx) (o := 0) (v := .int .i64 1) (by simp); have c5 := H.get (b := gx) (o := 1) (v := .int .i64 0) (by simp); have c6 := H.get (b := gx + 1) (o := 0) (v := .int .i64 1) (by simp); have c7 := H.get (b := gx + 1) (o := 1) (v := .int .i64 0) (by simp); have l0 := H.lt (b := w1.heap.size) (o := 0) (v := .int .i64 x) (by simp); have l1 := H.lt (b := w1.heap.size + 1) (o := 0) (v := .int .i64 x2) (by simp); have l2 := H.lt (b := gx) (o := 0) (v := .int .i64 1) (by simp); have l3 := H.lt (b := gx + 1) (o := 0) (v := .int .i64 1) (by simp)))
    go_ret
    exact ⟨rfl, hup H.below⟩
  · cases k2 : rOk (x2, y2)
    · have e : (P, Q) = (none8, none8) := by rw [← hR]; unfold rangeCmp; rw [if_pos (by simp [k2])]
      obtain ⟨e1, e2⟩ := Prod.mk.inj e
      have p1 : P.1 = 1 := by rw [e1]; rfl
      have p2 : P.2 = 0 := by rw [e1]; rfl
      have q1 : Q.1 = 1 := by rw [e2]; rfl
      have q2 : Q.2 = 0 := by rw [e2]; rfl
      clear e e1 e2 hR
      go_wp2_with (first | (go_at_call 39; refine (HI _ (hN.below H.below) (hT.below H.below)).mono ?_; rintro e w2 ⟨rfl, hb⟩; replace H := H.call hb; clear hb; have ca0 := H.get (b := w1.heap.size) (o := 0) (v := .int .i64 x) (by simp); have ca1 := H.get (b := w1.heap.size) (o := 1) (v := .int .i64 y) (by simp); have cal := H.lt (b := w1.heap.size) (o := 0) (v := .int .i64 x) (by simp); have cb0 := H.get (b := w1.heap.size + 1) (o := 0) (v := .int .i64 x2) (by simp); have cb1 := H.get (b := w1.heap.size + 1) (o := 1) (v := .int .i64 y2) (by simp); have cbl := H.lt (b := w1.heap.size + 1) (o := 0) (v := .int .i64 x2) (by simp)) | (go_at_call 38; refine (HS _).mono ?_; rintro e w3 ⟨rfl, hb⟩; replace H := ((H.box _ _ _).box _ _ _).call hb; rw [size_alloc1] at H; clear hb cal cbl ca0 ca1 cb0 cb1; obtain ⟨gx, hgx⟩ : ∃ g, g = w2.heap.size := ⟨_, rfl⟩; rw [← hgx] at H ⊢; clear hgx w2; have c0 := H.get (b := w1.heap.size) (o := 0) (v := .int .i64 x) (by simp); have c1 := H.get (b := w1.heap.size) (o := 1) (v := .int .i64 y) (by simp); have c2 := H.get (b := w1.heap.size + 1) (o := 0) (v := .int .i64 x2) (by simp); have c3 := H.get (b := w1.heap.size + 1) (o := 1) (v := .int .i64 y2) (by simp); have c4 := H.get (b := gx) (o := 0) (v := .int .i64 1) (by simp); have c5 := H.get (b := gx) (o := 1) (v := .int .i64 0) (by simp); have c6 := H.get (b := gx + 1) (o := 0) (v := .int .i64 1) (by simp); have c7 := H.get (b := gx + 1) (o := 1) (v := .int .i64 0) (by simp); have l0 := H.lt (b := w1.heap.size) (o := 0) (v := .int .i64 x) (by simp); have l1 := H.lt (b := w1.heap.size + 1) (o := 0) (v := .int .i64 x2) (by simp); have l2 := H.lt (b := gx) (o := 0) (v := .int .i64 1) (by simp); have l3 := H.lt (b := gx + 1) (o := 0) (v := .int .i64 1) (by simp)) | (go_at_call 18; refine (RangeOk_xy _ _ _).mono ?_; rintro e w6 ⟨rfl, hb⟩; (first | rw [k] | rw [k2]); (first | (replace H := H.call hb) | (replace H := ((H.box _ _ _).box _ _ _).call hb; rw [size_alloc1] at H)); clear hb c0 c1 c2 c3 c4 c5 c6 c7 l0 l1 l2 l3; have c0 := H.get (b := w1.heap.size) (o := 0) (v := .int .i64 x) (by simp); have c1 := H.get (b := w1.heap.size) (o := 1) (v := .int .i64 y) (by simp); have c2 := H.get (b := w1.heap.size + 1) (o := 0) (v := .int .i64 x2) (by simp); have c3 := H.get (b := w1.heap.size + 1) (o := 1) (v := .int .i64 y2) (by simp); have c4 := H.get (b := gx) (o := 0) (v := .int .i64 1) (by simp); have c5 := H.get (b := gx) (o := 1) (v := .int .i64 0) (by simp); have c6 := H.get (b := gx + 1) (o := 0) (v := .int .i64 1) (by simp); have c7 := H.get (b := gx + 1) (o := 1) (v := .int .i64 0) (by simp); have l0 := H.lt (b := w1.heap.size) (o := 0) (v := .int .i64 x) (by simp); have l1 := H.lt (b := w1.heap.size + 1) (o := 0) (v := .int .i64 x2) (by simp); have l2 := H.lt (b := gx) (o := 0) (v := .int .i64 1) (by simp); have l3 := H.lt (b := gx + 1) (o := 0) (v := .int .i64 1) (by simp)) | (go_at_call 24; refine (iIn_xy _ _ _ _ _ (by first | exact hN.below H.below | exact hN.below ((H.box _ _ _).box _ _ _).below)).mono ?_; rintro e w6 ⟨rfl, hb⟩; (first | rw [i1] | rw [i2]); (first | (replace H := H.call hb) | (replace H := ((H.box _ _ _).box _ _ _).call hb; rw [size_alloc1] at H)); clear hb c0 c1 c2 c3 c4 c5 c6 c7 l0 l1 l2 l3; have c0 := H.get (b := w1.heap.size) (o := 0) (v := .int .i64 x) (by simp); have c1 := H.get (b := w1.heap.size) (o := 1) (v := .int .i64 y) (by simp); have c2 := H.get (b := w1.heap.size + 1) (o := 0) (v := .int .i64 x2) (by simp); have c3 := H.get (b := w1.heap.size + 1) (o := 1) (v := .int .i64 y2) (by simp); have c4 := H.get (b := gx) (o := 0) (v := .int .i64 1) (by simp); have c5 := H.get (b := gx) (o := 1) (v := .int .i64 0) (by simp); have c6 := H.get (b := gx + 1) (o := 0) (v := .int .i64 1) (by simp); have c7 := H.get (b := gx + 1) (o := 1) (v := .int .i64 0) (by simp); have l0 := H.lt (b := w1.heap.size) (o := 0) (v := .int .i64 x) (by simp); have l1 := H.lt (b := w1.heap.size + 1) (o := 0) (v := .int .i64 x2) (by simp); have l2 := H.lt (b := gx) (o := 0) (v := .int .i64 1) (by simp); have l3 := H.lt (b := gx + 1) (o := 0) (v := .int .i64 1) (by simp)))
      go_ret
      exact ⟨rfl, hup H.below⟩
    · have hin := rangeCmp_in (c := c) (a := (x, y)) (b := (x2, y2)) k k2
      have hhas : ∀ p q, rHas (x, y) p = true → rHas (x2, y2) q = true → cmpP c p q → rHas (P.1, P.2) p = true ∧ rHas (Q.1, Q.2) q = true := fun p q h1 h2 h3 => by
        have := rangeCmp_has (c := c) h1 h2 h3
        rw [hR] at this
        exact this
      rw [hR] at hin
      clear hR
      obtain ⟨i1, i2, i3⟩ := hin
      have i1 : rIn (P.1, P.2) (x, y) = true := i1
      have i2 : rIn (Q.1, Q.2) (x2, y2) = true := i2
      have oP : rOk P = true := ((rIn_iff _ _).1 i1).1
      have oQ : rOk Q = true := ((rIn_iff _ _).1 i2).1
      have hPQ : (P.2 < P.1) ↔ (Q.2 < Q.1) := by
        rw [← rOk_none_of oP, ← rOk_none_of oQ]
        simp only at i3
        rw [i3]
      clear i3 oP oQ
      have hd : decide (P.2 < P.1) = decide (Q.2 < Q.1) := by rw [Bool.eq_iff_iff]; simpa using hPQ
      by_cases hn : y < x ∨ y2 < x2
      · by_cases hp : P.2 < P.1
        · have hq := hPQ.1 hp
          clear hPQ hd
          by_cases hn1 : y < x
          · clear hn
            go_wp2_with (first | (go_at_call 39; refine (HI _ (hN.below H.below) (hT.below H.below)).mono ?_; rintro e w2 ⟨rfl, hb⟩; replace H := H.call hb; clear hb; have ca0 := H.get (b := w1.heap.size) (o := 0) (v := .int .i64 x) (by simp); have ca1 := H.get (b := w1.heap.size) (o := 1) (v := .int .i64 y) (by simp); have cal := H.lt (b := w1.heap.size) (o := 0) (v := .int .i64 x) (by simp); have cb0 := H.get (b := w1.heap.size + 1) (o := 0) (v := .int .i64 x2) (by simp); have cb1 := H.get (b := w1.heap.size + 1) (o := 1) (v := .int .i64 y2) (by simp); have cbl := H.lt (b := w1.heap.size + 1) (o := 0) (v := .int .i64 x2) (by simp)) | (go_at_call 38; refine (HS _).mono ?_; rintro e w3 ⟨rfl, hb⟩; replace H := ((H.box _ _ _).box _ _ _).call hb; rw [size_alloc1] at H; clear hb cal cbl ca0 ca1 cb0 cb1; obtain ⟨gx, hgx⟩ : ∃ g, g = w2.heap.size := ⟨_, rfl⟩; rw [← hgx] at H ⊢; clear hgx w2; have c0 := H.get (b := w1.heap.size) (o := 0) (v := .int .i64 x) (by simp); have c1 := H.get (b := w1.heap.size) (o := 1) (v := .int .i64 y) (by simp); have c2 := H.get (b := w1.heap.size + 1) (o := 0) (v := .int .i64 x2) (by simp); have c3 := H.get (b := w1.heap.size + 1) (o := 1) (v := .int .i64 y2) (by simp); have c4 := H.get (b := gx) (o := 0) (v := .int .i64 P.1) (by simp); have c5 := H.get (b := gx) (o := 1) (v := .int .i64 P.2) (by simp); have c6 := H.get (b := gx + 1) (o := 0) (v := .int .i64 Q.1) (by simp); have c7 := H.get (b := gx + 1) (o := 1) (v := .int .i64 Q.2) (by simp); have l0 := H.lt (b := w1.heap.size) (o := 0) (v := .int .i64 x) (by simp); have l1 := H.lt (b := w1.heap.size + 1) (o := 0) (v := .int .i64 x2) (by simp); have l2 := H.lt (b := gx) (o := 0) (v := .int .i64 P.1) (by simp); have l3 := H.lt (b := gx + 1) (o := 0) (v := .int .i64 Q.1) (by simp)) | (go_at_call 18; refine (RangeOk_xy _ _ _).mono ?_; rintro e w6 ⟨rfl, hb⟩; (first | rw [k] | rw [k2]); (first | (replace H := H.call hb) | (replace H := ((H.box _ _ _).box _ _ _).call hb; rw [size_alloc1] at H)); clear hb c0 c1 c2 c3 c4 c5 c6 c7 l0 l1 l2 l3; have c0 := H.get (b := w1.heap.size) (o := 0) (v := .int .i64 x) (by simp); have c1 := H.get (b := w1.heap.size) (o := 1) (v := .int .i64 y) (by simp); have c2 := H.get (b := w1.heap.size + 1) (o := 0) (v := .int .i64 x2) (by simp); have c3 := H.get (b := w1.heap.size + 1) (o := 1) (v := .int .i64 y2) (by simp); have c4 := H.get (b := gx) (o := 0) (v := .int .i64 P.1) (by simp); have c5 := H.get (b := gx) (o := 1) (v := .int .i64 P.2) (by simp); have c6 := H.get (b := gx + 1) (o := 0) (v := .int .i64 Q.1) (by simp); have c7 := H.get (b := gx + 1) (o := 1) (v := .int .i64 Q.2) (by simp); have l0 := H.lt (b := w1.heap.size) (o := 0) (v := .int .i64 x) (by simp); have l1 := H.lt (b := w1.heap.size + 1) (o := 0) (v := .int .i64 x2) (by simp); have l2 := H.lt (b := gx) (o := 0) (v := .int .i64 P.1) (by simp); have l3 := H.lt (b := gx + 1) (o := 0) (v := .int .i64 Q.1) (by simp)) | (go_at_call 24; refine (iIn_xy _ _ _ _ _ (by first | exact hN.below H.below | exact hN.below ((H.box _ _ _).box _ _ _).below)).mono ?_; rintro e w6 ⟨rfl, hb⟩; (first | rw [i1] | rw [i2]); (first | (replace H := H.call hb) | (replace H := ((H.box _ _ _).box _ _ _).call hb; rw [size_alloc1] at H)); clear hb c0 c1 c2 c3 c4 c5 c6 c7 l0 l1 l2 l3; have c0 := H.get (b := w1.heap.size) (o := 0) (v := .int .i64 x) (by simp); have c1 := H.get (b := w1.heap.size) (o := 1) (v := .int .i64 y) (by simp); have c2 := H.get (b := w1.heap.size + 1) (o := 0) (v := .int .i64 x2) (by simp); have c3 := H.get (b := w1.heap.size + 1) (o := 1) (v := .int .i64 y2) (by simp); have c4 := H.get (b := gx) (o := 0) (v := .int .i64 P.1) (by simp); have c5 := H.get (b := gx) (o := 1) (v := .int .i64 P.2) (by simp); have c6 := H.get (b := gx + 1) (o := 0) (v := .int .i64 Q.1) (by simp); have c7 := H.get (b := gx + 1) (o := 1) (v := .int .i64 Q.2) (by simp); have l0 := H.lt (b := w1.heap.size) (o := 0) (v := .int .i64 x) (by simp); have l1 := H.lt (b := w1.heap.size + 1) (o := 0) (v := .int .i64 x2) (by simp); have l2 := H.lt (b := gx) (o := 0) (v := .int .i64 P.1) (by simp); have l3 := H.lt (b := gx + 1) (o := 0) (v := .int .i64 Q.1) (by simp)))
            go_ret
            exact ⟨rfl, hup H.below⟩
          · have hn2 : y2 < x2 := by omega
            clear hn
            go_wp2_with (first | (go_at_call 39; refine (HI _ (hN.below H.below) (hT.below H.below)).mono ?_; rintro e w2 ⟨rfl, hb⟩; replace H := H.call hb; clear hb; have ca0 := H.get (b := w1.heap.size) (o := 0) (v := .int .i64 x) (by simp); have ca1 := H.get (b := w1.heap.size) (o := 1) (v := .int .i64 y) (by simp); have cal := H.lt (b := w1.heap.size) (o := 0) (v := .int .i64 x) (by simp); have cb0 := H.get (b := w1.heap.size + 1) (o := 0) (v := .int .i64 x2) (by simp); have cb1 := H.get (b := w1.heap.size + 1) (o := 1) (v := .int .i64 y2) (by simp); have cbl := H.lt (b := w1.heap.size + 1) (o := 0) (v := .int .i64 x2) (by simp)) | (go_at_call 38; refine (HS _).mono ?_; rintro e w3 ⟨rfl, hb⟩; replace H := ((H.box _ _ _).box _ _ _).call hb; rw [size_alloc1] at H; clear hb cal cbl ca0 ca1 cb0 cb1; obtain ⟨gx, hgx⟩ : ∃ g, g = w2.heap.size := ⟨_, rfl⟩; rw [← hgx] at H ⊢; clear hgx w2; have c0 := H.get (b := w1.heap.size) (o := 0) (v := .int .i64 x) (by simp); have c1 := H.get (b := w1.heap.size) (o := 1) (v := .int .i64 y) (by simp); have c2 := H.get (b := w1.heap.size + 1) (o := 0) (v := .int .i64 x2) (by simp); have c3 := H.get (b := w1.heap.size + 1) (o := 1) (v := .int .i64 y2) (by simp); have c4 := H.get (b := gx) (o := 0) (v := .int .i64 P.1) (by simp); have c5 := H.get (b := gx) (o := 1) (v := .int .i64 P.2) (by simp); have c6 := H.get (b := gx + 1) (o := 0) (v := .int .i64 Q.1) (by simp); have c7 := H.get (b := gx + 1) (o := 1) (v := .int .i64 Q.2) (by simp); have l0 := H.lt (b := w1.heap.size) (o := 0) (v := .int .i64 x) (by simp); have l1 := H.lt (b := w1.heap.size + 1) (o := 0) (v := .int .i64 x2) (by simp); have l2 := H.lt (b := gx) (o := 0) (v := .int .i64 P.1) (by simp); have l3 := H.lt (b := gx + 1) (o := 0) (v := .int .i64 Q.1) (by simp)) | (go_at_call 18; refine (RangeOk_xy _ _ _).mono ?_; rintro e w6 ⟨rfl, hb⟩; (first | rw [k] | rw [k2]); (first | (replace H := H.call hb) | (replace H := ((H.box _ _ _).box _ _ _).call hb; rw [size_alloc1] at H)); clear hb c0 c1 c2 c3 c4 c5 c6 c7 l0 l1 l2 l3; have c0 := H.get (b := w1.heap.size) (o := 0) (v := .int .i64 x) (by simp); have c1 := H.get (b := w1.heap.size) (o := 1) (v := .int .i64 y) (by simp); have c2 := H.get (b := w1.heap.size + 1) (o := 0) (v := .int .i64 x2) (by simp); have c3 := H.get (b := w1.heap.size + 1) (o := 1) (v := .int .i64 y2) (by simp); have c4 := H.get (b := gx) (o := 0) (v := .int .i64 P.1) (by simp); have c5 := H.get (b := gx) (o := 1) (v := .int .i64 P.2) (by simp); have c6 := H.get (b := gx + 1) (o := 0) (v := .int .i64 Q.1) (by simp); have c7 := H.get (b := gx + 1) (o := 1) (v := .int .i64 Q.2) (by simp); have l0 := H.lt (b := w1.heap.size) (o := 0) (v := .int .i64 x) (by simp); have l1 := H.lt (b := w1.heap.size + 1) (o := 0) (v := .int .i64 x2) (by simp); have l2 := H.lt (b := gx) (o := 0) (v := .int .i64 P.1) (by simp); have l3 := H.lt (b := gx + 1) (o := 0) (v := .int .i64 Q.1) (by simp)) | (go_at_call 24; refine (iIn_xy _ _ _ _ _ (by first | exact hN.below H.below | exact hN.below ((H.box _ _ _).box _ _ _).below)).mono ?_; rintro e w6 ⟨rfl, hb⟩; (first | rw [i1] | rw [i2]); (first | (replace H := H.call hb) | (replace H := ((H.box _ _ _).box _ _ _).call hb; rw [size_alloc1] at H)); clear hb c0 c1 c2 c3 c4 c5 c6 c7 l0 l1 l2 l3; have c0 := H.get (b := w1.heap.size) (o := 0) (v := .int .i64 x) (by simp); have c1 := H.get (b := w1.heap.size) (o := 1) (v := .int .i64 y) (by simp); have c2 := H.get (b := w1.heap.size + 1) (o := 0) (v := .int .i64 x2) (by simp); have c3 := H.get (b := w1.heap.size + 1) (o := 1) (v := .int .i64 y2) (by simp); have c4 := H.get (b := gx) (o := 0) (v := .int .i64 P.1) (by simp); have c5 := H.get (b := gx) (o := 1) (v := .int .i64 P.2) (by simp); have c6 := H.get (b := gx + 1) (o := 0) (v := .int .i64 Q.1) (by simp); have c7 := H.get (b := gx + 1) (o := 1) (v := .int .i64 Q.2) (by simp); have l0 := H.lt (b := w1.heap.size) (o := 0) (v := .int .i64 x) (by simp); have l1 := H.lt (b := w1.heap.size + 1) (o := 0) (v := .int .i64 x2) (by simp); have l2 := H.lt (b := gx) (o := 0) (v := .int .i64 P.1) (by simp); have l3 := H.lt (b := gx + 1) (o := 0) (v := .int .i64 Q.1) (by simp)))
            go_ret
            exact ⟨rfl, hup H.below⟩
        · exfalso
          rcases hn with hn | hn
          · have := (rIn_iff _ _).1 i1
            simp only at this
            omega
          · have := (rIn_iff _ _).1 i2
            simp only at this
            exact hp (hPQ.2 (by omega))
      · have hn1 : ¬ y < x := by omega
        have hn2 : ¬ y2 < x2 := by omega
        clear hn
        have na : isN (x, y) = false := by
          cases q : isN (x, y)
          · rfl
          · exact absurd ((rOk_none_of k).1 q) hn1
        have nb : isN (x2, y2) = false := by
          cases q : isN (x2, y2)
          · rfl
          · exact absurd ((rOk_none_of k2).1 q) hn2
        by_cases hp : P.2 < P.1
        · have hq := hPQ.1 hp
          clear hPQ hd
          go_wp2_with (first | (go_at_call 39; refine (HI _ (hN.below H.below) (hT.below H.below)).mono ?_; rintro e w2 ⟨rfl, hb⟩; replace H := H.call hb; clear hb; have ca0 := H.get (b := w1.heap.size) (o := 0) (v := .int .i64 x) (by simp); have ca1 := H.get (b := w1.heap.size) (o := 1) (v := .int .i64 y) (by simp); have cal := H.lt (b := w1.heap.size) (o := 0) (v := .int .i64 x) (by simp); have cb0 := H.get (b := w1.heap.size + 1) (o := 0) (v := .int .i64 x2) (by simp); have cb1 := H.get (b := w1.heap.size + 1) (o := 1) (v := .int .i64 y2) (by simp); have cbl := H.lt (b := w1.heap.size + 1) (o := 0) (v := .int .i64 x2) (by simp)) | (go_at_call 38; refine (HS _).mono ?_; rintro e w3 ⟨rfl, hb⟩; replace H := ((H.box _ _ _).box _ _ _).call hb; rw [size_alloc1] at H; clear hb cal cbl ca0 ca1 cb0 cb1; obtain ⟨gx, hgx⟩ : ∃ g, g = w2.heap.size := ⟨_, rfl⟩; rw [← hgx] at H ⊢; clear hgx w2; have c0 := H.get (b := w1.heap.size) (o := 0) (v := .int .i64 x) (by simp); have c1 := H.get (b := w1.heap.size) (o := 1) (v := .int .i64 y) (by simp); have c2 := H.get (b := w1.heap.size + 1) (o := 0) (v := .int .i64 x2) (by simp); have c3 := H.get (b := w1.heap.size + 1) (o := 1) (v := .int .i64 y2) (by simp); have c4 := H.get (b := gx) (o := 0) (v := .int .i64 P.1) (by simp); have c5 := H.get (b := gx) (o := 1) (v := .int .i64 P.2) (by simp); have c6 := H.get (b := gx + 1) (o := 0) (v := .int .i64 Q.1) (by simp); have c7 := H.get (b := gx + 1) (o := 1) (v := .int .i64 Q.2) (by simp); have l0 := H.lt (b := w1.heap.size) (o := 0) (v := .int .i64 x) (by simp); have l1 := H.lt (b := w1.heap.size + 1) (o := 0) (v := .int .i64 x2) (by simp); have l2 := H.lt (b := gx) (o := 0) (v := .int .i64 P.1) (by simp); have l3 := H.lt (b := gx + 1) (o := 0) (v := .int .i64 Q.1) (by simp)) | (go_at_call 18; refine (RangeOk_xy _ _ _).mono ?_; rintro e w6 ⟨rfl, hb⟩; (first | rw [k] | rw [k2]); (first | (replace H := H.call hb) | (replace H := ((H.box _ _ _).box _ _ _).call hb; rw [size_alloc1] at H)); clear hb c0 c1 c2 c3 c4 c5 c6 c7 l0 l1 l2 l3; have c0 := H.get (b := w1.heap.size) (o := 0) (v := .int .i64 x) (by simp); have c1 := H.get (b := w1.heap.size) (o := 1) (v := .int .i64 y) (by simp); have c2 := H.get (b := w1.heap.size + 1) (o := 0) (v := .int .i64 x2) (by simp); have c3 := H.get (b := w1.heap.size + 1) (o := 1) (v := .int .i64 y2) (by simp); have c4 := H.get (b := gx) (o := 0) (v := .int .i64 P.1) (by simp); have c5 := H.get (b := gx) (o := 1) (v := .int .i64 P.2) (by simp); have c6 := H.get (b := gx + 1) (o := 0) (v := .int .i64 Q.1) (by simp); have c7 := H.get (b := gx + 1) (o := 1) (v := .int .i64 Q.2) (by simp); have l0 := H.lt (b := w1.heap.size) (o := 0) (v := .int .i64 x) (by simp); have l1 := H.lt (b := w1.heap.size + 1) (o := 0) (v := .int .i64 x2) (by simp); have l2 := H.lt (b := gx) (o := 0) (v := .int .i64 P.1) (by simp); have l3 := H.lt (b := gx + 1) (o := 0) (v := .int .i64 Q.1) (by simp)) | (go_at_call 24; refine (iIn_xy _ _ _ _ _ (by first | exact hN.below H.below | exact hN.below ((H.box _ _ _).box _ _ _).below)).mono ?_; rintro e w6 ⟨rfl, hb⟩; (first | rw [i1] | rw [i2]); (first | (replace H := H.call hb) | (replace H := ((H.box _ _ _).box _ _ _).call hb; rw [size_alloc1] at H)); clear hb c0 c1 c2 c3 c4 c5 c6 c7 l0 l1 l2 l3; have c0 := H.get (b := w1.heap.size) (o := 0) (v := .int .i64 x) (by simp); have c1 := H.get (b := w1.heap.size) (o := 1) (v := .int .i64 y) (by simp); have c2 := H.get (b := w1.heap.size + 1) (o := 0) (v := .int .i64 x2) (by simp); have c3 := H.get (b := w1.heap.size + 1) (o := 1) (v := .int .i64 y2) (by simp); have c4 := H.get (b := gx) (o := 0) (v := .int .i64 P.1) (by simp); have c5 := H.get (b := gx) (o := 1) (v := .int .i64 P.2) (by simp); have c6 := H.get (b := gx + 1) (o := 0) (v := .int .i64 Q.1) (by simp); have c7 := H.get (b := gx + 1) (o := 1) (v := .int .i64 Q.2) (by simp); have l0 := H.lt (b := w1.heap.size) (o := 0) (v := .int .i64 x) (by simp); have l1 := H.lt (b := w1.heap.size + 1) (o := 0) (v := .int .i64 x2) (by simp); have l2 := H.lt (b := gx) (o := 0) (v := .int .i64 P.1) (by simp); have l3 := H.lt (b := gx + 1) (o := 0) (v := .int .i64 Q.1) (by simp)))
          have H1 := H.weak (L' := [(w1.heap.size, 0, .int .i64 x), (w1.heap.size, 1, .int .i64 y), (w1.heap.size + 1, 0, .int .i64 x2), (w1.heap.size + 1, 1, .int .i64 y2), (gx, 0, .int .i64 P.1), (gx, 1, .int .i64 P.2), (gx + 1, 0, .int .i64 Q.1), (gx + 1, 1, .int .i64 Q.2)]) (by simp)
          clear H c0 c1 c2 c3 c4 c5 c6 c7 l0 l1 l2 l3
          go_loopw [10, 11, 12] (fun kk p q wr => ∃ j : Nat, kk = .int .i64 j ∧ j ≤ 8 ∧ Hd w1 [(w1.heap.size, 0, .int .i64 x), (w1.heap.size, 1, .int .i64 y), (w1.heap.size + 1, 0, .int .i64 x2), (w1.heap.size + 1, 1, .int .i64 y2), (gx, 0, .int .i64 P.1), (gx, 1, .int .i64 P.2), (gx + 1, 0, .int .i64 Q.1), (gx + 1, 1, .int .i64 Q.2)] wr) (fun kk _ _ _ => 8 - (intOf kk).toNat)
          case atStart => exact ⟨0, rfl, by omega, H1⟩
          case round =>
            clear H1
            obtain ⟨j, rfl, hj8, H⟩ := hrel
            have c0 := H.get (b := w1.heap.size) (o := 0) (v := .int .i64 x) (by simp)
            have c1 := H.get (b := w1.heap.size) (o := 1) (v := .int .i64 y) (by simp)
            have c2 := H.get (b := w1.heap.size + 1) (o := 0) (v := .int .i64 x2) (by simp)
            have c3 := H.get (b := w1.heap.size + 1) (o := 1) (v := .int .i64 y2) (by simp)
            have c4 := H.get (b := gx) (o := 0) (v := .int .i64 P.1) (by simp)
            have c5 := H.get (b := gx) (o := 1) (v := .int .i64 P.2) (by simp)
            have c6 := H.get (b := gx + 1) (o := 0) (v := .int .i64 Q.1) (by simp)
            have c7 := H.get (b := gx + 1) (o := 1) (v := .int .i64 Q.2) (by simp)
            have l0 := H.lt (b := w1.heap.size) (o := 0) (v := .int .i64 x) (by simp)
            have l1 := H.lt (b := w1.heap.size + 1) (o := 0) (v := .int .i64 x2) (by simp)
            have l2 := H.lt (b := gx) (o := 0) (v := .int .i64 P.1) (by simp)
            have l3 := H.lt (b := gx + 1) (o := 0) (v := .int .i64 Q.1) (by simp)
            by_cases hlt : j < 8
            · have e9 : IntKind.i64.wrap ((j : Int) + 9) = (j : Int) + 9 := IntWalk.i64_in _ ⟨by omega, by omega⟩
              go_wp2_with (go_at_call 42; refine (within_any _ _ _ _ _ _ _ ((unhide hCC).below H.below) hlen (by omega) (by omega)).mono ?_; rintro e w7 ⟨v, rfl, hv, hb⟩; replace H := H.call hb; (first | (have hv1 := hide (hv k na); have pv1 : v = v := rfl) | (have hv2 := hide (hv k2 nb))); clear hv hb c0 c1 c2 c3 c4 c5 c6 c7 l0 l1 l2 l3; have c0 := H.get (b := w1.heap.size) (o := 0) (v := .int .i64 x) (by simp); have c1 := H.get (b := w1.heap.size) (o := 1) (v := .int .i64 y) (by simp); have c2 := H.get (b := w1.heap.size + 1) (o := 0) (v := .int .i64 x2) (by simp); have c3 := H.get (b := w1.heap.size + 1) (o := 1) (v := .int .i64 y2) (by simp); have c4 := H.get (b := gx) (o := 0) (v := .int .i64 P.1) (by simp); have c5 := H.get (b := gx) (o := 1) (v := .int .i64 P.2) (by simp); have c6 := H.get (b := gx + 1) (o := 0) (v := .int .i64 Q.1) (by simp); have c7 := H.get (b := gx + 1) (o := 1) (v := .int .i64 Q.2) (by simp); have l0 := H.lt (b := w1.heap.size) (o := 0) (v := .int .i64 x) (by simp); have l1 := H.lt (b := w1.heap.size + 1) (o := 0) (v := .int .i64 x2) (by simp); have l2 := H.lt (b := gx) (o := 0) (v := .int .i64 P.1) (by simp); have l3 := H.lt (b := gx + 1) (o := 0) (v := .int .i64 Q.1) (by simp))
              rcases cmp_key (fun hh => hhas _ _ (unhide hv1) (unhide hv2) hh) with hcb | ⟨hcb, hA, hB⟩
              all_goals
                go_wp2_with (first | (go_at_call 50; refine (implCmp_any _ _ _ _).mono ?_; rintro e w8 ⟨rfl, rfl⟩; rw [hcb]) | (go_at_call 22; refine (iHas_xy _ _ _ _ (hN.below H.below)).mono ?_; rintro e w8 ⟨rfl, hb⟩; (first | rw [hA] | rw [hB]); replace H := H.call hb; clear hb c0 c1 c2 c3 c4 c5 c6 c7 l0 l1 l2 l3; have c0 := H.get (b := w1.heap.size) (o := 0) (v := .int .i64 x) (by simp); have c1 := H.get (b := w1.heap.size) (o := 1) (v := .int .i64 y) (by simp); have c2 := H.get (b := w1.heap.size + 1) (o := 0) (v := .int .i64 x2) (by simp); have c3 := H.get (b := w1.heap.size + 1) (o := 1) (v := .int .i64 y2) (by simp); have c4 := H.get (b := gx) (o := 0) (v := .int .i64 P.1) (by simp); have c5 := H.get (b := gx) (o := 1) (v := .int .i64 P.2) (by simp); have c6 := H.get (b := gx + 1) (o := 0) (v := .int .i64 Q.1) (by simp); have c7 := H.get (b := gx + 1) (o := 1) (v := .int .i64 Q.2) (by simp); have l0 := H.lt (b := w1.heap.size) (o := 0) (v := .int .i64 x) (by simp); have l1 := H.lt (b := w1.heap.size + 1) (o := 0) (v := .int .i64 x2) (by simp); have l2 := H.lt (b := gx) (o := 0) (v := .int .i64 P.1) (by simp); have l3 := H.lt (b := gx + 1) (o := 0) (v := .int .i64 Q.1) (by simp)))
                exact ⟨⟨j + 1, by go_num, by omega, H.weak (by simp)⟩, by simp [intOf]; omega⟩
            · obtain rfl : j = 8 := by omega
              go_wp2_with fail
              go_ret
              exact ⟨rfl, hup H.below⟩
        · have hq : ¬ Q.2 < Q.1 := fun q => hp (hPQ.2 q)
          have hpd : decide (P.2 < P.1) = false := by simpa using hp
          have hqd : decide (Q.2 < Q.1) = false := by simpa using hq
          have hp' : P.1 ≤ P.2 := by omega
          have hq' : Q.1 ≤ Q.2 := by omega
          clear hPQ hd hp hq
          go_wp2_with (first | (go_at_call 39; refine (HI _ (hN.below H.below) (hT.below H.below)).mono ?_; rintro e w2 ⟨rfl, hb⟩; replace H := H.call hb; clear hb; have ca0 := H.get (b := w1.heap.size) (o := 0) (v := .int .i64 x) (by simp); have ca1 := H.get (b := w1.heap.size) (o := 1) (v := .int .i64 y) (by simp); have cal := H.lt (b := w1.heap.size) (o := 0) (v := .int .i64 x) (by simp); have cb0 := H.get (b := w1.heap.size + 1) (o := 0) (v := .int .i64 x2) (by simp); have cb1 := H.get (b := w1.heap.size + 1) (o := 1) (v := .int .i64 y2) (by simp); have cbl := H.lt (b := w1.heap.size + 1) (o := 0) (v := .int .i64 x2) (by simp)) | (go_at_call 38; refine (HS _).mono ?_; rintro e w3 ⟨rfl, hb⟩; replace H := ((H.box _ _ _).box _ _ _).call hb; rw [size_alloc1] at H; clear hb cal cbl ca0 ca1 cb0 cb1; obtain ⟨gx, hgx⟩ : ∃ g, g = w2.heap.size := ⟨_, rfl⟩; rw [← hgx] at H ⊢; clear hgx w2; have c0 := H.get (b := w1.heap.size) (o := 0) (v := .int .i64 x) (by simp); have c1 := H.get (b := w1.heap.size) (o := 1) (v := .int .i64 y) (by simp); have c2 := H.get (b := w1.heap.size + 1) (o := 0) (v := .int .i64 x2) (by simp); have c3 := H.get (b := w1.heap.size + 1) (o := 1) (v := .int .i64 y2) (by simp); have c4 := H.get (b := gx) (o := 0) (v := .int .i64 P.1) (by simp); have c5 := H.get (b := gx) (o := 1) (v := .int .i64 P.2) (by simp); have c6 := H.get (b := gx + 1) (o := 0) (v := .int .i64 Q.1) (by simp); have c7 := H.get (b := gx + 1) (o := 1) (v := .int .i64 Q.2) (by simp); have l0 := H.lt (b := w1.heap.size) (o := 0) (v := .int .i64 x) (by simp); have l1 := H.lt (b := w1.heap.size + 1) (o := 0) (v := .int .i64 x2) (by simp); have l2 := H.lt (b := gx) (o := 0) (v := .int .i64 P.1) (by simp); have l3 := H.lt (b := gx + 1) (o := 0) (v := .int .i64 Q.1) (by simp)) | (go_at_call 18; refine (RangeOk_xy _ _ _).mono ?_; rintro e w6 ⟨rfl, hb⟩; (first | rw [k] | rw [k2]); (first | (replace H := H.call hb) | (replace H := ((H.box _ _ _).box _ _ _).call hb; rw [size_alloc1] at H)); clear hb c0 c1 c2 c3 c4 c5 c6 c7 l0 l1 l2 l3; have c0 := H.get (b := w1.heap.size) (o := 0) (v := .int .i64 x) (by simp); have c1 := H.get (b := w1.heap.size) (o := 1) (v := .int .i64 y) (by simp); have c2 := H.get (b := w1.heap.size + 1) (o := 0) (v := .int .i64 x2) (by simp); have c3 := H.get (b := w1.heap.size + 1) (o := 1) (v := .int .i64 y2) (by simp); have c4 := H.get (b := gx) (o := 0) (v := .int .i64 P.1) (by simp); have c5 := H.get (b := gx) (o := 1) (v := .int .i64 P.2) (by simp); have c6 := H.get (b := gx + 1) (o := 0) (v := .int .i64 Q.1) (by simp); have c7 := H.get (b := gx + 1) (o := 1) (v := .int .i64 Q.2) (by simp); have l0 := H.lt (b := w1.heap.size) (o := 0) (v := .int .i64 x) (by simp); have l1 := H.lt (b := w1.heap.size + 1) (o := 0) (v := .int .i64 x2) (by simp); have l2 := H.lt (b := gx) (o := 0) (v := .int .i64 P.1) (by simp); have l3 := H.lt (b := gx + 1) (o := 0) (v := .int .i64 Q.1) (by simp)) | (go_at_call 24; refine (iIn_xy _ _ _ _ _ (by first | exact hN.below H.below | exact hN.below ((H.box _ _ _).box _ _ _).below)).mono ?_; rintro e w6 ⟨rfl, hb⟩; (first | rw [i1] | rw [i2]); (first | (replace H := H.call hb) | (replace H := ((H.box _ _ _).box _ _ _).call hb; rw [size_alloc1] at H)); clear hb c0 c1 c2 c3 c4 c5 c6 c7 l0 l1 l2 l3; have c0 := H.get (b := w1.heap.size) (o := 0) (v := .int .i64 x) (by simp); have c1 := H.get (b := w1.heap.size) (o := 1) (v := .int .i64 y) (by simp); have c2 := H.get (b := w1.heap.size + 1) (o := 0) (v := .int .i64 x2) (by simp); have c3 := H.get (b := w1.heap.size + 1) (o := 1) (v := .int .i64 y2) (by simp); have c4 := H.get (b := gx) (o := 0) (v := .int .i64 P.1) (by simp); have c5 := H.get (b := gx) (o := 1) (v := .int .i64 P.2) (by simp); have c6 := H.get (b := gx + 1) (o := 0) (v := .int .i64 Q.1) (by simp); have c7 := H.get (b := gx + 1) (o := 1) (v := .int .i64 Q.2) (by simp); have l0 := H.lt (b := w1.heap.size) (o := 0) (v := .int .i64 x) (by simp); have l1 := H.lt (b := w1.heap.size + 1) (o := 0) (v := .int .i64 x2) (by simp); have l2 := H.lt (b := gx) (o := 0) (v := .int .i64 P.1) (by simp); have l3 := H.lt (b := gx + 1) (o := 0) (v := .int .i64 Q.1) (by simp)))
          have H1 := H.weak (L' := [(w1.heap.size, 0, .int .i64 x), (w1.heap.size, 1, .int .i64 y), (w1.heap.size + 1, 0, .int .i64 x2), (w1.heap.size + 1, 1, .int .i64 y2), (gx, 0, .int .i64 P.1), (gx, 1, .int .i64 P.2), (gx + 1, 0, .int .i64 Q.1), (gx + 1, 1, .int .i64 Q.2)]) (by simp)
          clear H c0 c1 c2 c3 c4 c5 c6 c7 l0 l1 l2 l3
          go_loopw [10, 11, 12] (fun kk p q wr => ∃ j : Nat, kk = .int .i64 j ∧ j ≤ 8 ∧ Hd w1 [(w1.heap.size, 0, .int .i64 x), (w1.heap.size, 1, .int .i64 y), (w1.heap.size + 1, 0, .int .i64 x2), (w1.heap.size + 1, 1, .int .i64 y2), (gx, 0, .int .i64 P.1), (gx, 1, .int .i64 P.2), (gx + 1, 0, .int .i64 Q.1), (gx + 1, 1, .int .i64 Q.2)] wr) (fun kk _ _ _ => 8 - (intOf kk).toNat)
          case atStart => exact ⟨0, rfl, by omega, H1⟩
          case round =>
            clear H1
            obtain ⟨j, rfl, hj8, H⟩ := hrel
            have c0 := H.get (b := w1.heap.size) (o := 0) (v := .int .i64 x) (by simp)
            have c1 := H.get (b := w1.heap.size) (o := 1) (v := .int .i64 y) (by simp)
            have c2 := H.get (b := w1.heap.size + 1) (o := 0) (v := .int .i64 x2) (by simp)
            have c3 := H.get (b := w1.heap.size + 1) (o := 1) (v := .int .i64 y2) (by simp)
            have c4 := H.get (b := gx) (o := 0) (v := .int .i64 P.1) (by simp)
            have c5 := H.get (b := gx) (o := 1) (v := .int .i64 P.2) (by simp)
            have c6 := H.get (b := gx + 1) (o := 0) (v := .int .i64 Q.1) (by simp)
            have c7 := H.get (b := gx + 1) (o := 1) (v := .int .i64 Q.2) (by simp)
            have l0 := H.lt (b := w1.heap.size) (o := 0) (v := .int .i64 x) (by simp)
            have l1 := H.lt (b := w1.heap.size + 1) (o := 0) (v := .int .i64 x2) (by simp)
            have l2 := H.lt (b := gx) (o := 0) (v := .int .i64 P.1) (by simp)
            have l3 := H.lt (b := gx + 1) (o := 0) (v := .int .i64 Q.1) (by simp)
            by_cases hlt : j < 8
            · have e9 : IntKind.i64.wrap ((j : Int) + 9) = (j : Int) + 9 := IntWalk.i64_in _ ⟨by omega, by omega⟩
              go_wp2_with (go_at_call 42; refine (within_any _ _ _ _ _ _ _ ((unhide hCC).below H.below) hlen (by omega) (by omega)).mono ?_; rintro e w7 ⟨v, rfl, hv, hb⟩; replace H := H.call hb; (first | (have hv1 := hide (hv k na); have pv1 : v = v := rfl) | (have hv2 := hide (hv k2 nb))); clear hv hb c0 c1 c2 c3 c4 c5 c6 c7 l0 l1 l2 l3; have c0 := H.get (b := w1.heap.size) (o := 0) (v := .int .i64 x) (by simp); have c1 := H.get (b := w1.heap.size) (o := 1) (v := .int .i64 y) (by simp); have c2 := H.get (b := w1.heap.size + 1) (o := 0) (v := .int .i64 x2) (by simp); have c3 := H.get (b := w1.heap.size + 1) (o := 1) (v := .int .i64 y2) (by simp); have c4 := H.get (b := gx) (o := 0) (v := .int .i64 P.1) (by simp); have c5 := H.get (b := gx) (o := 1) (v := .int .i64 P.2) (by simp); have c6 := H.get (b := gx + 1) (o := 0) (v := .int .i64 Q.1) (by simp); have c7 := H.get (b := gx + 1) (o := 1) (v := .int .i64 Q.2) (by simp); have l0 := H.lt (b := w1.heap.size) (o := 0) (v := .int .i64 x) (by simp); have l1 := H.lt (b := w1.heap.size + 1) (o := 0) (v := .int .i64 x2) (by simp); have l2 := H.lt (b := gx) (o := 0) (v := .int .i64 P.1) (by simp); have l3 := H.lt (b := gx + 1) (o := 0) (v := .int .i64 Q.1) (by simp))
              rcases cmp_key (fun hh => hhas _ _ (unhide hv1) (unhide hv2) hh) with hcb | ⟨hcb, hA, hB⟩
              all_goals
                go_wp2_with (first | (go_at_call 50; refine (implCmp_any _ _ _ _).mono ?_; rintro e w8 ⟨rfl, rfl⟩; rw [hcb]) | (go_at_call 22; refine (iHas_xy _ _ _ _ (hN.below H.below)).mono ?_; rintro e w8 ⟨rfl, hb⟩; (first | rw [hA] | rw [hB]); replace H := H.call hb; clear hb c0 c1 c2 c3 c4 c5 c6 c7 l0 l1 l2 l3; have c0 := H.get (b := w1.heap.size) (o := 0) (v := .int .i64 x) (by simp); have c1 := H.get (b := w1.heap.size) (o := 1) (v := .int .i64 y) (by simp); have c2 := H.get (b := w1.heap.size + 1) (o := 0) (v := .int .i64 x2) (by simp); have c3 := H.get (b := w1.heap.size + 1) (o := 1) (v := .int .i64 y2) (by simp); have c4 := H.get (b := gx) (o := 0) (v := .int .i64 P.1) (by simp); have c5 := H.get (b := gx) (o := 1) (v := .int .i64 P.2) (by simp); have c6 := H.get (b := gx + 1) (o := 0) (v := .int .i64 Q.1) (by simp); have c7 := H.get (b := gx + 1) (o := 1) (v := .int .i64 Q.2) (by simp); have l0 := H.lt (b := w1.heap.size) (o := 0) (v := .int .i64 x) (by simp); have l1 := H.lt (b := w1.heap.size + 1) (o := 0) (v := .int .i64 x2) (by simp); have l2 := H.lt (b := gx) (o := 0) (v := .int .i64 P.1) (by simp); have l3 := H.lt (b := gx + 1) (o := 0) (v := .int .i64 Q.1) (by simp)))
                exact ⟨⟨j + 1, by go_num, by omega, H.weak (by simp)⟩, by simp [intOf]; omega⟩
            · obtain rfl : j = 8 := by omega
              go_wp2_with fail
              go_ret
              exact ⟨rfl, hup H.below⟩
set_option maxRecDepth 100000 in
theorem lifted (os : Os) (started : os.Started) (H : Type) (enc : TypeId × Value → H) :
    ReturnsInHanded {} Tryd.checked os 15 .any (fun w args => (Rows.fnRangeCmpSpec.pre enc Tryd.prog Tryd.f15 [] false w args ∧ laidMetH Tryd.prog laid w) ∧ sizedMet enc Tryd.prog Tryd.f15 (OpenSpec.ofChange Rows.fnRangeCmpSpec) false w args)
      (Rows.fnRangeCmpSpec.post enc Tryd.prog Tryd.f15 false true false false) := by
  refine returnsInHanded_of_change_and (C := Tryd.checked) (X := fun w _ => laidMetH Tryd.prog laid w) (fun _ _ _ hh h => h.of_heap hh) own started (by kernel_rfl) Tryd.func15
    (ChangeSpec.witness_shaped (enc := enc) (C := Tryd.checked) (os := os) (X := fun w _ => laidMetH Tryd.prog laid w) false (World.doorLaid Tryd.prog 400 os) #[.slice none 0 0] 8 rfl (World.shaped_of_RefB (by kernel_rfl) (by kernel_rfl)) (by kernel_rfl) (by kernel_rfl) (by kernel_rfl) (door_met os _)) ?_
  intro W base args ds gs before hval0 hW _ _ hL _
  have hval : ∀ (j : Nat) t v, Tryd.f15.params[j]? = some t → args[j]? = some v → Value.okWide Tryd.prog W .any base t v := hval0
  have hW' := hW
  obtain ⟨p, q, hA0, hV0, rfl, hfz, hnd⟩ := hW
  have hA : DataW.TrodAll enc Tryd.prog W 0 (fun _ => true) true Tryd.f15.params.toList args.toList ds p := hA0
  have hV : DataW.TrodVars enc Tryd.prog W (fun _ => true) Rows.fnRangeCmpSpec.vars gs q := hV0
  rw [Tryd.params15] at hA hval
  obtain ⟨v0, vs0, d0, ds0, p0, q0, hargs, rfl, rfl, h0, r0⟩ := trodAll_cons hA
  obtain ⟨rfl, rfl, rfl⟩ := trodAll_nil r0
  obtain rfl : args = #[v0] := by cases args; simp_all
  have k0 := h0
  have lt0 : ∀ x ∈ p0, x.block < W.heap.size := by obtain ⟨m, hm⟩ := k0; exact DataW.trod_lt m _ _ _ hm
  obtain ⟨a0, len0, cap0, rfl⟩ := okWide_slice Tryd.underlying44 (hval 0 44 v0 rfl rfl)
  obtain ⟨z0, w0⟩ : ∃ zs, IsRow .u8 W a0 len0 cap0 zs := by
    obtain ⟨fuel, hf⟩ := h0
    rcases open_ints Tryd.underlying44 Tryd.underlying5 (by kernel_rfl) hf with ⟨hcs, _⟩ | ⟨x, l, c, zs, hcs, _, hl, hm, hz, _, hcell, hwz⟩
    · simp [Value.cells] at hcs
      obtain ⟨rfl, rfl, rfl⟩ := hcs
      exact ⟨[], .inl ⟨rfl, rfl, rfl, rfl⟩⟩
    · simp [Value.cells] at hcs
      obtain ⟨rfl, rfl, rfl⟩ := hcs
      exact ⟨zs, .inr ⟨_, rfl, hl, hm, by simpa using hz, hcell, hwz⟩⟩
  have hL' := laid_of hL
  clear hA0 hval0
  refine (walk a0 len0 cap0 z0 W w0 hL'.1 hL'.2).mono fun e W' ⟨he, bel⟩ => ?_
  subst he
  have kV := Below.trodVars laidOut bel (ns := Rows.fnRangeCmpSpec.vars) (by kernel_rfl) hV
  have hlen : gs.length = 2 := vars_len hV
  match gs, hlen with
  | [g0, g1], _ =>
    exact ⟨_, rfl, _, _, _, [], _, _, hW', trodAll_mk1 (shut_bool Tryd.underlying4 _), (trodAll_cons_mk (Below.trod laidOut (by kernel_rfl) (of_decide_eq_true (by kernel_rfl)) k0 bel lt0) trodAll_mk0), kV, bel.frame _, fun h => by cases h⟩

theorem over : Rows.FnRangeCmpSaid :=
  OpenClaim.holds_of_wide 15 Tryd.f15 rfl rfl rfl rfl rfl rfl rfl ⟨rfl, rfl, rfl, rfl, rfl⟩ rfl rfl rfl rfl rfl (by kernel_rfl) Tryd.func15 (by kernel_rfl)
    (of_decide_eq_true (by kernel_rfl)) (by unfold Func.isWrapper; first | (rw [if_pos (by decide +kernel)]; kernel_rfl) | (rw [if_neg (by decide +kernel)]; exact ⟨rfl, rfl⟩))
    (fun os started H enc _ => lifted os started H enc)
end Go.Proofs.YtjjglklbfigmiaaDoor.fnRangeCmp
namespace Go.Proofs.YtjjglklbfigmiaaDoor
open Go
/-- THE STATEMENT: the tied card. -/
theorem fnRangeCmp_holds : Rows.FnRangeCmpCardSaid :=
  Claim7.holds_tied_plain_at .later [] [.data, .data] true Rows.fnRangeCmpCard.stood.harness true
    fnRangeCmp.over (fun _ h => by cases h) (by kernel_rfl) (fun _ h => by cases h) fnRangeCmp_row_tie rfl ⟨rfl, rfl⟩ (by kernel_rfl) rfl
    (fun f fn hf hfn => by
      obtain rfl : f = 15 := Option.some.inj ((show Tryd.prog.funcNamed Rows.fnRangeCmpRow.func = some 15 by kernel_rfl).symm.trans hf) |>.symm
      obtain rfl : fn = Tryd.f15 := (Option.some.inj (Tryd.func15.symm.trans hfn)).symm
      exact ⟨by kernel_rfl, fun j t ht => by
        rw [Tryd.params15] at ht
        have hm : t ∈ [44] := by simpa using Array.mem_of_getElem? ht
        have hall : ([44].all fun u => !Tryd.prog.wantsStandIn u) = true := by kernel_rfl
        exact (show Tryd.prog.wantsStandIn t = false by simpa using List.all_eq_true.1 hall t hm)⟩)
    (by kernel_rfl)
#print axioms fnRangeCmp_holds
end Go.Proofs.YtjjglklbfigmiaaDoor
