/-
  The law on the tokens of a text, walked.
-/
import Derived.Test.YtggkkhlghlghkaaDoorMm
namespace Go.Proofs.YtggkkhlghlghkaaDoor.lex
open Go.RowKit Go.Proofs.YtggkkhlghlghkaaDoor.num
set_option linter.unusedVariables false

/-- What is kept while the world grows: the table, a fault's cells, two rows of tokens. -/
structure Kp (w : World) (n4 b0 b1 : Nat) (v0 v1 : Value) (n : Nat) (x0 x1 : List Value) (F : Obj) (wx : World) : Prop where
  sg : Sg wx
  cell : wx.heap[n4]? = some F
  row0 : wx.ownsRow b0 32 4 v0 n x0
  row1 : wx.ownsRow b1 32 4 v1 n x1
  below : Below w.heap.size w wx
theorem Kp.next {w : World} {n4 b0 b1 : Nat} {v0 v1 : Value} {n : Nat} {x0 x1 : List Value} {F : Obj} {wx wy : World} (h : Kp w n4 b0 b1 v0 v1 n x0 x1 F wx) (hb : Below wx.heap.size wx wy) : Kp w n4 b0 b1 v0 v1 n x0 x1 F wy :=
  ⟨h.sg.below hb h.sg.size, at_below hb h.cell (Array.getElem?_eq_some_iff.1 h.cell).1, row_below h.row0 hb, row_below h.row1 hb, h.below.trans (hb.mono h.below.size)⟩
theorem Kp.alloc {w : World} {n4 b0 b1 : Nat} {v0 v1 : Value} {n : Nat} {x0 x1 : List Value} {F : Obj} {wx : World} (h : Kp w n4 b0 b1 v0 v1 n x0 x1 F wx) (o : Obj) : Kp w n4 b0 b1 v0 v1 n x0 x1 F (wx.alloc o) :=
  h.next ((Below.refl _ _).alloc (Nat.le_refl _) _)

set_option maxHeartbeats 4000000 in
set_option maxRecDepth 100000 in
theorem lexTokens_walk (s : ByteArray) (w : World) (h : Sg w) :
    Calls Tryd.prog 7 #[.string s] w fun e w' => e = .returned (.bool true) ∧ Below w.heap.size w w' := by
  by_cases hlen : 1048576 < s.size
  · go_enter Tryd.func7, Tryd.ntmps7
    go_wp2
    go_ret
    exact ⟨rfl, Below.refl _ _⟩
  have hI0 := fun w hg => implLex_any s w (by omega) hg
  have hS := fun w => specLex_any s w (by omega)
  have hfew := lexAll_few s
  generalize lexAll s = R at *
  obtain ⟨l, c, p⟩ := R
  have hI : ∀ w, Sg w → Calls Tryd.prog 10 #[.string s] w fun e w' => ∃ v, e = .returned (.tuple #[v, .agg #[.int .i64 c, .int .i64 p]]) ∧ w'.ownsRow w.heap.size 32 4 v l.length (rowOf l) ∧ Below w.heap.size w w' := hI0
  clear hI0
  simp only at hS hfew
  have heq := fun v1 v2 b1 b2 w => eqTokenS_same l v1 v2 b1 b2 w (by omega)
  have hef := eqFault_same c p
  have hmark := fun v b w => mark_any l v b w (by omega)
  have hheld := fun v b w => held_any l v b w (by omega)
  have H := hide h
  clear h
  go_enter Tryd.func7, Tryd.ntmps7
  go_wp2_with fail
  refine (hS _).mono ?_
  rintro e w1 ⟨v0, rfl, hr0, hb0⟩
  have R0 := hide hr0
  have B0 := hide hb0
  have S0 := hide ((unhide H).below hb0 (unhide H).size)
  clear hr0 hb0 H
  go_wp2_with fail
  have b1 : Below w1.heap.size w1 (w1.alloc (.cells #[.int .i64 c, .int .i64 p] 26)) := (Below.refl _ w1).alloc (Nat.le_refl _) _
  refine (hI _ ((unhide S0).below b1 (unhide S0).size)).mono ?_
  rintro e w2 ⟨v1, rfl, hr1, hb1⟩
  have K2 : Hid (Kp w w1.heap.size w.heap.size (w1.heap.size + 1) v0 v1 l.length (rowOf l) (rowOf l) (.cells #[.int .i64 c, .int .i64 p] 26) w2) :=
    hide ⟨((unhide S0).below b1 (unhide S0).size).below hb1 (by have := (unhide S0).size; simp), at_below hb1 (one_first _ _) (by simp), row_below ((unhide R0).alloc _) hb1, by simpa using hr1, (unhide B0).trans ((b1.trans (hb1.mono (by simp))).mono (unhide B0).size)⟩
  have hne : Hid (∀ g, v1.ownBlock = some g → v0.ownBlock ≠ some g) := hide (fun g hg h0 => by
    have e1 := row_lt (unhide R0) g h0
    have e2 := row_block hr1 g hg
    simp at e2
    omega)
  have hn1 : Hid (∀ g, v1.ownBlock = some g → w1.heap.size < g) := hide (fun g hg => by
    have e2 := row_block hr1 g hg
    simp at e2
    omega)
  have hw1 := (unhide B0).size
  clear hr1 hb1 b1 R0 B0 S0
  go_wp2_with fail
  have K2a := hide ((unhide K2).alloc (.cells #[.int .i64 c, .int .i64 p] 26))
  refine (heq _ _ _ _ _ (unhide K2a).row1 (unhide K2a).row0).mono ?_
  rintro e w3 ⟨rfl, hb⟩
  have K3 := hide ((unhide K2a).next hb)
  obtain ⟨c0, c1⟩ := f2 (unhide K3).cell
  obtain ⟨d0, d1⟩ := f2 (at_below hb (one_first _ _) (by simp))
  clear hb K2 K2a
  go_wp2_with fail
  refine (hef _).mono ?_
  rintro e w4 ⟨rfl, hb⟩
  have K4 := hide ((unhide K3).next hb)
  clear hb K3 c0 c1 d0 d1
  go_wp2_with fail
  refine (hmark _ _ _ (unhide K4).row1).mono ?_
  rintro e w5 ⟨rfl, hr5, hg5⟩
  have K5 : Hid (Kp w w1.heap.size w.heap.size (w1.heap.size + 1) v0 v1 l.length (rowOf l) (rowOf (marked 1 l l.length)) (.cells #[.int .i64 c, .int .i64 p] 26) w5) :=
    hide ⟨by
      obtain ⟨t, fr, h0⟩ := (unhide K4).sg
      exact ⟨t, fr, at_grown hg5 h0 (fun g hg => by have := unhide hn1 g hg; omega)⟩, at_grown hg5 (unhide K4).cell (fun g hg => unhide hn1 g hg), row_grown (unhide K4).row0 hg5 (unhide hne), hr5, (unhide K4).below.grown hg5 (unhide K4).below.size (fun g hg => by have := unhide hn1 g hg; omega)⟩
  clear hr5 hg5 K4
  go_wp2_with fail
  refine (hheld _ _ _ (unhide K5).row1).mono ?_
  rintro e w6 ⟨rfl, hb⟩
  have K6 := hide ((unhide K5).next hb)
  clear hb K5
  go_wp2_with fail
  refine (hI _ (unhide K6).sg).mono ?_
  rintro e w7 ⟨v2, rfl, hr2, hb⟩
  have K7 := hide ((unhide K6).next hb)
  have R2 := hide hr2
  clear hb K6 hr2
  go_wp2_with fail
  have K7a := hide ((unhide K7).alloc (.cells #[.int .i64 c, .int .i64 p] 26))
  refine (heq _ _ _ _ _ ((unhide R2).alloc _) (unhide K7a).row0).mono ?_
  rintro e w8 ⟨rfl, hb⟩
  have K8 := hide ((unhide K7a).next hb)
  obtain ⟨c0, c1⟩ := f2 (unhide K8).cell
  obtain ⟨d0, d1⟩ := f2 (at_below hb (one_first _ _) (by simp))
  clear hb K7 K7a R2
  go_wp2_with fail
  refine (hef _).mono ?_
  rintro e w9 ⟨rfl, hb⟩
  have K9 := hide ((unhide K8).next hb)
  clear hb K8 c0 c1 d0 d1
  go_wp2_with fail
  refine (hheld _ _ _ (unhide K9).row1).mono ?_
  rintro e w10 ⟨rfl, hb⟩
  have K10 := hide ((unhide K9).next hb)
  clear hb K9
  go_wp2
  go_ret
  exact ⟨rfl, (unhide K10).below⟩
end Go.Proofs.YtggkkhlghlghkaaDoor.lex
