/-
  The program's set of names: made, and taken up into.
-/
import Derived.Test.YtkfikpapgmamdaaI
namespace Go.Proofs.Ytkfikpapgmamdaa.nk
open Go.RowKit Go.Maps Go.WideAt Go.WideShapes Go.ChangeMaps Go.Proofs.Ytkfikpapgmamdaa.num
set_option linter.unusedVariables false

set_option maxRecDepth 100000 in
theorem newSet_any (w : World) : Calls Try.prog 26 #[] w fun e w' => e = .returned (.agg #[.map (some (w.heap.size + 1)), .int .i64 0, .int .i64 0, .int .i64 0, .int .i64 0, .int .i64 0, .int .i64 0]) ∧
    w'.ownsMap Try.prog 9 meanElem (w.heap.size + 1) 0 (.map []) ∧ w'.heap.size = w.heap.size + 2 ∧ Below w.heap.size w w' := by
  have hmm := @run_makeMap Try.prog
  go_enter Try.func26, Try.ntmps26
  go_wp2
  refine bodyPost_ret (results_cell1 rfl _ _ w.heap.size 68 _ (0, 0) _ rfl (at_alloc (at_new _ _)) Try.underlying68 rfl (by kernel_rfl)) rfl ?_
  refine ⟨rfl, ?_, by simp, below2 _ _ _⟩
  have := World.ownsMap_made (w.alloc (.cells #[.map (some (w.heap.size + 1)), .int .i64 0, .int .i64 0, .int .i64 0, .int .i64 0, .int .i64 0, .int .i64 0] 68)) Try.prog 9 meanElem
  rw [size_alloc1] at this
  exact this

variable {w : World} {g o m n : Nat} {M : List (ByteArray × Int × Int)} {c : Nat → Int}
theorem NS.bumped {w1 : World} {k : Nat} {M' : List (ByteArray × Int × Int)} {D' : DataW Unit} (h : NS w g o m n M c) (hk6 : k < 6) (ht : w1 = w ∨ w.mapTurned w1 m) (hown : w1.ownsMap Try.prog 9 meanElem m (n + 1) D') (hrep : Rep D' M') :
    NS (w1.setCell ⟨g, o + 1 + k, none⟩ (.int .i64 (c k + 1))) g o m (n + 1) M' (bump c k) ∧ Turn w (w1.setCell ⟨g, o + 1 + k, none⟩ (.int .i64 (c k + 1))) g m (o + 1 + k) := by
  have T : Turn w (w1.setCell ⟨g, o + 1 + k, none⟩ (.int .i64 (c k + 1))) g m (o + 1 + k) := Turn.of ht h.gm
  refine ⟨⟨by rw [T.cell _ (by omega)]; exact h.mp, fun i hi => ?_, fun i => by rw [T.fz]; exact h.fz i, ⟨D', hown.setCell (Ne.symm h.gm) _, hrep⟩, h.gm, by rw [T.size]; exact h.lt⟩, T⟩
  unfold bump
  by_cases e : i = k
  · subst e
    rw [if_pos rfl]
    have hc1 : w1.cell? ⟨g, o + 1 + i, none⟩ = some (.int .i64 (c i)) := by
      rcases ht with rfl | ht
      · exact h.ct i hi
      · rw [cell_grown ht.grown h.lt (fun e => h.gm (by simpa using e))]; exact h.ct i hi
    exact cell_set_eq hc1
  · rw [if_neg e, T.cell _ (by omega)]
    exact h.ct i hi

theorem NS.drew (h : NS w g o m n M c) : NS w.drew g o m n M c := ⟨h.mp, h.ct, h.fz, h.own, h.gm, h.lt⟩
theorem Turn.drew {w' : World} {q : Nat} (h : Turn w w' g m q) : Turn w w'.drew g m q := ⟨h.os, h.tape, h.output, h.size, h.block, h.cell, h.fz⟩
theorem Turn.from_drew {w' : World} {q : Nat} (h : Turn w.drew w' g m q) : Turn w w' g m q := ⟨h.os, h.tape, h.output, h.size, h.block, h.cell, h.fz⟩

set_option maxHeartbeats 4000000 in
set_option maxRecDepth 100000 in
theorem add_hit (k : Nat) (s : ByteArray) (h : NS w g o m n M c) (hk : 0 < k) (hk6 : k < 6) (hs : s.size ≤ maxLen) (hc : 0 ≤ c k) (hc2 : c k ≤ 16777216) (hh : (look M s).1 ≠ 0) :
    Calls Try.prog 27 #[.pointer (some ⟨g, o, none⟩), .int .i64 (k : Int), .int .i64 0, .string s] w fun e w' => e = .returned (.tuple #[]) ∧ NS w' g o m (n + 1) (M ++ [(s, (k : Int), c k)]) (bump c k) ∧ Turn w w' g m (o + 1 + k) := by
  have hkey : keyOf Try.prog 9 (.string s) = some (.string s.data.toList) := Go.WideMaps.keyOf_string_mk Try.underlying9 hs
  have c0 := h.mp
  have c1 := h.ct k hk6
  have f1 := h.fz (o + 1 + k)
  have wl := h.lt
  obtain ⟨D, hown, hrep⟩ := h.own
  have hat := hrep.2.2 s
  have HN := hide (h.bumped hk6 (.inl rfl) (hown.mono (Nat.le_succ n)) (hrep.hit (c k) (by omega : (0 : Int) < (k : Int)) hh))
  clear h hrep
  generalize (look M s).1 = lk at *
  generalize (look M s).2 = lp at *
  generalize c k = ck at *
  go_enter Try.func27, Try.ntmps27
  go_wp2_with (at_lookup; refine wpList_lookup_mean _ rfl _ _ 65 rfl 9 48 strKey Try.underlying65 (zeroMean _) m n D rfl hown _ _ rfl hkey lk lp 0 hat ?_)
  go_region
  refine bodyPost_end (results_none rfl _ _ _) rfl ?_
  exact ⟨rfl, (unhide HN).1.drew, (unhide HN).2.drew⟩

set_option maxHeartbeats 8000000 in
set_option maxRecDepth 100000 in
theorem add_miss (k : Nat) (s : ByteArray) (h : NS w g o m n M c) (hk : 0 < k) (hk6 : k < 6) (hs : s.size ≤ maxLen) (hn : n < 16777216) (hc : 0 ≤ c k) (hc2 : c k ≤ 16777216) (hh : (look M s).1 = 0) :
    Calls Try.prog 27 #[.pointer (some ⟨g, o, none⟩), .int .i64 (k : Int), .int .i64 0, .string s] w fun e w' => e = .returned (.tuple #[]) ∧ NS w' g o m (n + 1) (M ++ [(s, (k : Int), c k)]) (bump c k) ∧ Turn w w' g m (o + 1 + k) := by
  have hkey : keyOf Try.prog 9 (.string s) = some (.string s.data.toList) := Go.WideMaps.keyOf_string_mk Try.underlying9 hs
  have c0 := h.mp
  have c1 := h.ct k hk6
  have wl := h.lt
  obtain ⟨D, hown, hrep⟩ := h.own
  have hat := hrep.2.2 s
  rw [look_zero hrep.2.1 hh] at hat
  obtain ⟨w1, hrun, hown1, hturn⟩ := (World.ownsMap.drew hown).store (t := 65) (e := 48) (key := .string s) (val := .agg #[.int .i64 (k : Int), .int .i64 (c k), .int .i64 0]) strKey Try.underlying65 (by unfold maxLen; omega) hkey (meanElem_mk (k : Int) (c k) 0)
  have HN := hide (h.drew.bumped hk6 (.inr hturn) hown1 (hrep.miss (c k) (by omega : (0 : Int) < (k : Int)) hh))
  have d1 : w1.cell? ⟨g, o + 1 + k, none⟩ = some (.int .i64 (c k)) := by
    rw [cell_grown hturn.grown (by exact wl) (fun e => h.gm (by simpa using e))]; exact c1
  have f1 : w1.frozen? ⟨g, o + 1 + k, none⟩ = false := by rw [hturn.frozen]; exact h.fz _
  have wl1 : g < w1.heap.size := Nat.lt_of_lt_of_le wl hturn.grown.size
  clear h hrep hturn hown1
  generalize c k = ck at *
  go_enter Try.func27, Try.ntmps27
  go_wp2_with (at_lookup; refine wpList_lookup_mean _ rfl _ _ 65 rfl 9 48 strKey Try.underlying65 (zeroMean _) m n D rfl hown _ _ rfl hkey 0 0 0 hat ?_)
  go_region
  go_wp2
  go_region
  refine bodyPost_end (results_none rfl _ _ _) rfl ?_
  exact ⟨rfl, (unhide HN).1.drew, (unhide HN).2.from_drew.drew⟩

theorem add_any (k : Nat) (s : ByteArray) (h : NS w g o m n M c) (hk : 0 < k) (hk6 : k < 6) (hs : s.size ≤ maxLen) (hn : n < 16777216) (hc : 0 ≤ c k) (hc2 : c k ≤ 16777216) :
    Calls Try.prog 27 #[.pointer (some ⟨g, o, none⟩), .int .i64 (k : Int), .int .i64 0, .string s] w fun e w' => e = .returned (.tuple #[]) ∧ NS w' g o m (n + 1) (M ++ [(s, (k : Int), c k)]) (bump c k) ∧ Turn w w' g m (o + 1 + k) := by
  by_cases hh : (look M s).1 = 0
  · exact add_miss k s h hk hk6 hs hn hc hc2 hh
  · exact add_hit k s h hk hk6 hs hc hc2 hh

theorem NS.below {w' : World} (h : NS w g o m n M c) (hb : Below w.heap.size w w') : NS w' g o m n M c := by
  have hblk := hb.block g h.lt
  obtain ⟨D, h1, h2⟩ := h.own
  exact ⟨by rw [hb.cell (by exact h.lt)]; exact h.mp, fun i hi => by rw [hb.cell (by exact h.lt)]; exact h.ct i hi, fun i => by
    have := h.fz i
    simp only [World.frozen?] at this ⊢
    rw [hblk]; exact this, ⟨D, h1.kept (grown_of_below hb) (by simp), h2⟩, h.gm, Nat.lt_of_lt_of_le h.lt hb.size⟩
/-- A name found in the program's set. -/
theorem NS.cellOf (h : NS w g o m n M c) (s : ByteArray) : ∃ D, w.ownsMap Try.prog 9 meanElem m n D ∧ D.atKey (.string s.data.toList) (md 0 0 0) = md (look M s).1 (look M s).2 0 := by
  obtain ⟨D, h1, h2⟩ := h.own
  exact ⟨D, h1, h2.2.2 s⟩
set_option maxHeartbeats 4000000 in
set_option maxRecDepth 100000 in
theorem findP_any (s : ByteArray) (h : NS w g 0 m n M c) (hs : s.size ≤ maxLen) :
    Calls Try.prog 48 #[.pointer (some ⟨g, 0, none⟩), .string s] w fun e w' => e = .returned (.agg #[.int .i64 (look M s).1, .int .i64 (look M s).2, .int .i64 0]) ∧ Below w.heap.size w w' := by
  have hkey : keyOf Try.prog 9 (.string s) = some (.string s.data.toList) := Go.WideMaps.keyOf_string_mk Try.underlying9 hs
  have c0 := h.mp
  have wl := h.lt
  obtain ⟨D, hown, hat⟩ := h.cellOf s
  clear h
  generalize (look M s).1 = lk at *
  generalize (look M s).2 = lp at *
  have hown' := hown.alloc (.cells #[.int .i64 0, .int .i64 0, .int .i64 0] 48)
  go_enter Try.func48, Try.ntmps48
  go_wp2_with (at_lookup; refine wpList_lookup_mean _ rfl _ _ 65 rfl 9 48 strKey Try.underlying65 (zeroMean _) m n D rfl hown' _ _ rfl hkey lk lp 0 hat ?_)
  refine bodyPost_ret (results_cell1 rfl _ _ w.heap.size 48 _ (0, 0) _ rfl (at_new _ _) Try.underlying48 rfl (by kernel_rfl)) rfl ?_
  exact ⟨rfl, (Below.refl _ _).alloc (Nat.le_refl _) _⟩

/-- A name found in a function's set, or in the program's. -/
noncomputable def look2 (M2 M1 : List (ByteArray × Int × Int)) (s : ByteArray) : Int × Int := if (look M2 s).1 = 0 then look M1 s else look M2 s
set_option maxHeartbeats 4000000 in
set_option maxRecDepth 100000 in
theorem findF_any (s : ByteArray) {g2 m2 n2 : Nat} {M2 : List (ByteArray × Int × Int)} {c2 : Nat → Int} (h : NS w g 0 m n M c) (h2 : NS w g2 1 m2 n2 M2 c2) (hp : w.cell? ⟨g2, 0, none⟩ = some (.pointer (some ⟨g, 0, none⟩))) (hs : s.size ≤ maxLen) :
    Calls Try.prog 49 #[.pointer (some ⟨g2, 0, none⟩), .string s] w fun e w' => e = .returned (.agg #[.int .i64 (look2 M2 M s).1, .int .i64 (look2 M2 M s).2, .int .i64 0]) ∧ Below w.heap.size w w' := by
  have hkey : keyOf Try.prog 9 (.string s) = some (.string s.data.toList) := Go.WideMaps.keyOf_string_mk Try.underlying9 hs
  have d0 := h2.mp
  have wl2 := h2.lt
  obtain ⟨D2, hown2, hat2⟩ := h2.cellOf s
  have hk2 := h2.own
  by_cases hz : (look M2 s).1 = 0
  · have e : look2 M2 M s = look M s := by simp [look2, hz]
    rw [e]
    obtain ⟨D3, _, hr3⟩ := h2.own
    rw [look_zero hr3.2.1 hz] at hat2
    have hfp := fun wx (hx : NS wx g 0 m n M c) => findP_any s hx hs
    have hown' := hown2.alloc (.cells #[.int .i64 0, .int .i64 0, .int .i64 0] 48)
    have H := hide h
    clear h h2 hk2 hr3 hown2
    generalize (look M s).1 = lk at *
    generalize (look M s).2 = lp at *
    go_enter Try.func49, Try.ntmps49
    go_wp2_with (first | (at_lookup; refine wpList_lookup_mean _ rfl _ _ 65 rfl 9 48 strKey Try.underlying65 (zeroMean _) m2 n2 D2 rfl hown' _ _ rfl hkey 0 0 0 hat2 ?_))
    have b0 := below2 w (.cells #[.int .i64 0, .int .i64 0, .int .i64 0] 48) (.cells #[.int .i64 0, .int .i64 0, .int .i64 0] 48)
    refine (hfp _ ((unhide H).below b0)).mono ?_
    rintro e w1 ⟨rfl, hb⟩
    have z0 := at_below hb (at_alloc (at_new _ _))
    have bb : Below w.heap.size w w1 := b0.trans (hb.mono b0.size)
    have l0 : w.heap.size < w1.heap.size := (Array.getElem?_eq_some_iff.1 z0).1
    have e0 : w1.cell? ⟨w.heap.size, 0, none⟩ = some (.int .i64 0) := cell_of z0 rfl
    have e1 : w1.cell? ⟨w.heap.size, 1, none⟩ = some (.int .i64 0) := cell_of z0 rfl
    have e2 : w1.cell? ⟨w.heap.size, 2, none⟩ = some (.int .i64 0) := cell_of z0 rfl
    have f0 : w1.frozen? ⟨w.heap.size, 0, none⟩ = false := frozen_of z0
    have f1 : w1.frozen? ⟨w.heap.size, 1, none⟩ = false := frozen_of z0
    have f2 : w1.frozen? ⟨w.heap.size, 2, none⟩ = false := frozen_of z0
    have HZ := hide (And.intro z0 bb)
    clear z0 bb hb b0 hfp
    go_wp2
    refine bodyPost_ret (results_cell1 rfl _ _ w.heap.size 48 #[.int .i64 lk, .int .i64 lp, .int .i64 0] (0, 0) _ rfl (at_same (at_same (at_same (unhide HZ).1))) Try.underlying48 rfl (by kernel_rfl)) rfl ?_
    exact ⟨rfl, (((unhide HZ).2.setCell (p := ⟨w.heap.size, 0, none⟩) (Nat.le_refl _) _).setCell (p := ⟨w.heap.size, 1, none⟩) (Nat.le_refl _) _).setCell (p := ⟨w.heap.size, 2, none⟩) (Nat.le_refl _) _⟩
  · have e : look2 M2 M s = look M2 s := by simp [look2, hz]
    rw [e]
    have hown' := hown2.alloc (.cells #[.int .i64 0, .int .i64 0, .int .i64 0] 48)
    clear h h2 hk2 hown2
    generalize (look M2 s).1 = lk at *
    generalize (look M2 s).2 = lp at *
    go_enter Try.func49, Try.ntmps49
    go_wp2_with (first | (at_lookup; refine wpList_lookup_mean _ rfl _ _ 65 rfl 9 48 strKey Try.underlying65 (zeroMean _) m2 n2 D2 rfl hown' _ _ rfl hkey lk lp 0 hat2 ?_))
    refine bodyPost_ret (results_cell1 rfl _ _ w.heap.size 48 _ (0, 0) _ rfl (at_alloc (at_new _ _)) Try.underlying48 rfl (by kernel_rfl)) rfl ?_
    exact ⟨rfl, below2 _ _ _⟩
end Go.Proofs.Ytkfikpapgmamdaa.nk
