/-
  How much a table holds.
-/
import Derived.Test.YtkfikpapgmamdaaF
namespace Go.Proofs.Ytkfikpapgmamdaa.nk
open Go.RowKit Go.Proofs.Ytkfikpapgmamdaa.num
set_option linter.unusedVariables false

/-- What is left, or -1. -/
def Left (left r : Int) (p : Prop) : Prop := r = -1 ∨ (0 ≤ r ∧ r ≤ left ∧ p)

variable {base : Nat}
set_option maxHeartbeats 4000000 in
set_option maxRecDepth 100000 in
theorem szStrs_any (l : List ByteArray) (left : Int) (v : Value) (w : World) (h : Strs base w v l) (h0 : 0 ≤ left) (h1 : left ≤ 1048576) :
    Calls Try.prog 10 #[v, .int .i64 left] w fun e w' => (∃ r : Int, e = .returned (.int .i64 r) ∧ Left left r (l.length ≤ 1048576)) ∧ w' = w := by
  obtain ⟨a, cap, rfl, hc1, hc2, -⟩ := id h
  have H := hide h
  unfold maxLen at hc2
  clear h
  have gw : IntKind.i64.wrap (left - (l.length : Int)) = left - (l.length : Int) := IntWalk.i64_in _ ⟨by omega, by omega⟩
  by_cases hneg : left - (l.length : Int) < 0
  · go_enter Try.func10, Try.ntmps10
    go_wp2
    go_ret
    exact ⟨⟨-1, rfl, .inl rfl⟩, rfl⟩
  · go_enter Try.func10, Try.ntmps10
    go_wp2
    go_loop [1, 5] (fun lf i => ∃ (j : Nat) (r : Int), j ≤ l.length ∧ i = .int .i64 j ∧ lf = .int .i64 r ∧ 0 ≤ r ∧ r ≤ left) (fun _ i => l.length - (intOf i).toNat)
    case atStart => exact ⟨0, left - l.length, by omega, rfl, by go_num, by omega, by omega⟩
    case round =>
      obtain ⟨j, r, hj, rfl, rfl, hr0, hr1⟩ := hrel
      by_cases hlt : j < l.length
      · obtain ⟨t, ht⟩ : ∃ t, l[j]? = some t := ⟨_, List.getElem?_eq_getElem hlt⟩
        obtain ⟨b, off, rfl, hb, hc, hsz⟩ := (unhide H).sget ht
        clear ht
        unfold maxLen at hsz
        have gw2 : IntKind.i64.wrap (r - (t.size : Int)) = r - (t.size : Int) := IntWalk.i64_in _ ⟨by omega, by omega⟩
        by_cases hng : r - (t.size : Int) < 0
        · go_wp2
          go_ret
          exact ⟨⟨-1, rfl, .inl rfl⟩, rfl⟩
        · go_wp2
          exact ⟨⟨j + 1, r - t.size, by omega, by go_num, rfl, by omega, by omega⟩, by simp [intOf]; omega⟩
      · go_wp2
        go_ret
        exact ⟨⟨r, rfl, .inr ⟨hr0, hr1, by omega⟩⟩, rfl⟩

set_option maxHeartbeats 4000000 in
set_option maxRecDepth 100000 in
theorem szArray_any (n : ByteArray) (k left : Int) (w : World) (h0 : 0 ≤ left) (h1 : left ≤ 1048576) (hx : n.size ≤ maxLen) :
    Calls Try.prog 22 #[.agg #[.string n, .int .i64 k], .int .i64 left] w fun e w' => (∃ r : Int, e = .returned (.int .i64 r) ∧ Left left r True) ∧ Below w.heap.size w w' := by
  unfold maxLen at hx
  have gw : IntKind.i64.wrap (left - (n.size : Int)) = left - (n.size : Int) := IntWalk.i64_in _ ⟨by omega, by omega⟩
  by_cases hneg : left - (n.size : Int) < 0
  · go_enter Try.func22, Try.ntmps22
    go_wp2
    go_ret
    exact ⟨⟨-1, rfl, .inl rfl⟩, (Below.refl _ _).alloc (Nat.le_refl _) _⟩
  · go_enter Try.func22, Try.ntmps22
    go_wp2
    go_ret
    exact ⟨⟨_, rfl, .inr ⟨by omega, by omega, trivial⟩⟩, (Below.refl _ _).alloc (Nat.le_refl _) _⟩

set_option maxHeartbeats 4000000 in
set_option maxRecDepth 100000 in
theorem szArrs_any (l : List Ar) (left : Int) (v : Value) (w : World) (h : Arrs base w v l) (h0 : 0 ≤ left) (h1 : left ≤ 1048576) :
    Calls Try.prog 9 #[v, .int .i64 left] w fun e w' => (∃ r : Int, e = .returned (.int .i64 r) ∧ Left left r (l.length ≤ 1048576)) ∧ Below w.heap.size w w' := by
  obtain ⟨a, cap, rfl, hc1, hc2, -⟩ := id h
  have H := hide h
  unfold maxLen at hc2
  clear h
  have gw : IntKind.i64.wrap (left - (l.length : Int)) = left - (l.length : Int) := IntWalk.i64_in _ ⟨by omega, by omega⟩
  by_cases hneg : left - (l.length : Int) < 0
  · go_enter Try.func9, Try.ntmps9
    go_wp2
    go_ret
    exact ⟨⟨-1, rfl, .inl rfl⟩, Below.refl _ _⟩
  · go_enter Try.func9, Try.ntmps9
    go_wp2
    go_loopw [1, 5] (fun lf i wr => ∃ (j : Nat) (r : Int), j ≤ l.length ∧ i = .int .i64 j ∧ lf = .int .i64 r ∧ 0 ≤ r ∧ r ≤ left ∧ Hid (Below w.heap.size w wr)) (fun _ i _ => l.length - (intOf i).toNat)
    case atStart => exact ⟨0, left - l.length, by omega, rfl, by go_num, by omega, by omega, hide (Below.refl _ _)⟩
    case round =>
      obtain ⟨j, r, hj, rfl, rfl, hr0, hr1, HB⟩ := hrel
      by_cases hlt : j < l.length
      · obtain ⟨t, ht⟩ : ∃ t, l[j]? = some t := ⟨_, List.getElem?_eq_getElem hlt⟩
        obtain ⟨b, off, rfl, hb, c0, c1, hsz⟩ := ((unhide H).abelow (unhide HB)).aget ht
        clear ht
        have hs := fun w => szArray_any t.name t.size r w hr0 (by omega) hsz
        clear hsz
        go_wp2_with fail
        refine (hs _).mono ?_
        rintro e w1 ⟨⟨q, rfl, hq⟩, hb1⟩
        have HB1 := hide ((unhide HB).trans (hb1.mono (unhide HB).size))
        clear hb1 hs c0 c1
        by_cases hng : q < 0
        · go_wp2
          go_ret
          exact ⟨⟨-1, rfl, .inl rfl⟩, unhide HB1⟩
        · have hq2 : 0 ≤ q ∧ q ≤ left := by
            rcases hq with hq | hq
            · omega
            · exact ⟨hq.1, by have := hq.2.1; omega⟩
          obtain ⟨hq0, hq1⟩ := hq2
          clear hq
          go_wp2
          go_roundw
          case rel => exact ⟨j + 1, q, by omega, by go_num, rfl, hq0, hq1, HB1⟩
          case measure => simp [intOf]; omega
      · go_wp2
        go_ret
        exact ⟨⟨r, rfl, .inr ⟨hr0, hr1, by omega⟩⟩, unhide HB⟩

set_option maxHeartbeats 4000000 in
set_option maxRecDepth 100000 in
theorem szFunc_any (u : Fu) (vi vr : Value) (left : Int) (w : World) (si : Strs base w vi u.ints) (sr : Strs base w vr u.refs) (h0 : 0 ≤ left) (h1 : left ≤ 1048576) (hx : u.name.size ≤ maxLen) :
    Calls Try.prog 23 #[.agg #[.string u.name, .int .i64 u.params, vi, vr, .int .i64 u.body], .int .i64 left] w fun e w' => (∃ r : Int, e = .returned (.int .i64 r) ∧ Left left r (u.ints.length ≤ 1048576 ∧ u.refs.length ≤ 1048576)) ∧ Below w.heap.size w w' := by
  unfold maxLen at hx
  have b0 : Below w.heap.size w (w.alloc (.cells #[.string u.name, .int .i64 u.params, vi, vr, .int .i64 u.body] 60)) := (Below.refl _ _).alloc (Nat.le_refl _) _
  have si' := si.sbelow b0
  have sr' := sr.sbelow b0
  clear si sr
  have gw : IntKind.i64.wrap (left - (u.name.size : Int)) = left - (u.name.size : Int) := IntWalk.i64_in _ ⟨by omega, by omega⟩
  by_cases hneg : left - (u.name.size : Int) < 0
  · go_enter Try.func23, Try.ntmps23
    go_wp2
    go_ret
    exact ⟨⟨-1, rfl, .inl rfl⟩, b0⟩
  · have hq0 : 0 ≤ left - (u.name.size : Int) := by omega
    have hq1 : left - (u.name.size : Int) ≤ left := by omega
    go_enter Try.func23, Try.ntmps23
    go_wp2_with fail
    refine (szStrs_any _ (left - (u.name.size : Int)) _ _ si' hq0 (by omega)).mono ?_
    rintro e w1 ⟨⟨r, rfl, hr⟩, rfl⟩
    by_cases hng : r < 0
    · go_wp2
      go_ret
      exact ⟨⟨-1, rfl, .inl rfl⟩, b0⟩
    · have hr2 : 0 ≤ r ∧ r ≤ left ∧ u.ints.length ≤ 1048576 := by
        rcases hr with hr | hr
        · omega
        · exact ⟨hr.1, by have := hr.2.1; omega, hr.2.2⟩
      obtain ⟨hr0, hr1, hrl⟩ := hr2
      clear hr
      go_wp2_with fail
      refine (szStrs_any _ r _ _ sr' hr0 (by omega)).mono ?_
      rintro e w1 ⟨⟨r2, rfl, hr⟩, rfl⟩
      by_cases hng : r2 < 0
      · go_wp2
        go_ret
        exact ⟨⟨-1, rfl, .inl rfl⟩, b0⟩
      · have hr2 : 0 ≤ r2 ∧ r2 ≤ left ∧ u.refs.length ≤ 1048576 := by
          rcases hr with hr | hr
          · omega
          · exact ⟨hr.1, by have := hr.2.1; omega, hr.2.2⟩
        obtain ⟨hr0', hr1', hrl'⟩ := hr2
        clear hr
        go_wp2
        go_ret
        exact ⟨⟨r2, rfl, .inr ⟨hr0', hr1', hrl, hrl'⟩⟩, b0⟩

set_option maxHeartbeats 4000000 in
set_option maxRecDepth 100000 in
theorem szFuns_any (l : List Fu) (left : Int) (v : Value) (w : World) (h : Funs base w v l) (h0 : 0 ≤ left) (h1 : left ≤ 1048576) :
    Calls Try.prog 11 #[v, .int .i64 left] w fun e w' => (∃ r : Int, e = .returned (.int .i64 r) ∧ Left left r (l.length ≤ 1048576 ∧ ∀ u ∈ l, u.ints.length ≤ 1048576 ∧ u.refs.length ≤ 1048576)) ∧ Below w.heap.size w w' := by
  obtain ⟨a, cap, rfl, hc1, hc2, -⟩ := id h
  have H := hide h
  unfold maxLen at hc2
  clear h
  have gw : IntKind.i64.wrap (left - (l.length : Int)) = left - (l.length : Int) := IntWalk.i64_in _ ⟨by omega, by omega⟩
  by_cases hneg : left - (l.length : Int) < 0
  · go_enter Try.func11, Try.ntmps11
    go_wp2
    go_ret
    exact ⟨⟨-1, rfl, .inl rfl⟩, Below.refl _ _⟩
  · go_enter Try.func11, Try.ntmps11
    go_wp2
    go_loopw [1, 5] (fun lf i wr => ∃ (j : Nat) (r : Int), j ≤ l.length ∧ i = .int .i64 j ∧ lf = .int .i64 r ∧ 0 ≤ r ∧ r ≤ left ∧ Hid (∀ u ∈ l.take j, u.ints.length ≤ 1048576 ∧ u.refs.length ≤ 1048576) ∧ Hid (Below w.heap.size w wr)) (fun _ i _ => l.length - (intOf i).toNat)
    case atStart => exact ⟨0, left - l.length, by omega, rfl, by go_num, by omega, by omega, hide (by simp), hide (Below.refl _ _)⟩
    case round =>
      obtain ⟨j, r, hj, rfl, rfl, hr0, hr1, HT, HB⟩ := hrel
      by_cases hlt : j < l.length
      · obtain ⟨t, ht⟩ : ∃ t, l[j]? = some t := ⟨_, List.getElem?_eq_getElem hlt⟩
        obtain ⟨b, off, vi, vr, rfl, hb, c0, c1, c2, c3, c4, hsz, si, sr⟩ := ((unhide H).fbelow (unhide HB)).fget ht
        have HT' : Hid ((t.ints.length ≤ 1048576 ∧ t.refs.length ≤ 1048576) → ∀ u ∈ l.take (j + 1), u.ints.length ≤ 1048576 ∧ u.refs.length ≤ 1048576) := hide (fun h u hu => by
          rw [List.take_add_one, ht] at hu
          rcases List.mem_append.1 hu with hu | hu
          · exact unhide HT u hu
          · simp at hu; subst hu; exact h)
        clear ht
        have hs := szFunc_any t vi vr r _ si sr hr0 (by omega) hsz
        clear hsz si sr
        go_wp2_with fail
        refine hs.mono ?_
        rintro e w1 ⟨⟨q, rfl, hq⟩, hb1⟩
        have HB1 := hide ((unhide HB).trans (hb1.mono (unhide HB).size))
        clear hb1 hs c0 c1 c2 c3 c4
        by_cases hng : q < 0
        · go_wp2
          go_ret
          exact ⟨⟨-1, rfl, .inl rfl⟩, unhide HB1⟩
        · have hq2 : 0 ≤ q ∧ q ≤ left ∧ Hid (∀ u ∈ l.take (j + 1), u.ints.length ≤ 1048576 ∧ u.refs.length ≤ 1048576) := by
            rcases hq with hq | hq
            · omega
            · exact ⟨hq.1, by have := hq.2.1; omega, hide (unhide HT' hq.2.2)⟩
          obtain ⟨hq0, hq1, HT2⟩ := hq2
          clear hq HT'
          go_wp2
          go_roundw
          case rel => exact ⟨j + 1, q, by omega, by go_num, rfl, hq0, hq1, HT2, HB1⟩
          case measure => simp [intOf]; omega
      · go_wp2
        go_ret
        refine ⟨⟨r, rfl, .inr ⟨hr0, hr1, by omega, fun u hu => unhide HT u ?_⟩⟩, unhide HB⟩
        rw [List.take_of_length_le (by omega)]
        exact hu

set_option maxHeartbeats 4000000 in
set_option maxRecDepth 100000 in
theorem szTable_any (t : Tb) (va vg vf : Value) (w : World) (h : TbAt base w va vg vf t) :
    Calls Try.prog 4 #[.agg #[va, vg, vf], .int .i64 1048576] w fun e w' => (∃ r : Int, e = .returned (.int .i64 r) ∧ Left 1048576 r t.Small) ∧ Below w.heap.size w w' := by
  have b0 : Below w.heap.size w (w.alloc (.cells #[va, vg, vf] 26)) := (Below.refl _ _).alloc (Nat.le_refl _) _
  have ka := fun wx (hb : Below w.heap.size w wx) => szArrs_any t.arrays 1048576 va wx (h.arrays.abelow hb) (by omega) (by omega)
  have kg := fun wx left (hb : Below w.heap.size w wx) => szStrs_any t.globals left vg wx (h.globals.sbelow hb)
  have kf := fun wx left (hb : Below w.heap.size w wx) => szFuns_any t.funcs left vf wx (h.funcs.fbelow hb)
  clear h
  have z0 := at_new w (.cells #[va, vg, vf] 26)
  go_enter Try.func4, Try.ntmps4
  go_wp2_with fail
  refine (ka _ b0).mono ?_
  rintro e w1 ⟨⟨r, rfl, hr⟩, hb1⟩
  have b1 := b0.trans (hb1.mono b0.size)
  have z1 := at_below hb1 z0
  have c1 : w1.cell? ⟨w.heap.size, 1, none⟩ = some vg := cell_of z1 rfl
  have c2 : w1.cell? ⟨w.heap.size, 2, none⟩ = some vf := cell_of z1 rfl
  have l1 : w.heap.size < w1.heap.size := (Array.getElem?_eq_some_iff.1 z1).1
  have HZ := hide z1
  clear hb1 z0 z1 ka b0
  by_cases hng : r < 0
  · go_wp2
    go_ret
    exact ⟨⟨-1, rfl, .inl rfl⟩, b1⟩
  · have hr2 : 0 ≤ r ∧ r ≤ 1048576 ∧ t.arrays.length ≤ 1048576 := by
      rcases hr with hr | hr
      · omega
      · exact hr
    obtain ⟨hr0, hr1, hra⟩ := hr2
    clear hr
    go_wp2_with fail
    refine (kg _ r b1 hr0 hr1).mono ?_
    rintro e w2 ⟨⟨r2, rfl, hr⟩, rfl⟩
    by_cases hng : r2 < 0
    · go_wp2
      go_ret
      exact ⟨⟨-1, rfl, .inl rfl⟩, b1⟩
    · have hr2 : 0 ≤ r2 ∧ r2 ≤ 1048576 ∧ t.globals.length ≤ 1048576 := by
        rcases hr with hr | hr
        · omega
        · exact ⟨hr.1, by have := hr.2.1; omega, hr.2.2⟩
      obtain ⟨hs0, hs1, hsa⟩ := hr2
      clear hr
      go_wp2_with fail
      refine (kf _ r2 b1 hs0 hs1).mono ?_
      rintro e w3 ⟨⟨r3, rfl, hr⟩, hb3⟩
      have b3 := b1.trans (hb3.mono b1.size)
      clear hb3 c1 c2 b1
      by_cases hng : r3 < 0
      · go_wp2
        go_ret
        exact ⟨⟨-1, rfl, .inl rfl⟩, b3⟩
      · have hr2 : 0 ≤ r3 ∧ r3 ≤ 1048576 ∧ t.funcs.length ≤ 1048576 ∧ ∀ u ∈ t.funcs, u.ints.length ≤ 1048576 ∧ u.refs.length ≤ 1048576 := by
          rcases hr with hr | hr
          · omega
          · exact ⟨hr.1, by have := hr.2.1; omega, hr.2.2⟩
        obtain ⟨ht0, ht1, hta, htu⟩ := hr2
        clear hr
        have hsm : Hid t.Small := hide ⟨hra, hsa, hta, htu⟩
        clear htu
        go_wp2
        go_ret
        exact ⟨⟨r3, rfl, .inr ⟨ht0, ht1, unhide hsm⟩⟩, b3⟩
end Go.Proofs.Ytkfikpapgmamdaa.nk
