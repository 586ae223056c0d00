/-
  Records and their rows copied.
-/
import Derived.Test.YtkfikpapgmamdaaD
namespace Go.Proofs.Ytkfikpapgmamdaa.nk
open Go.RowKit Go.Proofs.Ytkfikpapgmamdaa.num
set_option linter.unusedVariables false

theorem results_cell1 {P : Program} {fn : Func} {p : Tmp} {ty : TypeId} (h : fn.results = #[.cell p ty]) (tmps : Array Value) (w : World) (g : Nat) (t : TypeId) (cs : Array Value) (fr : Nat × Nat) (d : TypeDesc)
    (hp : tmps.getD p undef = .pointer (some ⟨g, 0, none⟩)) (hg : w.heap[g]? = some (.cells cs t fr))
    (hu : P.underlying ty = some d) (hd : (match d with | .struct _ | .array _ _ => true | _ => false) = true) (hi : (P.info? ty).map (·.size) = some cs.size) :
    (results fn tmps).run P w = .ok (.agg cs) w := by
  have hp' : tmps[p]?.getD undef = .pointer (some ⟨g, 0, none⟩) := by simpa using hp
  simp [results, h, hp', asAddr, run_loadVar_row w g t ty cs fr d hg hu hd hi]
theorem size_alloc1 (w : World) (o : Obj) : (w.alloc o).heap.size = w.heap.size + 1 := by simp
theorem at_alloc {w : World} {b : Nat} {o a : Obj} (h : w.heap[b]? = some o) : (w.alloc a).heap[b]? = some o :=
  (Below.heap_alloc w a b (Array.getElem?_eq_some_iff.1 h).1).trans h
theorem at_new (w : World) (a : Obj) : (w.alloc a).heap[w.heap.size]? = some a := (MapKept.heap_alloc w a).1
theorem at_new1 (w : World) (a b : Obj) : ((w.alloc a).alloc b).heap[w.heap.size + 1]? = some b := by rw [← size_alloc1 w a]; exact at_new _ _
theorem at_new2 (w : World) (a b c : Obj) : (((w.alloc a).alloc b).alloc c).heap[w.heap.size + 2]? = some c := by
  have := at_new ((w.alloc a).alloc b) c
  simpa using this
theorem at_below {w w' : World} {b : Nat} {o : Obj} (hb : Below w.heap.size w w') (h : w.heap[b]? = some o) : w'.heap[b]? = some o := (hb.block b (Array.getElem?_eq_some_iff.1 h).1).trans h
theorem at_other {x : World} {b c i : Nat} {v : Value} {o : Obj} (h : x.heap[b]? = some o) (hne : b ≠ c) : (x.setCell ⟨c, i, none⟩ v).heap[b]? = some o := (Below.heap_setCell x ⟨c, i, none⟩ v b hne).trans h
theorem below3 (w : World) (a b c : Obj) : Below w.heap.size w (((w.alloc a).alloc b).alloc c) := (((Below.refl _ _).alloc (Nat.le_refl _) _).alloc (by simp) _).alloc (by simp; omega) _

set_option maxHeartbeats 4000000 in
set_option maxRecDepth 100000 in
theorem toArray_any (n : ByteArray) (k : Int) (w : World) :
    Calls Try.prog 24 #[.agg #[.string n, .int .i64 k]] w fun e w' => e = .returned (.agg #[.string n, .int .i64 k]) ∧ Below w.heap.size w w' := by
  go_enter Try.func24, Try.ntmps24
  go_wp2
  refine bodyPost_ret (results_cell1 rfl _ _ (w.heap.size + 1) 61 _ (0, 0) _ rfl (at_alloc (at_new1 _ _ _)) Try.underlying61 rfl (by kernel_rfl)) rfl ?_
  exact ⟨rfl, below3 _ _ _ _⟩

theorem info61 : (Try.prog.info? 61).map (fun i => (i.zero, i.size, i.bytes)) = some (some (.agg #[.string ⟨#[]⟩, .int .i64 0]), 2, 24) := by kernel_rfl

variable {base : Nat}
theorem Seq.smono {b' : Nat} {w : World} {v : Value} {l : List ByteArray} (h : Strs base w v l) (hb : b' ≤ base) : Strs b' w v l := by
  obtain ⟨a, cap, h1, h2, h3, h4⟩ := h
  refine ⟨a, cap, h1, h2, h3, h4.imp id ?_⟩
  rintro ⟨b, off, ha, hbb, r⟩
  exact ⟨b, off, ha, Nat.le_trans hb hbb, r⟩
set_option maxHeartbeats 4000000 in
set_option maxRecDepth 100000 in
theorem toArrs_any (l : List Ar) (v : Value) (w : World) (h : Arrs base w v l) (h20 : l.length ≤ 1048576) :
    Calls Try.prog 15 #[v] w fun e w' => (∃ v', e = .returned v' ∧ Arrs w.heap.size w' v' l) ∧ Below w.heap.size w w' := by
  obtain ⟨a, cap, rfl, hc1, hc2, -⟩ := id h
  obtain ⟨i0, hi, hz0, hz1, hz2⟩ := info_parts info61
  have H := hide h
  unfold maxLen at hc2
  clear h
  have hlen : ∃ len, l.length = len := ⟨_, rfl⟩
  obtain ⟨len, hlen⟩ := hlen
  have HL := hide hlen
  rw [hlen] at h20 hc1 ⊢
  clear hlen
  go_enter Try.func15, Try.ntmps15
  go_wp2_with (at_make; refine wpList_make_full _ rfl _ _ 30 rfl w.heap.size 61 i0 _ 2 Try.underlying30 hi hz0 hz1 .i64 .i64 _ _ len rfl rfl rfl rfl (by rw [hz2]; omega) (by unfold maxLen; omega) (Nat.le_refl _) ?_; intro w1 hown hgrow)
  have B1 := hide ((Below.refl _ w).grown hgrow (Nat.le_refl _) (fun k hk => by cases hk))
  have hxl := hown.1
  generalize (madeCells _ _).toList = xs0 at hown hxl
  have R1 := hide hown
  clear hown hgrow
  go_loopw [4] (fun i wr => ∃ (j : Nat) (rest : List Value), j ≤ len ∧ i = .int .i64 j ∧ rest.length = (len - j) * 2 ∧ Hid (wr.ownsRow w.heap.size 61 2 (.slice (some ⟨w.heap.size, 0, none⟩) len len) len (((l.take j).map fun t => [Value.string t.name, Value.int .i64 t.size]).flatten ++ rest)) ∧ Hid (Below w.heap.size w wr)) (fun i _ => len - (intOf i).toNat)
  case atStart => exact ⟨0, xs0, by omega, rfl, by omega, hide (by simpa using unhide R1), B1⟩
  case round =>
    obtain ⟨j, rest, hj, rfl, hrest, HR, HB⟩ := hrel
    by_cases hlt : j < len
    · have hl := unhide HL
      obtain ⟨t, ht⟩ : ∃ t, l[j]? = some t := ⟨_, List.getElem?_eq_getElem (by omega)⟩
      obtain ⟨b, off, rfl, hb, c0, c1, hsz⟩ := ((unhide H).abelow (unhide HB)).aget ht
      have HT := hide ht
      have htt := toArray_any t.name t.size
      clear ht hl
      go_wp2_with (go_at_call 24; refine (htt _).mono ?_; rintro e w2 ⟨rfl, hb1⟩; have R2 := hide (row_below (unhide HR) hb1); obtain ⟨⟨y0, x0⟩, f0, hg2⟩ := row_at (unhide R2) (o := j * 2) (by omega); obtain ⟨⟨y1, x1⟩, f1, -⟩ := row_at (unhide R2) (o := j * 2 + 1) (by omega))
      refine ⟨⟨j + 1, rest.drop 2, by omega, by go_num, by simp; omega, hide ?_, hide ?_⟩, by simp [intOf]; omega⟩
      · have e : ((l.take (j + 1)).map fun t => [Value.string t.name, Value.int .i64 t.size]).flatten = ((l.take j).map fun t => [Value.string t.name, Value.int .i64 t.size]).flatten ++ [Value.string t.name, Value.int .i64 t.size] := by
          rw [List.take_add_one, unhide HT]; simp
        have hL : ((l.take j).map fun t => [Value.string t.name, Value.int .i64 t.size]).flatten.length = j * 2 := by
          rw [flat_len (k := 2) (fun c hc => by obtain ⟨s, _, rfl⟩ := List.mem_map.1 hc; rfl)]
          have := unhide HL
          simp; omega
        rw [e, set2 _ rest (j * 2) _ _ hL (by omega)]
        exact row_put (row_put (unhide R2) _) _
      · exact (((unhide HB).trans (hb1.mono (unhide HB).size)).setCell (p := ⟨w.heap.size, j * 2, none⟩) (Nat.le_refl _) _).setCell (p := ⟨w.heap.size, j * 2 + 1, none⟩) (Nat.le_refl _) _
    · obtain rfl : j = len := by omega
      obtain rfl : rest = [] := List.length_eq_zero_iff.1 (by omega)
      go_wp2
      go_ret
      refine ⟨⟨_, rfl, ?_⟩, unhide HB⟩
      have := unhide HR
      have hz := unhide HL
      rw [List.append_nil, List.take_of_length_le (by omega), ← hz] at this
      rw [← hz]
      exact seq_of_row this (by simp) (fun c hc => by obtain ⟨s, _, rfl⟩ := List.mem_map.1 hc; rfl) (fun j' t c hj' hc' => by
        rw [List.getElem?_map, hj'] at hc'
        simp at hc'
        obtain ⟨b, off, -, -, -, -, hsz⟩ := (unhide H).aget (hj')
        exact ⟨hc'.symm, hsz⟩)

theorem Seq.sset {w : World} {v : Value} {l : List ByteArray} (h : Strs base w v l) {g o : Nat} (hg : g < base) (u : Value) : Strs base (w.setCell ⟨g, o, none⟩ u) v l :=
  h.strs (grown_set (World.grownBy.refl _ _) _) (fun k e => by cases e; exact hg)
set_option maxHeartbeats 4000000 in
set_option maxRecDepth 100000 in
theorem toFunc_any (u : Fu) (vi vr : Value) (w : World) (hi : Strs base w vi u.ints) (hr : Strs base w vr u.refs) (b1 : u.ints.length ≤ 1048576) (b2 : u.refs.length ≤ 1048576) (hn : u.name.size ≤ maxLen) :
    Calls Try.prog 25 #[.agg #[.string u.name, .int .i64 u.params, vi, vr, .int .i64 u.body]] w fun e w' => (∃ xi xr, e = .returned (.agg #[.string u.name, .int .i64 u.params, xi, xr, .int .i64 u.body]) ∧ Strs w.heap.size w' xi u.ints ∧ Strs w.heap.size w' xr u.refs) ∧ Below w.heap.size w w' := by
  have hk := fun wx (hb : Below w.heap.size w wx) => toStrs_any u.ints vi wx (hi.sbelow hb) b1
  have hk2 := fun wx (hb : Below w.heap.size w wx) => toStrs_any u.refs vr wx (hr.sbelow hb) b2
  clear hi hr
  obtain ⟨n, p, li, lr, bd⟩ := u
  simp only at *
  go_enter Try.func25, Try.ntmps25
  go_wp2_with fail
  have b0 := below3 w (.cells #[.string n, .int .i64 p, vi, vr, .int .i64 bd] 60) (.cells #[.string ⟨#[]⟩, .int .i64 0, .slice none 0 0, .slice none 0 0, .int .i64 0] 43) (.cells #[.string n, .int .i64 p, .slice none 0 0, .slice none 0 0, .int .i64 0] 43)
  refine (hk _ b0).mono ?_
  rintro e w1 ⟨⟨xi, rfl, hxi⟩, hb⟩
  obtain ⟨ai, ci, rfl, -⟩ := id hxi
  have z0 := at_below hb (at_alloc (at_alloc (at_new _ _)))
  have z1 := at_below hb (at_alloc (at_new1 _ _ _))
  have z2 := at_below hb (at_new2 _ _ _ _)
  have bb : Below w.heap.size w w1 := b0.trans (hb.mono b0.size)
  have hxi2 : Strs (w.heap.size + 3) w1 (.slice ai li.length ci) li := by simpa using hxi
  clear hxi hb b0
  have l2 : w.heap.size + 1 + 1 < w1.heap.size := (Array.getElem?_eq_some_iff.1 z2).1
  have c3 : w1.cell? ⟨w.heap.size, 3, none⟩ = some vr := cell_of z0 rfl
  have d2 : w1.cell? ⟨w.heap.size + 1 + 1, 2, none⟩ = some (.slice none 0 0) := cell_of z2 rfl
  have f2 : w1.frozen? ⟨w.heap.size + 1 + 1, 2, none⟩ = false := frozen_of z2
  have HZ := hide (And.intro z0 (And.intro z1 (And.intro z2 (And.intro bb hxi2))))
  clear z0 z1 z2 bb hxi2 hk
  go_wp2_with fail
  obtain ⟨z0, z1, z2, bb, hxi2⟩ := unhide HZ
  have b2' : Below w.heap.size w (w1.setCell ⟨w.heap.size + 1 + 1, 2, none⟩ (.slice ai li.length ci)) := bb.setCell (by show w.heap.size ≤ w.heap.size + 1 + 1; omega) _
  refine (hk2 _ b2').mono ?_
  rintro e w2 ⟨⟨xr, rfl, hxr⟩, hb⟩
  obtain ⟨ar, cr, rfl, -⟩ := id hxr
  have y0 := at_below hb (at_other z0 (by omega))
  have y1 := at_below hb (at_other z1 (by omega))
  have y2 := at_below hb (at_same z2)
  have hxi3 : Strs (w.heap.size + 3) w2 (.slice ai li.length ci) li := (hxi2.strs (grown_set (World.grownBy.refl _ _) _) (fun g e => by cases e; omega)).sbelow hb
  have hxr3 : Strs (w.heap.size + 3) w2 (.slice ar lr.length cr) lr := hxr.smono (by simp; omega)
  have bb2 : Below w.heap.size w w2 := b2'.trans (hb.mono b2'.size)
  clear hxr hb b2' bb hxi2 z0 z1 z2 HZ hk2 c3 d2 f2
  have l2 : w.heap.size + 1 + 1 < w2.heap.size := (Array.getElem?_eq_some_iff.1 y2).1
  have c4 : w2.cell? ⟨w.heap.size, 4, none⟩ = some (.int .i64 bd) := cell_of y0 rfl
  have d0 : w2.cell? ⟨w.heap.size + 1 + 1, 0, none⟩ = some (.string n) := cell_of y2 rfl
  have d1 : w2.cell? ⟨w.heap.size + 1 + 1, 1, none⟩ = some (.int .i64 p) := cell_of y2 rfl
  have d2 : w2.cell? ⟨w.heap.size + 1 + 1, 2, none⟩ = some (.slice ai li.length ci) := cell_of y2 rfl
  have d3 : w2.cell? ⟨w.heap.size + 1 + 1, 3, none⟩ = some (.slice none 0 0) := cell_of y2 rfl
  have d4 : w2.cell? ⟨w.heap.size + 1 + 1, 4, none⟩ = some (.int .i64 0) := cell_of y2 rfl
  have f3 : w2.frozen? ⟨w.heap.size + 1 + 1, 3, none⟩ = false := frozen_of y2
  have f4 : w2.frozen? ⟨w.heap.size + 1 + 1, 4, none⟩ = false := frozen_of y2
  have r0 : w2.cell? ⟨w.heap.size + 1, 0, none⟩ = some (.string ⟨#[]⟩) := cell_of y1 rfl
  have r1 : w2.cell? ⟨w.heap.size + 1, 1, none⟩ = some (.int .i64 0) := cell_of y1 rfl
  have r2 : w2.cell? ⟨w.heap.size + 1, 2, none⟩ = some (.slice none 0 0) := cell_of y1 rfl
  have r3 : w2.cell? ⟨w.heap.size + 1, 3, none⟩ = some (.slice none 0 0) := cell_of y1 rfl
  have r4 : w2.cell? ⟨w.heap.size + 1, 4, none⟩ = some (.int .i64 0) := cell_of y1 rfl
  have q0 : w2.frozen? ⟨w.heap.size + 1, 0, none⟩ = false := frozen_of y1
  have q1 : w2.frozen? ⟨w.heap.size + 1, 1, none⟩ = false := frozen_of y1
  have q2 : w2.frozen? ⟨w.heap.size + 1, 2, none⟩ = false := frozen_of y1
  have q3 : w2.frozen? ⟨w.heap.size + 1, 3, none⟩ = false := frozen_of y1
  have q4 : w2.frozen? ⟨w.heap.size + 1, 4, none⟩ = false := frozen_of y1
  have HY := hide (And.intro y1 (And.intro hxi3 (And.intro hxr3 bb2)))
  clear y0 y1 y2 hxi3 hxr3 bb2
  go_wp2_with fail
  obtain ⟨y1, hxi3, hxr3, bb2⟩ := unhide HY
  refine bodyPost_ret (results_cell1 rfl _ _ (w.heap.size + 1) 43 #[.string n, .int .i64 p, .slice ai li.length ci, .slice ar lr.length cr, .int .i64 bd] (0, 0) _ rfl (at_same (at_same (at_same (at_same (at_same (at_other (at_other y1 (by omega)) (by omega))))))) Try.underlying43 rfl (by kernel_rfl)) rfl ?_
  refine ⟨⟨_, _, rfl, ?_, ?_⟩, ?_⟩
  · exact (((((((hxi3.sset (by omega) _).sset (by omega) _).sset (by omega) _).sset (by omega) _).sset (by omega) _).sset (by omega) _).sset (by omega) _).smono (by omega)
  · exact (((((((hxr3.sset (by omega) _).sset (by omega) _).sset (by omega) _).sset (by omega) _).sset (by omega) _).sset (by omega) _).sset (by omega) _).smono (by omega)
  · exact (((((((bb2.setCell (p := ⟨w.heap.size + 1 + 1, 3, none⟩) (by show w.heap.size ≤ w.heap.size + 1 + 1; omega) _).setCell (p := ⟨w.heap.size + 1 + 1, 4, none⟩) (by show w.heap.size ≤ w.heap.size + 1 + 1; omega) _).setCell (p := ⟨w.heap.size + 1, 0, none⟩) (by show w.heap.size ≤ w.heap.size + 1; omega) _).setCell (p := ⟨w.heap.size + 1, 1, none⟩) (by show w.heap.size ≤ w.heap.size + 1; omega) _).setCell (p := ⟨w.heap.size + 1, 2, none⟩) (by show w.heap.size ≤ w.heap.size + 1; omega) _).setCell (p := ⟨w.heap.size + 1, 3, none⟩) (by show w.heap.size ≤ w.heap.size + 1; omega) _).setCell (p := ⟨w.heap.size + 1, 4, none⟩) (by show w.heap.size ≤ w.heap.size + 1; omega) _)

theorem info43 : (Try.prog.info? 43).map (fun i => (i.zero, i.size, i.bytes)) = some (some (.agg #[.string ⟨#[]⟩, .int .i64 0, .slice none 0 0, .slice none 0 0, .int .i64 0]), 5, 80) := by kernel_rfl

/-- A row of functions that is filled up to a place. -/
def FillF (w wr : World) (l : List Fu) (len j : Nat) : Prop :=
  ∃ (css : List (List Value)) (rest : List Value), css.length = j ∧ (∀ c ∈ css, c.length = 5) ∧ rest.length = (len - j) * 5 ∧ wr.ownsRow w.heap.size 43 5 (.slice (some ⟨w.heap.size, 0, none⟩) len len) len (css.flatten ++ rest) ∧
    ∀ (j' : Nat) t c, l[j']? = some t → css[j']? = some c → EF (w.heap.size + 1) wr t c
theorem FillF.below {w wr w2 : World} {l : List Fu} {len j : Nat} (h : FillF w wr l len j) (hb : Below wr.heap.size wr w2) : FillF w w2 l len j := by
  obtain ⟨css, rest, h1, h2, h3, h4, h5⟩ := h
  exact ⟨css, rest, h1, h2, h3, row_below h4 hb, fun j' t c ht hc => (h5 j' t c ht hc).kept (grown_of_below hb) (fun g e => by cases e)⟩
theorem FillF.at {w wr : World} {l : List Fu} {len j : Nat} (h : FillF w wr l len j) {o : Nat} (ho : o < len * 5) : (∃ u, wr.cell? ⟨w.heap.size, o, none⟩ = some u) ∧ wr.frozen? ⟨w.heap.size, o, none⟩ = false ∧ w.heap.size < wr.heap.size := by
  obtain ⟨css, rest, h1, h2, h3, h4, h5⟩ := h
  exact row_at h4 ho
theorem EF.set {w : World} {f : Fu} {cs : List Value} (h : EF base w f cs) {g o : Nat} (hg : g < base) (u : Value) : EF base (w.setCell ⟨g, o, none⟩ u) f cs :=
  h.kept (grown_set (World.grownBy.refl _ _) _) (fun k e => by cases e; exact hg)
theorem FillF.step {w wr : World} {l : List Fu} {len j : Nat} {t : Fu} {a b c d e : Value} (h : FillF w wr l len j) (ht : l[j]? = some t) (hj : j < len) (hE : EF (w.heap.size + 1) wr t [a, b, c, d, e]) :
    FillF w (((((wr.setCell ⟨w.heap.size, j * 5, none⟩ a).setCell ⟨w.heap.size, j * 5 + 1, none⟩ b).setCell ⟨w.heap.size, j * 5 + 2, none⟩ c).setCell ⟨w.heap.size, j * 5 + 3, none⟩ d).setCell ⟨w.heap.size, j * 5 + 4, none⟩ e) l len (j + 1) := by
  obtain ⟨css, rest, h1, h2, h3, h4, h5⟩ := h
  refine ⟨css ++ [[a, b, c, d, e]], rest.drop 5, by simp [h1], ?_, by rw [List.length_drop]; omega, ?_, ?_⟩
  · intro c' hc'
    rcases List.mem_append.1 hc' with hc' | hc'
    · exact h2 c' hc'
    · simp at hc'; subst hc'; rfl
  · have hL : css.flatten.length = j * 5 := by rw [flat_len h2, h1]
    have e1 : (css ++ [[a, b, c, d, e]]).flatten = css.flatten ++ [a, b, c, d, e] := by simp
    rw [e1, set5 _ rest (j * 5) _ _ _ _ _ hL (by omega)]
    exact row_put (row_put (row_put (row_put (row_put h4 _) _) _) _) _
  · intro j' t' c' ht' hc'
    have hx : EF (w.heap.size + 1) wr t' c' := by
      by_cases hlt : j' < j
      · exact h5 j' t' c' ht' (by rw [List.getElem?_append_left (by omega)] at hc'; exact hc')
      · have : j' = j := by
          have := (List.getElem?_eq_some_iff.1 hc').1
          simp at this
          omega
        subst this
        rw [List.getElem?_append_right (by omega)] at hc'
        simp [h1] at hc'
        subst hc'
        rw [ht] at ht'
        cases ht'
        exact hE
    exact ((((hx.set (by omega) _).set (by omega) _).set (by omega) _).set (by omega) _).set (by omega) _
theorem FillF.done {w wr : World} {l : List Fu} (h : FillF w wr l l.length l.length) : Funs w.heap.size wr (.slice (some ⟨w.heap.size, 0, none⟩) l.length l.length) l := by
  obtain ⟨css, rest, h1, h2, h3, h4, h5⟩ := h
  obtain rfl : rest = [] := List.length_eq_zero_iff.1 (by omega)
  rw [List.append_nil] at h4
  refine seq_of_row h4 h1 h2 (fun j t c ht hc => ?_)
  obtain ⟨vi, vr, e1, e2, e3, e4⟩ := h5 j t c ht hc
  exact ⟨vi, vr, e1, e2, e3.smono (by omega), e4.smono (by omega)⟩

set_option maxHeartbeats 4000000 in
set_option maxRecDepth 100000 in
theorem toFuns_any (l : List Fu) (v : Value) (w : World) (h : Funs base w v l) (h20 : l.length ≤ 1048576) (hin : ∀ t ∈ l, t.ints.length ≤ 1048576 ∧ t.refs.length ≤ 1048576) :
    Calls Try.prog 17 #[v] w fun e w' => (∃ v', e = .returned v' ∧ Funs w.heap.size w' v' l) ∧ Below w.heap.size w w' := by
  obtain ⟨a, cap, rfl, hc1, hc2, -⟩ := id h
  obtain ⟨i0, hi, hz0, hz1, hz2⟩ := info_parts info43
  have H := hide (And.intro h hin)
  unfold maxLen at hc2
  clear h hin
  have hlen : ∃ len, l.length = len := ⟨_, rfl⟩
  obtain ⟨len, hlen⟩ := hlen
  have HL := hide hlen
  rw [hlen] at h20 hc1 ⊢
  clear hlen
  go_enter Try.func17, Try.ntmps17
  go_wp2_with (at_make; refine wpList_make_full _ rfl _ _ 31 rfl w.heap.size 43 i0 _ 5 Try.underlying31 hi hz0 hz1 .i64 .i64 _ _ len rfl rfl rfl rfl (by rw [hz2]; omega) (by unfold maxLen; omega) (Nat.le_refl _) ?_; intro w1 hown hgrow)
  have B1 := hide ((Below.refl _ w).grown hgrow (Nat.le_refl _) (fun k hk => by cases hk))
  have hxl := hown.1
  generalize (madeCells _ _).toList = xs0 at hown hxl
  have R1 : Hid (FillF w w1 l len 0) := hide ⟨[], xs0, rfl, by simp, by simpa using hxl, by simpa using hown, by simp⟩
  clear hown hgrow hxl
  go_loopw [4] (fun i wr => ∃ (j : Nat), j ≤ len ∧ i = .int .i64 j ∧ Hid (FillF w wr l len j) ∧ Hid (Below w.heap.size w wr)) (fun i _ => len - (intOf i).toNat)
  case atStart => exact ⟨0, by omega, rfl, R1, B1⟩
  case round =>
    obtain ⟨j, hj, rfl, HR, HB⟩ := hrel
    by_cases hlt : j < len
    · have hl := unhide HL
      obtain ⟨t, ht⟩ : ∃ t, l[j]? = some t := ⟨_, List.getElem?_eq_getElem (by omega)⟩
      obtain ⟨b, off, vi, vr, rfl, hb, c0, c1, c2, c3, c4, hsz, si, sr⟩ := ((unhide H).1.fbelow (unhide HB)).fget ht
      have hin := (unhide H).2 t (List.mem_of_getElem? ht)
      have HT := hide (And.intro ht hsz)
      have htt := toFunc_any t vi vr _ si sr hin.1 hin.2 hsz
      have hwl := ((unhide HR).at (o := j * 5) (by omega)).2.2
      clear ht hl hin si sr hsz
      go_wp2_with (go_at_call 25; refine htt.mono ?_; rintro e w2 ⟨⟨xi, xr, rfl, hxi, hxr⟩, hb1⟩; obtain ⟨pi, qi, rfl, -⟩ := id hxi; obtain ⟨pr, qr, rfl, -⟩ := id hxr; have R2 := hide ((unhide HR).below hb1); obtain ⟨⟨y0, x0⟩, f0, hg2⟩ := (unhide R2).at (o := j * 5) (by omega); obtain ⟨⟨y1, x1⟩, f1, -⟩ := (unhide R2).at (o := j * 5 + 1) (by omega); obtain ⟨⟨y2, x2⟩, f2, -⟩ := (unhide R2).at (o := j * 5 + 2) (by omega); obtain ⟨⟨y3, x3⟩, f3, -⟩ := (unhide R2).at (o := j * 5 + 3) (by omega); obtain ⟨⟨y4, x4⟩, f4, -⟩ := (unhide R2).at (o := j * 5 + 4) (by omega); have HX := hide (And.intro hxi (And.intro hxr hb1)); clear hxi hxr hb1)
      obtain ⟨hxi, hxr, hb1⟩ := unhide HX
      refine ⟨⟨j + 1, by omega, by go_num, hide ?_, hide ?_⟩, by simp [intOf]; omega⟩
      · exact (unhide R2).step (unhide HT).1 hlt ⟨_, _, rfl, (unhide HT).2, hxi.smono (by omega), hxr.smono (by omega)⟩
      · exact ((((((unhide HB).trans (hb1.mono (unhide HB).size)).setCell (p := ⟨w.heap.size, j * 5, none⟩) (Nat.le_refl _) _).setCell (p := ⟨w.heap.size, j * 5 + 1, none⟩) (Nat.le_refl _) _).setCell (p := ⟨w.heap.size, j * 5 + 2, none⟩) (Nat.le_refl _) _).setCell (p := ⟨w.heap.size, j * 5 + 3, none⟩) (Nat.le_refl _) _).setCell (p := ⟨w.heap.size, j * 5 + 4, none⟩) (Nat.le_refl _) _
    · obtain rfl : j = len := by omega
      go_wp2
      go_ret
      have hz := unhide HL
      subst hz
      exact ⟨⟨_, rfl, (unhide HR).done⟩, unhide HB⟩
end Go.Proofs.Ytkfikpapgmamdaa.nk
