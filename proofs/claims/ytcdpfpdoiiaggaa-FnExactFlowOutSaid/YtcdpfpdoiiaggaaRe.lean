/-
  Flows: how much they hold, copies, that they are the same, marks.
-/
import Derived.Test.YtcdpfpdoiiaggaaRd
namespace Go.Proofs.Ytcdpfpdoiiaggaa.rws
open Go.RowKit Go.Proofs.Ytcdpfpdoiiaggaa.num
set_option linter.unusedVariables false

theorem row_mono {w : World} {base b' : Nat} {e : TypeId} {size : Nat} {v : Value} {n : Nat} {xs : List Value} (h : w.ownsRow base e size v n xs) (hb : b' ≤ base) : w.ownsRow b' e size v n xs := by
  refine ⟨h.1, ?_⟩
  rcases h.2 with h2 | ⟨g, cap, cur, hv, hg, r⟩
  · exact .inl h2
  · exact .inr ⟨g, cap, cur, hv, Nat.le_trans hb hg, r⟩
section
variable {α : Type} {e k : Nat} {cells : α → List Value} {base : Nat} {w : World} {v : Value} {l : List α}
theorem Row.mono {b' : Nat} (h : Row e k cells base w v l) (hb : b' ≤ base) : Row e k cells b' w v l := row_mono h hb
theorem Row.setCell {g o : Nat} (h : Row e k cells base w v l) (hg : g < base) (u : Value) : Row e k cells base (w.setCell ⟨g, o, none⟩ u) v l :=
  h.of_block (fun b hb => Below.heap_setCell w ⟨g, o, none⟩ u b (by have := (row_lt h b hb).1; show b ≠ g; omega))
end
structure Fl where
  owner : List Int
  entry : List Int
  head : List Bool
  edges : List Ed
structure FlAt (base : Nat) (w : World) (v0 v1 v2 v3 : Value) (f : Fl) : Prop where
  owner : Ints base w v0 f.owner
  entry : Ints base w v1 f.entry
  head : Bools base w v2 f.head
  edges : Eds base w v3 f.edges
structure RFl (base : Nat) (w : World) (v0 v1 v2 v3 : Value) (f : Fl) : Prop where
  owner : RInts base w v0 f.owner
  entry : RInts base w v1 f.entry
  head : RBools base w v2 f.head
  edges : REds base w v3 f.edges
structure Fl.Small (f : Fl) : Prop where
  owner : f.owner.length ≤ 1048576
  entry : f.entry.length ≤ 1048576
  head : f.head.length ≤ 1048576
  edges : f.edges.length ≤ 1048576
section
variable {base : Nat} {w w' : World} {v0 v1 v2 v3 : Value} {f : Fl}
theorem FlAt.below (h : FlAt base w v0 v1 v2 v3 f) (hb : Below w.heap.size w w') : FlAt base w' v0 v1 v2 v3 f := ⟨h.owner.below hb, h.entry.below hb, h.head.below hb, h.edges.below hb⟩
theorem RFl.below (h : RFl base w v0 v1 v2 v3 f) (hb : Below w.heap.size w w') : RFl base w' v0 v1 v2 v3 f := ⟨h.owner.below hb, h.entry.below hb, h.head.below hb, h.edges.below hb⟩
theorem RFl.setCell {g o : Nat} (h : RFl base w v0 v1 v2 v3 f) (hg : g < base) (u : Value) : RFl base (w.setCell ⟨g, o, none⟩ u) v0 v1 v2 v3 f := ⟨h.owner.setCell hg u, h.entry.setCell hg u, h.head.setCell hg u, h.edges.setCell hg u⟩
theorem RFl.mono {b' : Nat} (h : RFl base w v0 v1 v2 v3 f) (hb : b' ≤ base) : RFl b' w v0 v1 v2 v3 f := ⟨h.owner.mono hb, h.entry.mono hb, h.head.mono hb, h.edges.mono hb⟩
theorem RFl.at {b0 : Nat} {w0 : World} {u0 u1 u2 u3 : Value} (h : RFl base w v0 v1 v2 v3 f) (k : FlAt b0 w0 u0 u1 u2 u3 f) : FlAt base w v0 v1 v2 v3 f := ⟨h.owner.seq (fun _ => rfl) (fun j t hj => k.owner.oks hj), h.entry.seq (fun _ => rfl) (fun j t hj => k.entry.oks hj), h.head.seq (fun _ => rfl) (fun j t hj => k.head.oks hj), h.edges.seq (fun _ => rfl) (fun j t hj => k.edges.oks hj)⟩
end

set_option maxHeartbeats 4000000 in
set_option maxRecDepth 100000 in
theorem szFl_any {base : Nat} (f : Fl) (v0 v1 v2 v3 : Value) (w : World) (h : FlAt base w v0 v1 v2 v3 f) :
    Calls Try.prog 4 #[.agg #[v0, v1, v2, v3], .int .i64 1048576] w fun e w' => (∃ r : Int, e = .returned (.int .i64 r) ∧ Left 1048576 r f.Small) ∧ Below w.heap.size w w' := by
  have b0 : Below w.heap.size w (w.alloc (.cells #[v0, v1, v2, v3] 26)) := (Below.refl _ _).alloc (Nat.le_refl _) _
  have k0 := fun left => szI_any f.owner left v0 _ (h.owner.below b0)
  have k1 := fun left => szI_any f.entry left v1 _ (h.entry.below b0)
  have k2 := fun left => szB_any f.head left v2 _ (h.head.below b0)
  have k3 := fun left => szE_any f.edges left v3 _ (h.edges.below b0)
  clear h
  go_enter Try.func4, Try.ntmps4
  go_wp2_with fail
  refine (k0 1048576 (by omega) (by omega)).mono ?_
  rintro e w1 ⟨⟨r0, rfl, hr⟩, rfl⟩
  by_cases hng : r0 < 0
  · clear hr
    go_wp2
    go_ret
    exact ⟨⟨-1, rfl, .inl rfl⟩, b0⟩
  obtain ⟨hr0, hs0, hp0⟩ : 0 ≤ r0 ∧ r0 ≤ 1048576 ∧ f.owner.length ≤ 1048576 := by
    rcases hr with hr | hr
    · omega
    · exact ⟨hr.1, by have := hr.2.1; omega, hr.2.2⟩
  clear hr
  go_wp2_with fail
  refine (k1 r0 hr0 hs0).mono ?_
  rintro e w2 ⟨⟨r1, rfl, hr⟩, rfl⟩
  by_cases hng : r1 < 0
  · clear hr
    go_wp2
    go_ret
    exact ⟨⟨-1, rfl, .inl rfl⟩, b0⟩
  obtain ⟨hr1, hs1, hp1⟩ : 0 ≤ r1 ∧ r1 ≤ 1048576 ∧ f.entry.length ≤ 1048576 := by
    rcases hr with hr | hr
    · omega
    · exact ⟨hr.1, by have := hr.2.1; omega, hr.2.2⟩
  clear hr
  go_wp2_with fail
  refine (k2 r1 hr1 hs1).mono ?_
  rintro e w3 ⟨⟨r2, rfl, hr⟩, rfl⟩
  by_cases hng : r2 < 0
  · clear hr
    go_wp2
    go_ret
    exact ⟨⟨-1, rfl, .inl rfl⟩, b0⟩
  obtain ⟨hr2, hs2, hp2⟩ : 0 ≤ r2 ∧ r2 ≤ 1048576 ∧ f.head.length ≤ 1048576 := by
    rcases hr with hr | hr
    · omega
    · exact ⟨hr.1, by have := hr.2.1; omega, hr.2.2⟩
  clear hr
  go_wp2_with fail
  refine (k3 r2 hr2 hs2).mono ?_
  rintro e w4 ⟨⟨r3, rfl, hr⟩, rfl⟩
  by_cases hng : r3 < 0
  · clear hr
    go_wp2
    go_ret
    exact ⟨⟨-1, rfl, .inl rfl⟩, b0⟩
  obtain ⟨hr3, hs3, hp3⟩ : 0 ≤ r3 ∧ r3 ≤ 1048576 ∧ f.edges.length ≤ 1048576 := by
    rcases hr with hr | hr
    · omega
    · exact ⟨hr.1, by have := hr.2.1; omega, hr.2.2⟩
  clear hr
  go_wp2
  go_ret
  exact ⟨⟨_, rfl, .inr ⟨by omega, by omega, ⟨hp0, hp1, hp2, hp3⟩⟩⟩, b0⟩

set_option maxHeartbeats 8000000 in
set_option maxRecDepth 100000 in
theorem toFl_any {base : Nat} (f : Fl) (v0 v1 v2 v3 : Value) (w : World) (h : FlAt base w v0 v1 v2 v3 f) (hs : f.Small) :
    Calls Try.prog 6 #[.agg #[v0, v1, v2, v3]] w fun e w' => (∃ a0 c0 a1 c1 a2 c2 a3 c3, e = .returned (.agg #[.slice a0 f.owner.length c0, .slice a1 f.entry.length c1, .slice a2 f.head.length c2, .slice a3 f.edges.length c3]) ∧ RFl w.heap.size w' (.slice a0 f.owner.length c0) (.slice a1 f.entry.length c1) (.slice a2 f.head.length c2) (.slice a3 f.edges.length c3) f) ∧ Below w.heap.size w w' := by
  have k0 := fun wx (hb : Below w.heap.size w wx) => toI_any f.owner v0 wx (h.owner.below hb) hs.owner
  have k1 := fun wx (hb : Below w.heap.size w wx) => toI_any f.entry v1 wx (h.entry.below hb) hs.entry
  have k2 := fun wx (hb : Below w.heap.size w wx) => toB_any f.head v2 wx (h.head.below hb) hs.head
  have k3 := fun wx (hb : Below w.heap.size w wx) => toE_any f.edges v3 wx (h.edges.below hb) hs.edges
  clear h hs
  go_enter Try.func6, Try.ntmps6
  go_wp2_with fail
  have bb := below3 w (.cells #[v0, v1, v2, v3] 26) (.cells #[.slice none 0 0, .slice none 0 0, .slice none 0 0, .slice none 0 0] 31) (.cells #[.slice none 0 0, .slice none 0 0, .slice none 0 0, .slice none 0 0] 31)
  refine (k0 _ bb).mono ?_
  rintro e w1 ⟨⟨x0, rfl, hx⟩, hb⟩
  obtain ⟨a0, c0, rfl, -, -, -⟩ := row_head hx
  have z0 := at_below hb (at_alloc (at_alloc (at_new _ _)))
  have z1 := at_below hb (at_alloc (at_new1 _ _ _))
  have z2 := at_below hb (at_new2 _ _ _ _)
  have hr0 : RInts (w.heap.size + 3) w1 (.slice a0 f.owner.length c0) f.owner := hx.mono (by simp)
  replace bb : Below w.heap.size w w1 := bb.trans (hb.mono bb.size)
  clear hx hb k0
  have l2 : w.heap.size + 1 + 1 < w1.heap.size := (Array.getElem?_eq_some_iff.1 z2).1
  have e1 : w1.cell? ⟨w.heap.size, 1, none⟩ = some v1 := cell_of z0 rfl
  have d0 : w1.cell? ⟨w.heap.size + 1 + 1, 0, none⟩ = some (.slice none 0 0) := cell_of z2 rfl
  have g0 : w1.frozen? ⟨w.heap.size + 1 + 1, 0, none⟩ = false := frozen_of z2
  have Z2 := hide z2
  have HZ := hide (And.intro z0 (And.intro z1 (And.intro z2 (And.intro bb hr0))))
  clear z0 z1 z2 bb hr0
  go_wp2_with fail
  obtain ⟨z0, z1, z2, bb, hr0⟩ := unhide HZ
  clear HZ
  have b2 : Below w.heap.size w (w1.setCell ⟨w.heap.size + 1 + 1, 0, none⟩ (.slice a0 f.owner.length c0)) := bb.setCell (by show w.heap.size ≤ w.heap.size + 1 + 1; omega) _
  refine (k1 _ b2).mono ?_
  rintro e w2 ⟨⟨x0, rfl, hx⟩, hb⟩
  obtain ⟨a1, c1, rfl, -, -, -⟩ := row_head hx
  replace z0 := at_below hb (at_other z0 (by omega))
  replace z1 := at_below hb (at_other z1 (by omega))
  replace z2 := at_below hb (at_same z2)
  replace hr0 := (hr0.setCell (show w.heap.size + 1 + 1 < w.heap.size + 3 by omega) _).below hb
  have hr1 : RInts (w.heap.size + 3) w2 (.slice a1 f.entry.length c1) f.entry := hx.mono (by have := (Array.getElem?_eq_some_iff.1 (unhide Z2)).1; simp; omega)
  replace bb : Below w.heap.size w w2 := b2.trans (hb.mono b2.size)
  clear hx hb b2 k1 l2 d0 g0 Z2
  clear e1
  have l2 : w.heap.size + 1 + 1 < w2.heap.size := (Array.getElem?_eq_some_iff.1 z2).1
  have e2 : w2.cell? ⟨w.heap.size, 2, none⟩ = some v2 := cell_of z0 rfl
  have d1 : w2.cell? ⟨w.heap.size + 1 + 1, 1, none⟩ = some (.slice none 0 0) := cell_of z2 rfl
  have g1 : w2.frozen? ⟨w.heap.size + 1 + 1, 1, none⟩ = false := frozen_of z2
  have Z2 := hide z2
  have HZ := hide (And.intro z0 (And.intro z1 (And.intro z2 (And.intro bb (And.intro hr0 hr1)))))
  clear z0 z1 z2 bb hr0 hr1
  go_wp2_with fail
  obtain ⟨z0, z1, z2, bb, hr0, hr1⟩ := unhide HZ
  clear HZ
  have b2 : Below w.heap.size w (w2.setCell ⟨w.heap.size + 1 + 1, 1, none⟩ (.slice a1 f.entry.length c1)) := bb.setCell (by show w.heap.size ≤ w.heap.size + 1 + 1; omega) _
  refine (k2 _ b2).mono ?_
  rintro e w3 ⟨⟨x0, rfl, hx⟩, hb⟩
  obtain ⟨a2, c2, rfl, -, -, -⟩ := row_head hx
  replace z0 := at_below hb (at_other z0 (by omega))
  replace z1 := at_below hb (at_other z1 (by omega))
  replace z2 := at_below hb (at_same z2)
  replace hr0 := (hr0.setCell (show w.heap.size + 1 + 1 < w.heap.size + 3 by omega) _).below hb
  replace hr1 := (hr1.setCell (show w.heap.size + 1 + 1 < w.heap.size + 3 by omega) _).below hb
  have hr2 : RBools (w.heap.size + 3) w3 (.slice a2 f.head.length c2) f.head := hx.mono (by have := (Array.getElem?_eq_some_iff.1 (unhide Z2)).1; simp; omega)
  replace bb : Below w.heap.size w w3 := b2.trans (hb.mono b2.size)
  clear hx hb b2 k2 l2 d1 g1 Z2
  clear e2
  have l2 : w.heap.size + 1 + 1 < w3.heap.size := (Array.getElem?_eq_some_iff.1 z2).1
  have e3 : w3.cell? ⟨w.heap.size, 3, none⟩ = some v3 := cell_of z0 rfl
  have d2 : w3.cell? ⟨w.heap.size + 1 + 1, 2, none⟩ = some (.slice none 0 0) := cell_of z2 rfl
  have g2 : w3.frozen? ⟨w.heap.size + 1 + 1, 2, none⟩ = false := frozen_of z2
  have Z2 := hide z2
  have HZ := hide (And.intro z0 (And.intro z1 (And.intro z2 (And.intro bb (And.intro hr0 (And.intro hr1 hr2))))))
  clear z0 z1 z2 bb hr0 hr1 hr2
  go_wp2_with fail
  obtain ⟨z0, z1, z2, bb, hr0, hr1, hr2⟩ := unhide HZ
  clear HZ
  have b2 : Below w.heap.size w (w3.setCell ⟨w.heap.size + 1 + 1, 2, none⟩ (.slice a2 f.head.length c2)) := bb.setCell (by show w.heap.size ≤ w.heap.size + 1 + 1; omega) _
  refine (k3 _ b2).mono ?_
  rintro e w4 ⟨⟨x0, rfl, hx⟩, hb⟩
  obtain ⟨a3, c3, rfl, -, -, -⟩ := row_head hx
  replace z0 := at_below hb (at_other z0 (by omega))
  replace z1 := at_below hb (at_other z1 (by omega))
  replace z2 := at_below hb (at_same z2)
  replace hr0 := (hr0.setCell (show w.heap.size + 1 + 1 < w.heap.size + 3 by omega) _).below hb
  replace hr1 := (hr1.setCell (show w.heap.size + 1 + 1 < w.heap.size + 3 by omega) _).below hb
  replace hr2 := (hr2.setCell (show w.heap.size + 1 + 1 < w.heap.size + 3 by omega) _).below hb
  have hr3 : REds (w.heap.size + 3) w4 (.slice a3 f.edges.length c3) f.edges := hx.mono (by have := (Array.getElem?_eq_some_iff.1 (unhide Z2)).1; simp; omega)
  replace bb : Below w.heap.size w w4 := b2.trans (hb.mono b2.size)
  clear hx hb b2 k3 l2 d2 g2 Z2
  clear e3
  have l2 : w.heap.size + 1 + 1 < w4.heap.size := (Array.getElem?_eq_some_iff.1 z2).1
  have d0 : w4.cell? ⟨w.heap.size + 1 + 1, 0, none⟩ = some (.slice a0 f.owner.length c0) := cell_of z2 rfl
  have s0 : w4.cell? ⟨w.heap.size + 1, 0, none⟩ = some (.slice none 0 0) := cell_of z1 rfl
  have q0 : w4.frozen? ⟨w.heap.size + 1, 0, none⟩ = false := frozen_of z1
  have d1 : w4.cell? ⟨w.heap.size + 1 + 1, 1, none⟩ = some (.slice a1 f.entry.length c1) := cell_of z2 rfl
  have s1 : w4.cell? ⟨w.heap.size + 1, 1, none⟩ = some (.slice none 0 0) := cell_of z1 rfl
  have q1 : w4.frozen? ⟨w.heap.size + 1, 1, none⟩ = false := frozen_of z1
  have d2 : w4.cell? ⟨w.heap.size + 1 + 1, 2, none⟩ = some (.slice a2 f.head.length c2) := cell_of z2 rfl
  have s2 : w4.cell? ⟨w.heap.size + 1, 2, none⟩ = some (.slice none 0 0) := cell_of z1 rfl
  have q2 : w4.frozen? ⟨w.heap.size + 1, 2, none⟩ = false := frozen_of z1
  have d3 : w4.cell? ⟨w.heap.size + 1 + 1, 3, none⟩ = some (.slice none 0 0) := cell_of z2 rfl
  have s3 : w4.cell? ⟨w.heap.size + 1, 3, none⟩ = some (.slice none 0 0) := cell_of z1 rfl
  have q3 : w4.frozen? ⟨w.heap.size + 1, 3, none⟩ = false := frozen_of z1
  have g3 : w4.frozen? ⟨w.heap.size + 1 + 1, 3, none⟩ = false := frozen_of z2
  have tb : RFl (w.heap.size + 3) w4 (.slice a0 f.owner.length c0) (.slice a1 f.entry.length c1) (.slice a2 f.head.length c2) (.slice a3 f.edges.length c3) f := ⟨hr0, hr1, hr2, hr3⟩
  have HV := hide (And.intro z1 (And.intro tb bb))
  clear z0 z1 z2 tb bb hr0 hr1 hr2 hr3
  go_wp2_with fail
  obtain ⟨z1, tb, bb⟩ := unhide HV
  refine bodyPost_ret (results_cell1 rfl _ _ (w.heap.size + 1) 31 #[.slice a0 f.owner.length c0, .slice a1 f.entry.length c1, .slice a2 f.head.length c2, .slice a3 f.edges.length c3] (0, 0) _ rfl (at_same (at_same (at_same (at_same (at_other z1 (by omega)))))) Try.underlying31 rfl (by kernel_rfl)) rfl ?_
  refine ⟨⟨_, _, _, _, _, _, _, _, rfl, ?_⟩, ?_⟩
  · exact (((((tb.setCell (by omega) _).setCell (by omega) _).setCell (by omega) _).setCell (by omega) _).setCell (by omega) _).mono (by omega)
  · exact (((((bb.setCell (p := ⟨w.heap.size + 1 + 1, 3, none⟩) (by show w.heap.size ≤ w.heap.size + 1 + 1; omega) _).setCell (p := ⟨w.heap.size + 1, 0, none⟩) (by show w.heap.size ≤ w.heap.size + 1; omega) _).setCell (p := ⟨w.heap.size + 1, 1, none⟩) (by show w.heap.size ≤ w.heap.size + 1; omega) _).setCell (p := ⟨w.heap.size + 1, 2, none⟩) (by show w.heap.size ≤ w.heap.size + 1; omega) _).setCell (p := ⟨w.heap.size + 1, 3, none⟩) (by show w.heap.size ≤ w.heap.size + 1; omega) _)

set_option maxHeartbeats 4000000 in
set_option maxRecDepth 100000 in
theorem eqFl_same {b1 b2 : Nat} (f : Fl) (x0 x1 x2 x3 y0 y1 y2 y3 : Value) (w : World) (h1 : FlAt b1 w x0 x1 x2 x3 f) (h2 : FlAt b2 w y0 y1 y2 y3 f) :
    Calls Try.prog 9 #[.agg #[x0, x1, x2, x3], .agg #[y0, y1, y2, y3]] w fun e w' => e = .returned (.bool true) ∧ Below w.heap.size w w' := by
  have k0 := fun wx (hb : Below w.heap.size w wx) => eqI_same f.owner x0 y0 wx (h1.owner.below hb) (h2.owner.below hb)
  have k1 := fun wx (hb : Below w.heap.size w wx) => eqI_same f.entry x1 y1 wx (h1.entry.below hb) (h2.entry.below hb)
  have k2 := fun wx (hb : Below w.heap.size w wx) => eqB_same f.head x2 y2 wx (h1.head.below hb) (h2.head.below hb)
  have k3 := fun wx (hb : Below w.heap.size w wx) => eqE_same f.edges x3 y3 wx (h1.edges.below hb) (h2.edges.below hb)
  clear h1 h2
  go_enter Try.func9, Try.ntmps9
  go_wp2_with fail
  have bb := below2 w (.cells #[x0, x1, x2, x3] 31) (.cells #[y0, y1, y2, y3] 31)
  refine (k0 _ bb).mono ?_
  rintro e w1 ⟨rfl, hb⟩
  have z0 := at_below hb (at_alloc (at_new _ _))
  have z1 := at_below hb (at_new1 _ _ _)
  replace bb : Below w.heap.size w w1 := bb.trans (hb.mono bb.size)
  clear hb k0
  have l1 : w.heap.size + 1 < w1.heap.size := (Array.getElem?_eq_some_iff.1 z1).1
  have d1 : w1.cell? ⟨w.heap.size, 1, none⟩ = some x1 := cell_of z0 rfl
  have e1 : w1.cell? ⟨w.heap.size + 1, 1, none⟩ = some y1 := cell_of z1 rfl
  have HZ := hide (And.intro z0 (And.intro z1 bb))
  clear z0 z1 bb
  go_wp2_with fail
  obtain ⟨z0, z1, bb⟩ := unhide HZ
  clear HZ
  refine (k1 _ bb).mono ?_
  rintro e w2 ⟨rfl, hb⟩
  replace z0 := at_below hb z0
  replace z1 := at_below hb z1
  replace bb : Below w.heap.size w w2 := bb.trans (hb.mono bb.size)
  clear hb k1
  clear l1 d1 e1
  have l1 : w.heap.size + 1 < w2.heap.size := (Array.getElem?_eq_some_iff.1 z1).1
  have d2 : w2.cell? ⟨w.heap.size, 2, none⟩ = some x2 := cell_of z0 rfl
  have e2 : w2.cell? ⟨w.heap.size + 1, 2, none⟩ = some y2 := cell_of z1 rfl
  have HZ := hide (And.intro z0 (And.intro z1 bb))
  clear z0 z1 bb
  go_wp2_with fail
  obtain ⟨z0, z1, bb⟩ := unhide HZ
  clear HZ
  refine (k2 _ bb).mono ?_
  rintro e w3 ⟨rfl, hb⟩
  replace z0 := at_below hb z0
  replace z1 := at_below hb z1
  replace bb : Below w.heap.size w w3 := bb.trans (hb.mono bb.size)
  clear hb k2
  clear l1 d2 e2
  have l1 : w.heap.size + 1 < w3.heap.size := (Array.getElem?_eq_some_iff.1 z1).1
  have d3 : w3.cell? ⟨w.heap.size, 3, none⟩ = some x3 := cell_of z0 rfl
  have e3 : w3.cell? ⟨w.heap.size + 1, 3, none⟩ = some y3 := cell_of z1 rfl
  have HZ := hide (And.intro z0 (And.intro z1 bb))
  clear z0 z1 bb
  go_wp2_with fail
  obtain ⟨z0, z1, bb⟩ := unhide HZ
  clear HZ
  refine (k3 _ bb).mono ?_
  rintro e w4 ⟨rfl, hb⟩
  replace z0 := at_below hb z0
  replace z1 := at_below hb z1
  replace bb : Below w.heap.size w w4 := bb.trans (hb.mono bb.size)
  clear hb k3
  clear l1 d3 e3
  have HB := hide bb
  clear bb z0 z1
  go_wp2
  go_ret
  exact ⟨rfl, unhide HB⟩

set_option maxHeartbeats 4000000 in
set_option maxRecDepth 100000 in
theorem markFl_any {base : Nat} (f : Fl) (v0 v1 v2 v3 : Value) (w w4 : World) (h : RFl base w v0 v1 v2 v3 f) (h4 : RFl base w4 v0 v1 v2 v3 f) (hle : w4.heap.size ≤ w.heap.size) (hs : f.Small) :
    Calls Try.prog 10 #[.agg #[v0, v1, v2, v3], .int .i64 1] w fun e w' => (∃ r : Int, e = .returned (.int .i64 r) ∧ 1 ≤ r) ∧ ∃ o, Marked base w4.heap.size (w.alloc o) w' := by
  have b0 : Below w.heap.size w (w.alloc (.cells #[v0, v1, v2, v3] 31)) := (Below.refl _ _).alloc (Nat.le_refl _) _
  have hlt : ∀ v g n e k xs, w4.ownsRow base e k v n xs → v.ownBlock = some g → base ≤ g ∧ g < w4.heap.size := fun v g n e k xs hr hg => by
    have := row_lt hr g hg; omega
  have z0 := at_new w (.cells #[v0, v1, v2, v3] 31)
  have h0 : ∃ xs, (w.alloc (.cells #[v0, v1, v2, v3] 31)).ownsRow base 3 1 v0 f.owner.length xs := ⟨_, h.owner.below b0⟩
  have k0 := fun kk wx xs (hx : wx.ownsRow base 3 1 v0 f.owner.length xs) => markI_any (lo := base) (hi := w4.heap.size) kk v0 wx hx (fun g hg => hlt _ g _ _ _ _ h4.owner hg) hs.owner
  have h1 : ∃ xs, (w.alloc (.cells #[v0, v1, v2, v3] 31)).ownsRow base 3 1 v1 f.entry.length xs := ⟨_, h.entry.below b0⟩
  have k1 := fun kk wx xs (hx : wx.ownsRow base 3 1 v1 f.entry.length xs) => markI_any (lo := base) (hi := w4.heap.size) kk v1 wx hx (fun g hg => hlt _ g _ _ _ _ h4.entry hg) hs.entry
  have h2 : ∃ xs, (w.alloc (.cells #[v0, v1, v2, v3] 31)).ownsRow base 4 1 v2 f.head.length xs := ⟨_, h.head.below b0⟩
  have k2 := fun kk wx xs (hx : wx.ownsRow base 4 1 v2 f.head.length xs) => markB_any (lo := base) (hi := w4.heap.size) kk v2 wx hx (fun g hg => hlt _ g _ _ _ _ h4.head hg) hs.head
  have h3 : ∃ xs, (w.alloc (.cells #[v0, v1, v2, v3] 31)).ownsRow base 41 5 v3 f.edges.length xs := ⟨_, h.edges.below b0⟩
  have k3 := fun kk wx xs (hx : wx.ownsRow base 41 5 v3 f.edges.length xs) => markE_any (lo := base) (hi := w4.heap.size) kk v3 wx hx (fun g hg => hlt _ g _ _ _ _ h4.edges hg) hs.edges
  have l0 := hs.owner
  have l1 := hs.entry
  have l2 := hs.head
  have l3 := hs.edges
  have hzb : w4.heap.size ≤ w.heap.size := hle
  have HH := hide (And.intro z0 (And.intro hzb (And.intro h0 (And.intro h1 (And.intro h2 h3)))))
  have HM := hide (Marked.refl base w4.heap.size (w.alloc (.cells #[v0, v1, v2, v3] 31)))
  clear h h4 hle hs hlt z0 b0 hzb h0 h1 h2 h3
  go_enter Try.func10, Try.ntmps10
  go_wp2_with fail
  obtain ⟨z0, hzb, h0, h1, h2, h3⟩ := unhide HH
  obtain ⟨xs, hx⟩ := row_marked h0 (unhide HM)
  refine (k0 (1) _ xs hx (by omega) (by omega)).mono ?_
  rintro e w1 ⟨rfl, -, hm⟩
  replace HM := hide ((unhide HM).trans hm)
  have cc : w1.cell? ⟨w.heap.size, 1, none⟩ = some v1 := cell_of (((unhide HM).out _ (.inr hzb)).trans z0) rfl
  have lc : w.heap.size < w1.heap.size := by rw [(unhide HM).size]; simp
  clear hm hx z0 h0 h1 h2 h3
  go_wp2_with fail
  obtain ⟨z0, hzb, h0, h1, h2, h3⟩ := unhide HH
  obtain ⟨xs, hx⟩ := row_marked h1 (unhide HM)
  refine (k1 (1 + (f.owner.length : Int)) _ xs hx (by omega) (by omega)).mono ?_
  rintro e w2 ⟨rfl, -, hm⟩
  replace HM := hide ((unhide HM).trans hm)
  clear cc lc
  have cc : w2.cell? ⟨w.heap.size, 2, none⟩ = some v2 := cell_of (((unhide HM).out _ (.inr hzb)).trans z0) rfl
  have lc : w.heap.size < w2.heap.size := by rw [(unhide HM).size]; simp
  clear hm hx z0 h0 h1 h2 h3
  go_wp2_with fail
  obtain ⟨z0, hzb, h0, h1, h2, h3⟩ := unhide HH
  obtain ⟨xs, hx⟩ := row_marked h2 (unhide HM)
  refine (k2 (1 + (f.owner.length : Int) + (f.entry.length : Int)) _ xs hx (by omega) (by omega)).mono ?_
  rintro e w3 ⟨rfl, -, hm⟩
  replace HM := hide ((unhide HM).trans hm)
  clear cc lc
  have cc : w3.cell? ⟨w.heap.size, 3, none⟩ = some v3 := cell_of (((unhide HM).out _ (.inr hzb)).trans z0) rfl
  have lc : w.heap.size < w3.heap.size := by rw [(unhide HM).size]; simp
  clear hm hx z0 h0 h1 h2 h3
  go_wp2_with fail
  obtain ⟨z0, hzb, h0, h1, h2, h3⟩ := unhide HH
  obtain ⟨xs, hx⟩ := row_marked h3 (unhide HM)
  refine (k3 (1 + (f.owner.length : Int) + (f.entry.length : Int) + (f.head.length : Int)) _ xs hx (by omega) (by omega)).mono ?_
  rintro e w4 ⟨rfl, hm⟩
  replace HM := hide ((unhide HM).trans hm)
  clear hm hx z0 h0 h1 h2 h3
  go_wp2
  go_ret
  exact ⟨⟨_, rfl, by omega⟩, _, unhide HM⟩
end Go.Proofs.Ytcdpfpdoiiaggaa.rws
