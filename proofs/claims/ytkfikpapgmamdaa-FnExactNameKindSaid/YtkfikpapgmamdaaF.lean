/-
  A table copied; how much it holds; tables compared.
-/
import Derived.Test.YtkfikpapgmamdaaE
import Derived.Deep.RegionWith
import Derived.BigRegion
namespace Go.Proofs.Ytkfikpapgmamdaa.nk
open Go.RowKit Go.Proofs.Ytkfikpapgmamdaa.num
set_option linter.unusedVariables false

/-- A table that is not too great. -/
structure Tb.Small (t : Tb) : Prop where
  arrays : t.arrays.length ≤ 1048576
  globals : t.globals.length ≤ 1048576
  funcs : t.funcs.length ≤ 1048576
  inn : ∀ u ∈ t.funcs, u.ints.length ≤ 1048576 ∧ u.refs.length ≤ 1048576

section
variable {base b' : Nat} {w : World}
theorem Seq.amono {v : Value} {l : List Ar} (h : Arrs base w v l) (hb : b' ≤ base) : Arrs b' w v l := by
  obtain ⟨a, cap, h1, h2, h3, h4⟩ := h
  refine ⟨a, cap, h1, h2, h3, h4.imp id ?_⟩
  rintro ⟨b, off, ha, hbb, r⟩
  exact ⟨b, off, ha, Nat.le_trans hb hbb, r⟩
theorem Seq.fmono {v : Value} {l : List Fu} (h : Funs base w v l) (hb : b' ≤ base) : Funs b' w v l := by
  obtain ⟨a, cap, h1, h2, h3, h4⟩ := h
  refine ⟨a, cap, h1, h2, h3, h4.imp id ?_⟩
  rintro ⟨b, off, ha, hbb, hlt, hc⟩
  refine ⟨b, off, ha, Nat.le_trans hb hbb, hlt, fun j t hj => ?_⟩
  obtain ⟨cs, ⟨vi, vr, e1, e2, e3, e4⟩, r⟩ := hc j t hj
  exact ⟨cs, ⟨vi, vr, e1, e2, e3.smono hb, e4.smono hb⟩, r⟩
theorem Seq.aset {v : Value} {l : List Ar} (h : Arrs base w v l) {g o : Nat} (hg : g < base) (u : Value) : Arrs base (w.setCell ⟨g, o, none⟩ u) v l :=
  h.arrs (grown_set (World.grownBy.refl _ _) _) (fun k e => by cases e; exact hg)
theorem Seq.fset {v : Value} {l : List Fu} (h : Funs base w v l) {g o : Nat} (hg : g < base) (u : Value) : Funs base (w.setCell ⟨g, o, none⟩ u) v l :=
  h.funs (grown_set (World.grownBy.refl _ _) _) (fun k e => by cases e; exact hg)
theorem TbAt.mono {va vg vf : Value} {t : Tb} (h : TbAt base w va vg vf t) (hb : b' ≤ base) : TbAt b' w va vg vf t := ⟨h.arrays.amono hb, h.globals.smono hb, h.funcs.fmono hb⟩
theorem TbAt.set {va vg vf : Value} {t : Tb} (h : TbAt base w va vg vf t) {g o : Nat} (hg : g < base) (u : Value) : TbAt base (w.setCell ⟨g, o, none⟩ u) va vg vf t := ⟨h.arrays.aset hg u, h.globals.sset hg u, h.funcs.fset hg u⟩
end

variable {base : Nat}
set_option maxHeartbeats 4000000 in
set_option maxRecDepth 100000 in
theorem toTable_any (t : Tb) (va vg vf : Value) (w : World) (h : TbAt base w va vg vf t) (hs : t.Small) :
    Calls Try.prog 6 #[.agg #[va, vg, vf]] w fun e w' => (∃ aa na ca ag ng cg af nf cf, e = .returned (.agg #[.slice aa na ca, .slice ag ng cg, .slice af nf cf]) ∧ TbAt w.heap.size w' (.slice aa na ca) (.slice ag ng cg) (.slice af nf cf) t) ∧ Below w.heap.size w w' := by
  have ka := fun wx (hb : Below w.heap.size w wx) => toArrs_any t.arrays va wx (h.arrays.abelow hb) hs.arrays
  have kg := fun wx (hb : Below w.heap.size w wx) => toStrs_any t.globals vg wx (h.globals.sbelow hb) hs.globals
  have kf := fun wx (hb : Below w.heap.size w wx) => toFuns_any t.funcs vf wx (h.funcs.fbelow hb) hs.funcs hs.inn
  clear h hs
  go_enter Try.func6, Try.ntmps6
  go_wp2_with fail
  have b0 := below3 w (.cells #[va, vg, vf] 26) (.cells #[.slice none 0 0, .slice none 0 0, .slice none 0 0] 33) (.cells #[.slice none 0 0, .slice none 0 0, .slice none 0 0] 33)
  refine (ka _ b0).mono ?_
  rintro e w1 ⟨⟨xa, rfl, hxa⟩, hb⟩
  obtain ⟨aa, ca, rfl, -⟩ := id hxa
  have z0 := at_below hb (at_alloc (at_alloc (at_new _ _)))
  have z1 := at_below hb (at_alloc (at_new1 _ _ _))
  have z2 := at_below hb (at_new2 _ _ _ _)
  have bb : Below w.heap.size w w1 := b0.trans (hb.mono b0.size)
  have hxa2 : Arrs (w.heap.size + 3) w1 (.slice aa t.arrays.length ca) t.arrays := by simpa using hxa
  clear hxa hb b0
  have l2 : w.heap.size + 1 + 1 < w1.heap.size := (Array.getElem?_eq_some_iff.1 z2).1
  have c1 : w1.cell? ⟨w.heap.size, 1, none⟩ = some vg := cell_of z0 rfl
  have d0 : w1.cell? ⟨w.heap.size + 1 + 1, 0, none⟩ = some (.slice none 0 0) := cell_of z2 rfl
  have f0 : w1.frozen? ⟨w.heap.size + 1 + 1, 0, none⟩ = false := frozen_of z2
  have HZ := hide (And.intro z0 (And.intro z1 (And.intro z2 (And.intro bb hxa2))))
  clear z0 z1 z2 bb hxa2 ka
  go_wp2_with fail
  obtain ⟨z0, z1, z2, bb, hxa2⟩ := unhide HZ
  have b2' : Below w.heap.size w (w1.setCell ⟨w.heap.size + 1 + 1, 0, none⟩ (.slice aa t.arrays.length ca)) := bb.setCell (by show w.heap.size ≤ w.heap.size + 1 + 1; omega) _
  refine (kg _ b2').mono ?_
  rintro e w2 ⟨⟨xg, rfl, hxg⟩, hb⟩
  obtain ⟨ag, cg, rfl, -⟩ := id hxg
  have y0 := at_below hb (at_other z0 (by omega))
  have y1 := at_below hb (at_other z1 (by omega))
  have y2 := at_below hb (at_same z2)
  have hxa3 := (hxa2.aset (show w.heap.size + 1 + 1 < w.heap.size + 3 by omega) _).abelow hb
  have hxg3 : Strs (w.heap.size + 3) w2 (.slice ag t.globals.length cg) t.globals := hxg.smono (by simp; omega)
  have bb2 : Below w.heap.size w w2 := b2'.trans (hb.mono b2'.size)
  clear hxg hb b2' bb hxa2 z0 z1 z2 HZ kg c1 d0 f0
  have l2 : w.heap.size + 1 + 1 < w2.heap.size := (Array.getElem?_eq_some_iff.1 y2).1
  have c2 : w2.cell? ⟨w.heap.size, 2, none⟩ = some vf := cell_of y0 rfl
  have d1 : w2.cell? ⟨w.heap.size + 1 + 1, 1, none⟩ = some (.slice none 0 0) := cell_of y2 rfl
  have f1 : w2.frozen? ⟨w.heap.size + 1 + 1, 1, none⟩ = false := frozen_of y2
  have HY := hide (And.intro y0 (And.intro y1 (And.intro y2 (And.intro bb2 (And.intro hxa3 hxg3)))))
  clear y0 y1 y2 bb2 hxa3 hxg3
  go_wp2_with fail
  obtain ⟨y0, y1, y2, bb2, hxa3, hxg3⟩ := unhide HY
  have b3' : Below w.heap.size w (w2.setCell ⟨w.heap.size + 1 + 1, 1, none⟩ (.slice ag t.globals.length cg)) := bb2.setCell (by show w.heap.size ≤ w.heap.size + 1 + 1; omega) _
  refine (kf _ b3').mono ?_
  rintro e w3 ⟨⟨xf, rfl, hxf⟩, hb⟩
  obtain ⟨af, cf, rfl, -⟩ := id hxf
  have v1 := at_below hb (at_other y1 (by omega))
  have v2 := at_below hb (at_same y2)
  have hxa4 := (hxa3.aset (show w.heap.size + 1 + 1 < w.heap.size + 3 by omega) _).abelow hb
  have hxg4 := (hxg3.sset (show w.heap.size + 1 + 1 < w.heap.size + 3 by omega) _).sbelow hb
  have hxf4 : Funs (w.heap.size + 3) w3 (.slice af t.funcs.length cf) t.funcs := hxf.fmono (by simp; omega)
  have tb : TbAt (w.heap.size + 3) w3 (.slice aa t.arrays.length ca) (.slice ag t.globals.length cg) (.slice af t.funcs.length cf) t := ⟨hxa4, hxg4, hxf4⟩
  have bb3 : Below w.heap.size w w3 := b3'.trans (hb.mono b3'.size)
  clear hxf hb b3' bb2 hxa3 hxg3 y0 y1 y2 HY kf c2 d1 f1 hxa4 hxg4 hxf4
  have l2 : w.heap.size + 1 + 1 < w3.heap.size := (Array.getElem?_eq_some_iff.1 v2).1
  have d0 : w3.cell? ⟨w.heap.size + 1 + 1, 0, none⟩ = some (.slice aa t.arrays.length ca) := cell_of v2 rfl
  have d1 : w3.cell? ⟨w.heap.size + 1 + 1, 1, none⟩ = some (.slice ag t.globals.length cg) := cell_of v2 rfl
  have d2 : w3.cell? ⟨w.heap.size + 1 + 1, 2, none⟩ = some (.slice none 0 0) := cell_of v2 rfl
  have f2 : w3.frozen? ⟨w.heap.size + 1 + 1, 2, none⟩ = false := frozen_of v2
  have r0 : w3.cell? ⟨w.heap.size + 1, 0, none⟩ = some (.slice none 0 0) := cell_of v1 rfl
  have r1 : w3.cell? ⟨w.heap.size + 1, 1, none⟩ = some (.slice none 0 0) := cell_of v1 rfl
  have r2 : w3.cell? ⟨w.heap.size + 1, 2, none⟩ = some (.slice none 0 0) := cell_of v1 rfl
  have q0 : w3.frozen? ⟨w.heap.size + 1, 0, none⟩ = false := frozen_of v1
  have q1 : w3.frozen? ⟨w.heap.size + 1, 1, none⟩ = false := frozen_of v1
  have q2 : w3.frozen? ⟨w.heap.size + 1, 2, none⟩ = false := frozen_of v1
  have HV := hide (And.intro v1 (And.intro tb bb3))
  clear v1 v2 tb bb3
  go_wp2_with fail
  obtain ⟨v1, tb, bb3⟩ := unhide HV
  refine bodyPost_ret (results_cell1 rfl _ _ (w.heap.size + 1) 33 #[.slice aa t.arrays.length ca, .slice ag t.globals.length cg, .slice af t.funcs.length cf] (0, 0) _ rfl (at_same (at_same (at_same (at_other v1 (by omega))))) Try.underlying33 rfl (by kernel_rfl)) rfl ?_
  refine ⟨⟨_, _, _, _, _, _, _, _, _, rfl, ?_⟩, ?_⟩
  · exact ((((tb.set (by omega) _).set (by omega) _).set (by omega) _).set (by omega) _).mono (by omega)
  · exact ((((bb3.setCell (p := ⟨w.heap.size + 1 + 1, 2, none⟩) (by show w.heap.size ≤ w.heap.size + 1 + 1; omega) _).setCell (p := ⟨w.heap.size + 1, 0, none⟩) (by show w.heap.size ≤ w.heap.size + 1; omega) _).setCell (p := ⟨w.heap.size + 1, 1, none⟩) (by show w.heap.size ≤ w.heap.size + 1; omega) _).setCell (p := ⟨w.heap.size + 1, 2, none⟩) (by show w.heap.size ≤ w.heap.size + 1; omega) _)
end Go.Proofs.Ytkfikpapgmamdaa.nk
