/-
  The law, walked.
-/
import Derived.Test.YtcdpfpdoiiaggaaRi
namespace Go.Proofs.Ytcdpfpdoiiaggaa.rws
open Go.RowKit Go.ChangeShapes Go.Proofs.Ytcdpfpdoiiaggaa.num
set_option linter.unusedVariables false

/-- What the law keeps of what came in: its box, all that lay below. -/
structure KL (w : World) (v0 v1 v2 v3 : Value) (wx : World) : Prop where
  bel : Below (w.heap.size + 1) (w.alloc (.cells #[v0, v1, v2, v3] 26)) wx
section
variable {w wx wy : World} {v0 v1 v2 v3 : Value}
theorem KL.next (h : KL w v0 v1 v2 v3 wx) (hb : Below wx.heap.size wx wy) : KL w v0 v1 v2 v3 wy := ⟨h.bel.trans (hb.mono (by have := h.bel.size; simp at this; omega))⟩
theorem KL.marked {lo hi : Nat} (h : KL w v0 v1 v2 v3 wx) (hl : w.heap.size + 1 ≤ lo) (hm : Marked lo hi wx wy) : KL w v0 v1 v2 v3 wy := ⟨h.bel.trans (hm.below.mono hl)⟩
theorem KL.size (h : KL w v0 v1 v2 v3 wx) : w.heap.size + 1 ≤ wx.heap.size := by have := h.bel.size; simpa using this
theorem KL.box (h : KL w v0 v1 v2 v3 wx) : wx.heap[w.heap.size]? = some (.cells #[v0, v1, v2, v3] 26) := (h.bel.block _ (Nat.lt_succ_self _)).trans (at_new _ _)
theorem KL.below (h : KL w v0 v1 v2 v3 wx) : Below w.heap.size w wx := ((Below.refl _ w).alloc (Nat.le_refl _) _).trans (h.bel.mono (Nat.le_succ _))
theorem KL.drew (h : KL w v0 v1 v2 v3 wx) : KL w v0 v1 v2 v3 wx.drew := ⟨⟨h.bel.os, h.bel.tape, h.bel.output, h.bel.size, h.bel.block⟩⟩
end
theorem bel_is_drew (w : World) : Below w.heap.size w w.drew := ⟨rfl, rfl, rfl, Nat.le_refl _, fun _ _ => rfl⟩

set_option maxHeartbeats 16000000 in
set_option maxRecDepth 100000 in
theorem law_walk {base : Nat} (f : Fl) (p : Int) (v0 v1 v2 v3 : Value) (w : World) (h : FlAt base w v0 v1 v2 v3 f) (hp : (Lit.int .i64 p).wf = true) :
    Calls Try.prog 3 #[.agg #[v0, v1, v2, v3], .int .i64 p] w fun e w' => e = .returned (.bool true) ∧ Below w.heap.size w w' := by
  have K0 : Hid (KL w v0 v1 v2 v3 (w.alloc (.cells #[v0, v1, v2, v3] 26))) := hide ⟨Below.refl _ _⟩
  have HF := hide (fun wx (k : KL w v0 v1 v2 v3 wx) => h.below k.below)
  clear h
  go_enter Try.func3, Try.ntmps3
  go_wp2_with fail
  refine (szFl_any f v0 v1 v2 v3 _ (unhide HF _ (unhide K0))).mono ?_
  rintro e w1 ⟨⟨r, rfl, hr⟩, hb⟩
  have K1 := hide ((unhide K0).next hb)
  clear K0 hb
  by_cases hneg : r < 0
  · clear hr
    go_wp2
    go_ret
    exact ⟨rfl, (unhide K1).below⟩
  have hsm : Hid f.Small := by
    rcases hr with hr | hr
    · omega
    · exact hide hr.2.2
  clear hr
  have x0 : w1.cell? ⟨w.heap.size, 0, none⟩ = some v0 := cell_of (unhide K1).box rfl
  have x1 : w1.cell? ⟨w.heap.size, 1, none⟩ = some v1 := cell_of (unhide K1).box rfl
  have x2 : w1.cell? ⟨w.heap.size, 2, none⟩ = some v2 := cell_of (unhide K1).box rfl
  have x3 : w1.cell? ⟨w.heap.size, 3, none⟩ = some v3 := cell_of (unhide K1).box rfl
  have xl : w.heap.size < w1.heap.size := (unhide K1).size
  go_wp2_with fail
  refine (toFl_any f v0 v1 v2 v3 _ (unhide HF _ (unhide K1)) (unhide hsm)).mono ?_
  rintro e w2 ⟨⟨a0, c0, a1, c1, a2, c2, a3, c3, rfl, hrf⟩, hb⟩
  have K2 := hide ((unhide K1).next hb)
  have hS := specOut_any f.edges p (.slice a0 f.owner.length c0) (.slice a1 f.entry.length c1) (.slice a2 f.head.length c2) _ w2 (hrf.at (unhide HF _ (unhide K2))).edges (unhide hsm).edges
  clear K1 hb hrf x0 x1 x2 x3 xl
  go_wp2_with fail
  refine hS.mono ?_
  rintro e w3 ⟨⟨vs, rfl, hvs⟩, hb⟩
  have K3 := hide ((unhide K2).next hb)
  have s23 := hb.size
  have HVS := hide hvs
  have hvsl : ∀ g, vs.ownBlock = some g → g < w3.heap.size := fun g hg => (row_lt hvs g hg).2
  obtain ⟨av, cv, rfl, -⟩ := row_head hvs
  have HVL := hide hvsl
  have hon := outs_len f.edges p f.edges.length
  have hsm1 := (unhide hsm).edges
  clear hb hS hvs hvsl
  have k2 := (unhide K2).size
  have k3 := (unhide K3).size
  have x0 : w3.cell? ⟨w.heap.size, 0, none⟩ = some v0 := cell_of (unhide K3).box rfl
  have x1 : w3.cell? ⟨w.heap.size, 1, none⟩ = some v1 := cell_of (unhide K3).box rfl
  have x2 : w3.cell? ⟨w.heap.size, 2, none⟩ = some v2 := cell_of (unhide K3).box rfl
  have x3 : w3.cell? ⟨w.heap.size, 3, none⟩ = some v3 := cell_of (unhide K3).box rfl
  clear K2
  go_wp2_with fail
  refine (toFl_any f v0 v1 v2 v3 _ (unhide HF _ (unhide K3)) (unhide hsm)).mono ?_
  rintro e w4 ⟨⟨b0, d0, b1, d1, b2, d2, b3, d3, rfl, hrf⟩, hb⟩
  have K4 := hide ((unhide K3).next hb)
  have HX4 := hide hrf
  have s34 := hb.size
  have HVS4 := hide ((unhide HVS).below hb)
  have B4 := below1 w4 (.cells #[.slice b0 f.owner.length d0, .slice b1 f.entry.length d1, .slice b2 f.head.length d2, .slice b3 f.edges.length d3] 31)
  have z4 := at_new w4 (.cells #[.slice b0 f.owner.length d0, .slice b1 f.entry.length d1, .slice b2 f.head.length d2, .slice b3 f.edges.length d3] 31)
  have K5 := hide ((unhide K4).next B4)
  have HX5 := hide (hrf.below B4)
  have HVS5 := hide ((unhide HVS4).below B4)
  have hI := implOut_any f.edges p (.slice b0 f.owner.length d0) (.slice b1 f.entry.length d1) (.slice b2 f.head.length d2) _ _ ((unhide HX5).at (unhide HF _ (unhide K5))).edges (unhide hsm).edges hp
  have Z4 := hide z4
  clear hb hrf x0 x1 x2 x3 K3 HVS K4 HVS4 B4 z4
  go_wp2_with fail
  refine hI.mono ?_
  rintro e w6 ⟨⟨vg, rfl, hvg⟩, hb⟩
  rw [size_alloc1] at hvg
  have K6 := hide ((unhide K5).next hb)
  have HX6 := hide ((unhide HX5).below hb)
  have HVS6 := hide ((unhide HVS5).below hb)
  have Z6 := hide (at_below hb (unhide Z4))
  have s46 : w4.heap.size + 1 ≤ w6.heap.size := by have := hb.size; simpa using this
  have HVG6 := hide hvg
  obtain ⟨ag, cg, rfl, -⟩ := row_head hvg
  clear hb hI hvg K5 HX5 HVS5 Z4
  go_wp2_with fail
  refine (eqI_same _ _ _ w6 ((unhide HVG6).seq (ok := fun _ => True) (fun _ => rfl) (fun _ _ _ => trivial)) ((unhide HVS6).seq (ok := fun _ => True) (fun _ => rfl) (fun _ _ _ => trivial))).mono ?_
  rintro e w7 ⟨rfl, hb⟩
  replace hb := hb.trans ((bel_is_drew w7).mono hb.size)
  have K7 := hide ((unhide K6).next hb)
  have HX7 := hide ((unhide HX6).below hb)
  have HVS7 := hide ((unhide HVS6).below hb)
  have HVG7 := hide ((unhide HVG6).below hb)
  have Z7 := hide (at_below hb (unhide Z6))
  have s67 := hb.size
  clear hb K6 HX6 HVS6 HVG6 Z6
  have x0 : w7.cell? ⟨w.heap.size, 0, none⟩ = some v0 := cell_of (unhide K7).box rfl
  have x1 : w7.cell? ⟨w.heap.size, 1, none⟩ = some v1 := cell_of (unhide K7).box rfl
  have x2 : w7.cell? ⟨w.heap.size, 2, none⟩ = some v2 := cell_of (unhide K7).box rfl
  have x3 : w7.cell? ⟨w.heap.size, 3, none⟩ = some v3 := cell_of (unhide K7).box rfl
  have xl : w.heap.size < w7.heap.size := (unhide K7).size
  have y0 : w7.cell? ⟨w4.heap.size, 0, none⟩ = some (.slice b0 f.owner.length d0) := cell_of (unhide Z7) rfl
  have y1 : w7.cell? ⟨w4.heap.size, 1, none⟩ = some (.slice b1 f.entry.length d1) := cell_of (unhide Z7) rfl
  have y2 : w7.cell? ⟨w4.heap.size, 2, none⟩ = some (.slice b2 f.head.length d2) := cell_of (unhide Z7) rfl
  have y3 : w7.cell? ⟨w4.heap.size, 3, none⟩ = some (.slice b3 f.edges.length d3) := cell_of (unhide Z7) rfl
  have yl : w4.heap.size < w7.heap.size := (Array.getElem?_eq_some_iff.1 (unhide Z7)).1
  have hT := toFl_any f v0 v1 v2 v3 _ (unhide HF _ (unhide K7)) (unhide hsm)
  clear s67
  go_wp2
  go_region_with (first
    | (go_at_call 6; refine hT.mono ?_; rintro e w8 ⟨⟨a4, c4, a5, c5, a6, c6, a7, c7, rfl, hrf⟩, hb⟩; have K8 := hide ((unhide K7).next hb); have HX8 := hide ((unhide HX7).below hb); have HVS8 := hide ((unhide HVS7).below hb); have HVG8 := hide ((unhide HVG7).below hb); have Z8 := hide (at_below hb (unhide Z7)); have E8 := hide (eqFl_same f _ _ _ _ _ _ _ _ w8 ((unhide HX8).at (unhide HF _ (unhide K8))) (hrf.at (unhide HF _ (unhide K8)))); have y0 : w8.cell? ⟨w4.heap.size, 0, none⟩ = some (.slice b0 f.owner.length d0) := cell_of (unhide Z8) rfl; have y1 : w8.cell? ⟨w4.heap.size, 1, none⟩ = some (.slice b1 f.entry.length d1) := cell_of (unhide Z8) rfl; have y2 : w8.cell? ⟨w4.heap.size, 2, none⟩ = some (.slice b2 f.head.length d2) := cell_of (unhide Z8) rfl; have y3 : w8.cell? ⟨w4.heap.size, 3, none⟩ = some (.slice b3 f.edges.length d3) := cell_of (unhide Z8) rfl; have yl : w4.heap.size < w8.heap.size := (Array.getElem?_eq_some_iff.1 (unhide Z8)).1; clear hb hrf)
    | (go_at_call 9; refine (unhide E8).mono ?_; rintro e w9 ⟨rfl, hb⟩; have K9 := hide ((unhide K8).next hb); have HX9 := hide ((unhide HX8).below hb); have HVS9 := hide ((unhide HVS8).below hb); have HVG9 := hide ((unhide HVG8).below hb); have Z9 := hide (at_below hb (unhide Z8)); clear hb))
  all_goals (
    clear HX8 HX7 HVS7 HVS8 HVG7 HVG8 Z7 Z8 K7 K8 E8 x0 x1 x2 x3 xl hT
    clear y0 y1 y2 y3 yl
    clear y0 y1 y2 y3 yl
    have y0 : w9.cell? ⟨w4.heap.size, 0, none⟩ = some (.slice b0 f.owner.length d0) := cell_of (unhide Z9) rfl
    have y1 : w9.cell? ⟨w4.heap.size, 1, none⟩ = some (.slice b1 f.entry.length d1) := cell_of (unhide Z9) rfl
    have y2 : w9.cell? ⟨w4.heap.size, 2, none⟩ = some (.slice b2 f.head.length d2) := cell_of (unhide Z9) rfl
    have y3 : w9.cell? ⟨w4.heap.size, 3, none⟩ = some (.slice b3 f.edges.length d3) := cell_of (unhide Z9) rfl
    have yl : w4.heap.size < w9.heap.size := (Array.getElem?_eq_some_iff.1 (unhide Z9)).1
    go_wp2_with fail
    refine (markFl_any f _ _ _ _ w9 w4 (unhide HX9) (unhide HX4) (by omega) (unhide hsm)).mono ?_
    rintro e w10 ⟨⟨r2, rfl, hr2⟩, o, hm⟩
    have K10 := hide (((unhide K9).next (below1 w9 o)).marked k3 hm)
    have HVG10 := hide (((unhide HVG9).below (below1 w9 o)).of_block (fun g hg => hm.out g (.inr (by have := (row_lt (unhide HVG9) g hg).1; omega))))
    have HVS10 := hide (((unhide HVS9).below (below1 w9 o)).of_block (fun g hg => hm.out g (.inl (unhide HVL g hg))))
    clear hm K9 HVG9 HVS9 HX9 Z9 y0 y1 y2 y3 yl
    go_wp2_with fail
    refine (eqI_same _ _ _ w10 ((unhide HVG10).seq (ok := fun _ => True) (fun _ => rfl) (fun _ _ _ => trivial)) ((unhide HVS10).seq (ok := fun _ => True) (fun _ => rfl) (fun _ _ _ => trivial))).mono ?_
    rintro e w11 ⟨rfl, hb⟩
    have K11 := hide ((unhide K10).next hb)
    have HVG11 := hide ((unhide HVG10).below hb)
    have HVS11 := hide ((unhide HVS10).below hb)
    clear hb K10 HVG10 HVS10
    go_wp2_with fail
    refine (markI_any (lo := w4.heap.size + 1) (hi := w11.heap.size) 1 _ w11 (unhide HVG11) (fun g hg => row_lt (unhide HVG11) g hg) (by omega) (by omega) (by omega)).mono ?_
    rintro e w12 ⟨rfl, hvg, hm⟩
    have K12 := hide ((unhide K11).marked (by omega) hm)
    have HVG12 := hide hvg
    have HVS12 := hide ((unhide HVS11).of_block (fun g hg => hm.out g (.inl (by have := unhide HVL g hg; omega))))
    clear hm hvg K11 HVG11 HVS11
    go_wp2_with fail
    refine (heldI_any 1 _ w12 ((unhide HVG12).seq (ok := fun _ => True) (fun _ => rfl) (fun _ _ _ => trivial)) (by omega) (by omega) (by omega)).mono ?_
    rintro e w13 ⟨rfl, hw13⟩
    subst w13
    have x0 : w12.cell? ⟨w.heap.size, 0, none⟩ = some v0 := cell_of (unhide K12).box rfl
    have x1 : w12.cell? ⟨w.heap.size, 1, none⟩ = some v1 := cell_of (unhide K12).box rfl
    have x2 : w12.cell? ⟨w.heap.size, 2, none⟩ = some v2 := cell_of (unhide K12).box rfl
    have x3 : w12.cell? ⟨w.heap.size, 3, none⟩ = some v3 := cell_of (unhide K12).box rfl
    have xl : w.heap.size < w12.heap.size := (unhide K12).size
    go_wp2_with fail
    refine (toFl_any f v0 v1 v2 v3 _ (unhide HF _ (unhide K12)) (unhide hsm)).mono ?_
    rintro e w13 ⟨⟨a4, c4, a5, c5, a6, c6, a7, c7, rfl, hrf⟩, hb⟩
    have K13 := hide ((unhide K12).next hb)
    have HVG13 := hide ((unhide HVG12).below hb)
    have HVS13 := hide ((unhide HVS12).below hb)
    have hI := implOut_any f.edges p (.slice a4 f.owner.length c4) (.slice a5 f.entry.length c5) (.slice a6 f.head.length c6) _ w13 (hrf.at (unhide HF _ (unhide K13))).edges (unhide hsm).edges hp
    clear hb hrf K12 HVG12 HVS12 x0 x1 x2 x3 xl
    go_wp2_with fail
    refine hI.mono ?_
    rintro e w14 ⟨⟨vh, rfl, hvh⟩, hb⟩
    have K14 := hide ((unhide K13).next hb)
    have HVG14 := hide ((unhide HVG13).below hb)
    have HVS14 := hide ((unhide HVS13).below hb)
    have HVH14 := hide hvh
    obtain ⟨ah, ch, rfl, -⟩ := row_head hvh
    clear hb hI hvh K13 HVG13 HVS13
    go_wp2_with fail
    refine (eqI_same _ _ _ w14 ((unhide HVH14).seq (ok := fun _ => True) (fun _ => rfl) (fun _ _ _ => trivial)) ((unhide HVS14).seq (ok := fun _ => True) (fun _ => rfl) (fun _ _ _ => trivial))).mono ?_
    rintro e w15 ⟨rfl, hb⟩
    have K15 := hide ((unhide K14).next hb)
    have HVG15 := hide ((unhide HVG14).below hb)
    clear hb K14 HVG14 HVS14 HVH14
    go_wp2_with fail
    refine (heldI_any 1 _ w15 ((unhide HVG15).seq (ok := fun _ => True) (fun _ => rfl) (fun _ _ _ => trivial)) (by omega) (by omega) (by omega)).mono ?_
    rintro e w16 ⟨rfl, hw16⟩
    subst w16
    go_wp2
    go_ret
    exact ⟨rfl, (unhide K15).below⟩)
end Go.Proofs.Ytcdpfpdoiiaggaa.rws
