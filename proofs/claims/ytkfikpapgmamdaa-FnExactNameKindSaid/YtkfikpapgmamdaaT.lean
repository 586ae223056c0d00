/-
  The law, walked.
-/
import Derived.Test.YtkfikpapgmamdaaS
namespace Go.Proofs.Ytkfikpapgmamdaa.nk
open Go.RowKit Go.Proofs.Ytkfikpapgmamdaa.num
set_option linter.unusedVariables false

/-- What the law keeps. -/
structure KL (base : Nat) (w : World) (va vg vf : Value) (t : Tb) (wx : World) : Prop where
  tb : TbAt base wx va vg vf t
  box : wx.heap[w.heap.size]? = some (.cells #[va, vg, vf] 26)
  bel : Below w.heap.size w wx
theorem KL.next {base : Nat} {w : World} {va vg vf : Value} {t : Tb} {wx wy : World} (h : KL base w va vg vf t wx) (hb : Below wx.heap.size wx wy) : KL base w va vg vf t wy :=
  ⟨h.tb.below hb, at_below hb h.box, h.bel.trans (hb.mono h.bel.size)⟩

variable {base : Nat}
set_option maxHeartbeats 16000000 in
set_option maxRecDepth 100000 in
theorem law_walk (t : Tb) (fn name : ByteArray) (va vg vf : Value) (w : World) (h : TbAt base w va vg vf t) (hfn : fn.size ≤ maxLen) (hnm : name.size ≤ maxLen) :
    Calls Try.prog 3 #[.agg #[va, vg, vf], .string fn, .string name] w fun e w' => e = .returned (.bool true) ∧ Below w.heap.size w w' := by
  have b0 : Below w.heap.size w (w.alloc (.cells #[va, vg, vf] 26)) := (Below.refl _ _).alloc (Nat.le_refl _) _
  have K0 : Hid (KL base w va vg vf t (w.alloc (.cells #[va, vg, vf] 26))) := hide ⟨h.below b0, at_new _ _, b0⟩
  have hf63 : (fn.size : Int) ≤ 9223372036854775807 := by unfold maxLen at hfn; omega
  have hn63 : (name.size : Int) ≤ 9223372036854775807 := by unfold maxLen at hnm; omega
  clear h
  by_cases g1 : (1048576 : Int) < fn.size
  · go_enter Try.func3, Try.ntmps3
    go_wp2
    go_ret
    exact ⟨rfl, b0⟩
  by_cases g2 : (1048576 : Int) < name.size
  · go_enter Try.func3, Try.ntmps3
    go_wp2
    go_ret
    exact ⟨rfl, b0⟩
  clear b0
  go_enter Try.func3, Try.ntmps3
  go_wp2_with fail
  refine (szTable_any t va vg vf _ (unhide K0).tb).mono ?_
  rintro e w1 ⟨⟨r, rfl, hr⟩, hb⟩
  have K1 := hide ((unhide K0).next hb)
  clear K0 hb
  by_cases hneg : r < 0
  · clear hr
    go_wp2
    go_ret
    exact ⟨rfl, (unhide K1).bel⟩
  have hsm : Hid t.Small := by
    rcases hr with hr | hr
    · omega
    · exact hide hr.2.2
  clear hr
  have x0 : w1.cell? ⟨w.heap.size, 0, none⟩ = some va := cell_of (unhide K1).box rfl
  have x1 : w1.cell? ⟨w.heap.size, 1, none⟩ = some vg := cell_of (unhide K1).box rfl
  have x2 : w1.cell? ⟨w.heap.size, 2, none⟩ = some vf := cell_of (unhide K1).box rfl
  have xl : w.heap.size < w1.heap.size := (Array.getElem?_eq_some_iff.1 (unhide K1).box).1
  go_wp2_with fail
  refine (toTable_any t va vg vf _ (unhide K1).tb (unhide hsm)).mono ?_
  rintro e w2 ⟨⟨aa, na, ca, ag, ng, cg, af, nf, cf, rfl, htb⟩, hb⟩
  have K2 := hide ((unhide K1).next hb)
  have hS := specKind_any t fn name _ _ _ w2 htb
  clear K1 hb htb x0 x1 x2 xl
  go_wp2_with fail
  refine hS.mono ?_
  rintro e w3 ⟨rfl, hb⟩
  have K3 := hide ((unhide K2).next hb)
  clear K2 hb hS
  have x0 : w3.cell? ⟨w.heap.size, 0, none⟩ = some va := cell_of (unhide K3).box rfl
  have x1 : w3.cell? ⟨w.heap.size, 1, none⟩ = some vg := cell_of (unhide K3).box rfl
  have x2 : w3.cell? ⟨w.heap.size, 2, none⟩ = some vf := cell_of (unhide K3).box rfl
  have xl : w.heap.size < w3.heap.size := (Array.getElem?_eq_some_iff.1 (unhide K3).box).1
  go_wp2_with fail
  refine (toTable_any t va vg vf _ (unhide K3).tb (unhide hsm)).mono ?_
  rintro e w4 ⟨⟨aa', na', ca', ag', ng', cg', af', nf', cf', rfl, htb⟩, hb⟩
  have K4 := hide ((unhide K3).next hb)
  have b4 : Below w4.heap.size w4 (w4.alloc (.cells #[.slice aa' na' ca', .slice ag' ng' cg', .slice af' nf' cf'] 33)) := (Below.refl _ _).alloc (Nat.le_refl _) _
  have htb4 := hide (htb.below b4)
  have K5 := hide ((unhide K4).next b4)
  have z5 := at_new w4 (.cells #[.slice aa' na' ca', .slice ag' ng' cg', .slice af' nf' cf'] 33)
  have hI := implKind_any t fn name _ _ _ _ (unhide htb4) (unhide hsm) hfn hnm
  have HZ := hide z5
  clear K3 K4 hb htb x0 x1 x2 xl b4 z5
  go_wp2_with fail
  refine hI.mono ?_
  rintro e w5 ⟨rfl, hb⟩
  have K6 := hide ((unhide K5).next hb)
  have htb5 := hide ((unhide htb4).below hb)
  have z6 := at_below hb (unhide HZ)
  clear hI hb htb4 K5 HZ
  generalize kindOf t fn name = kk at *
  have x0 : w5.cell? ⟨w.heap.size, 0, none⟩ = some va := cell_of (unhide K6).box rfl
  have x1 : w5.cell? ⟨w.heap.size, 1, none⟩ = some vg := cell_of (unhide K6).box rfl
  have x2 : w5.cell? ⟨w.heap.size, 2, none⟩ = some vf := cell_of (unhide K6).box rfl
  have xl : w.heap.size < w5.heap.size := (Array.getElem?_eq_some_iff.1 (unhide K6).box).1
  have y0 : w5.cell? ⟨w4.heap.size, 0, none⟩ = some (.slice aa' na' ca') := cell_of z6 rfl
  have y1 : w5.cell? ⟨w4.heap.size, 1, none⟩ = some (.slice ag' ng' cg') := cell_of z6 rfl
  have y2 : w5.cell? ⟨w4.heap.size, 2, none⟩ = some (.slice af' nf' cf') := cell_of z6 rfl
  have yl : w4.heap.size < w5.heap.size := (Array.getElem?_eq_some_iff.1 z6).1
  have bd : Below w5.heap.size w5 w5.drew := ⟨rfl, rfl, rfl, Nat.le_refl _, fun _ _ => rfl⟩
  have K7 := hide ((unhide K6).next bd)
  have htb6 := hide ((unhide htb5).below bd)
  have hT := toTable_any t va vg vf _ (unhide K7).tb (unhide hsm)
  have z7 := at_below bd z6
  have HZ7 := hide z7
  clear z6 z7 bd K6 htb5
  go_wp2
  go_region_with (first
    | (go_at_call 6; refine hT.mono ?_; rintro e w6 ⟨⟨a2, n2, c2, a3, n3, c3, a4, n4, c4, rfl, htb7⟩, hb⟩; have K8 := hide ((unhide K7).next hb); have E8 := hide (eqTable_same t _ _ _ _ _ _ w6 ((unhide htb6).below hb) htb7); have y0 : w6.cell? ⟨w4.heap.size, 0, none⟩ = some (.slice aa' na' ca') := cell_of (at_below hb (unhide HZ7)) rfl; have y1 : w6.cell? ⟨w4.heap.size, 1, none⟩ = some (.slice ag' ng' cg') := cell_of (at_below hb (unhide HZ7)) rfl; have y2 : w6.cell? ⟨w4.heap.size, 2, none⟩ = some (.slice af' nf' cf') := cell_of (at_below hb (unhide HZ7)) rfl; have yl : w4.heap.size < w6.heap.size := (Array.getElem?_eq_some_iff.1 (at_below hb (unhide HZ7))).1; clear hb htb7)
    | (go_at_call 8; refine (unhide E8).mono ?_; rintro e w7 ⟨rfl, hb⟩; have K9 := hide ((unhide K8).next hb); clear hb))
  all_goals go_wp2
  all_goals go_ret
  all_goals exact ⟨rfl, (unhide K9).bel⟩
end Go.Proofs.Ytkfikpapgmamdaa.nk
