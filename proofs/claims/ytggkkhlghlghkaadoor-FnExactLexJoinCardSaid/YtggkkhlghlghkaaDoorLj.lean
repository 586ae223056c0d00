/-
  The law on joins at every argument, walked.
-/
import Derived.Test.YtggkkhlghlghkaaDoorJt
namespace Go.Proofs.YtggkkhlghlghkaaDoor.lex
open Go.RowKit Go.Proofs.YtggkkhlghlghkaaDoor.num
set_option linter.unusedVariables false

/-- What the law keeps. -/
structure Kj (w : World) (a : Option Addr) (len : Nat) (z : List Tok) (wx : World) : Prop where
  sg : Sg wx
  toks : Toks wx a len z
  below : Below w.heap.size w wx
theorem Kj.next {w : World} {a : Option Addr} {len : Nat} {z : List Tok} {wx wy : World} (h : Kj w a len z wx) (hb : Below wx.heap.size wx wy) : Kj w a len z wy :=
  ⟨h.sg.below hb h.sg.size, h.toks.below hb, h.below.trans (hb.mono h.below.size)⟩

set_option maxHeartbeats 4000000 in
set_option maxRecDepth 100000 in
theorem join_walk (a : Option Addr) (len cap : Nat) (z : List Tok) (w : World) (hz : Toks w a len z ∧ len ≤ cap ∧ cap ≤ maxLen) (h : Sg w) :
    Calls Tryd.prog 8 #[.slice a len cap] w fun e w' => e = .returned (.bool true) ∧ Below w.heap.size w w' := by
  obtain ⟨hz, hl, hm⟩ := hz
  have hzl := hz.1
  have K0 : Hid (Kj w a len z w) := hide ⟨h, hz, Below.refl _ _⟩
  clear hz h
  go_enter Tryd.func8, Tryd.ntmps8
  go_wp2_with fail
  refine (szTokenS_any a len cap z w (unhide K0).toks hl hm).mono ?_
  rintro e w1 ⟨⟨r, rfl, hr⟩, hb⟩
  have K1 := hide ((unhide K0).next hb)
  clear K0 hb
  by_cases hneg : r < 0
  · clear hr
    go_wp2
    go_ret
    exact ⟨rfl, (unhide K1).below⟩
  · obtain ⟨h20, hx⟩ := hr (by omega)
    have HX := hide hx
    clear hr hx
    have hTo := fun wx (hk : Kj w a len z wx) => toTokenS_any a len cap z wx hk.toks hl h20
    go_wp2_with fail
    refine (hTo _ (unhide K1)).mono ?_
    rintro e w2 ⟨⟨v1, rfl, hr1⟩, hb⟩
    have K2 := hide ((unhide K1).next hb)
    have hS := specJoin_any z v1 _ w2 (by omega) (unhide HX) hr1
    clear K1 hb hr1
    go_wp2_with fail
    refine hS.mono ?_
    rintro e w3 ⟨rfl, hb⟩
    have K3 := hide ((unhide K2).next hb)
    clear K2 hb hS
    go_wp2_with fail
    refine (hTo _ (unhide K3)).mono ?_
    rintro e w4 ⟨⟨v2, rfl, hr2⟩, hb⟩
    have K4 := hide ((unhide K3).next hb)
    have R4 := hide hr2
    have hI := implJoin_any z v2 _ w4 (unhide K4).sg (by omega) (unhide HX) hr2
    clear K3 hb hr2
    go_wp2_with fail
    refine hI.mono ?_
    rintro e w5 ⟨rfl, hb⟩
    have K5 := hide ((unhide K4).next hb)
    have R5 := hide (row_below (unhide R4) hb)
    clear K4 hb hI R4
    generalize (joinOut z).1 = J at *
    generalize (joinOut z).2 = ok at *
    go_wp2_with fail
    refine (hTo _ (unhide K5)).mono ?_
    rintro e w6 ⟨⟨v3, rfl, hr3⟩, hb⟩
    have K6 := hide ((unhide K5).next hb)
    have hE := eqTokenS_same z v2 v3 _ _ w6 (by omega) (row_below (unhide R5) hb) hr3
    clear K5 hb hr3 R5
    go_wp2_with fail
    refine hE.mono ?_
    rintro e w7 ⟨rfl, hb⟩
    have K7 := hide ((unhide K6).next hb)
    go_wp2
    go_ret
    exact ⟨rfl, (unhide K7).below⟩
end Go.Proofs.YtggkkhlghlghkaaDoor.lex
