/-
  For every code the law FnNumCmp returns true and writes nothing that was there; its two tables as the program's text lays them.
-/
import Derived.Test.YtfkmnbldadpaaaaDoorCmp
import Derived.Test.YtfkmnbldadpaaaaDoorCmpB
import Derived.Test.YtfkmnbldadpaaaaDoorOp
import Derived.Test.YtfkmnbldadpaaaaDoorTie
import Derived.Test.YtfkmnbldadpaaaaDoorCards
import Derived.SevenTiedAt
import Derived.Stop.LaidErr
import Derived.ShutString
import Derived.ChangeOld
import Derived.Below
namespace Go.Proofs.YtfkmnbldadpaaaaDoor.fnNumCmp
open Go.ChangeShapes Go.WideShapes Go.ChangeAt Go.RowKit Go.Proofs.YtfkmnbldadpaaaaDoor.num
set_option linter.unusedVariables false

/-- The door's own heap meets the condition. -/
theorem door_met (os : Os) (args : Array Value) : laidMetH Tryd.prog laidBoth ((World.doorLaid Tryd.prog 400 os).forCall (fun _ _ => 0) ⟨#[], args, []⟩).memory :=
  laidMetH_of_parts3 (fuel := 8) (laidMet_of_run' 8 (by kernel_rfl) (by kernel_rfl)) (by kernel_rfl) (by kernel_rfl)
theorem both_of {W : World} (h : laidMetH Tryd.prog laidBoth W) : Lib.TabIs Tryd.prog W nOpp .i64 opp ∧ Lib.TabIs Tryd.prog W nTurn .i64 turned := by
  rw [MakeChecks.laidMetH_plain _ _ _ (by kernel_rfl)] at h
  exact ⟨Lib.tabIs_of_head gOpp tOpp Tryd.underlying32 Tryd.underlying3 cells3 cells32 h, Lib.tabIs_of_head gTurn tTurn Tryd.underlying32 Tryd.underlying3 cells3 cells32 (rest := []) (laidMet.tail h)⟩
theorem tab_below {W W' : World} {name : String} {zs : List Int} {g : Nat} (hg : Tryd.prog.globalNamed name = some g) (h : Lib.TabIs Tryd.prog W name .i64 zs) (hb : Below W.heap.size W W') : Lib.TabIs Tryd.prog W' name .i64 zs := by
  have hlt : g < W.heap.size := by
    have h' := h
    unfold Lib.TabIs World.var? at h'
    rw [hg] at h'
    simp only [Option.bind_some] at h'
    cases hh : W.heap[g]? with
    | none => rw [hh] at h'; cases h'
    | some o => exact (Array.getElem?_eq_some_iff.1 hh).1
  exact var?_below hb hg hlt h
theorem drawCmp_any (w : World) (a : Option Addr) (len cap : Nat) (h : Code8 w a len) (hl : len ≤ cap) (hm : cap ≤ 9223372036854775807) :
    Calls Tryd.prog 6 #[.slice a len cap] w fun e w' => ∃ o x y : Int, e = .returned (.tuple #[.int .i64 o, .int .i64 x, .int .i64 y]) ∧ Below w.heap.size w w' := by
  have H := hide h
  clear h
  go_enter Tryd.func6, Tryd.ntmps6
  go_wp2_with fail
  refine (open_any _ _ _ _ (unhide H) hl hm).mono ?_
  rintro e wx ⟨rfl, h⟩
  clear H
  go_wp2_with (first | (go_at_call 14; refine (pick_st _ _ _ _ _ h (by omega) (by omega) (by omega)).mono ?_; rintro e wx ⟨v, rfl, v0, v1, h⟩) | (go_at_call 15; refine (num_st _ _ _ _ h (by omega)).mono ?_; rintro e wx ⟨v, rfl, v0, v1, h⟩))
  all_goals go_ret3
  all_goals exact ⟨_, _, _, rfl, h.below⟩
theorem not_1 (a b : Int) : cmpB 2 a b = !cmpB 1 a b := by
  rw [Bool.eq_iff_iff]
  simp [cmpB]
theorem turn_1 (a b : Int) : cmpB 1 b a = cmpB 1 a b := by
  rw [Bool.eq_iff_iff]
  simp [cmpB]; omega
theorem not_2 (a b : Int) : cmpB 1 a b = !cmpB 2 a b := by
  rw [Bool.eq_iff_iff]
  simp [cmpB]
theorem turn_2 (a b : Int) : cmpB 2 b a = cmpB 2 a b := by
  rw [Bool.eq_iff_iff]
  simp [cmpB]; omega
theorem not_3 (a b : Int) : cmpB 6 a b = !cmpB 3 a b := by
  rw [Bool.eq_iff_iff]
  simp [cmpB]
theorem turn_3 (a b : Int) : cmpB 5 b a = cmpB 3 a b := by
  rw [Bool.eq_iff_iff]
  simp [cmpB]
theorem not_4 (a b : Int) : cmpB 5 a b = !cmpB 4 a b := by
  rw [Bool.eq_iff_iff]
  simp [cmpB]
theorem turn_4 (a b : Int) : cmpB 6 b a = cmpB 4 a b := by
  rw [Bool.eq_iff_iff]
  simp [cmpB]
theorem not_5 (a b : Int) : cmpB 4 a b = !cmpB 5 a b := by
  rw [Bool.eq_iff_iff]
  simp [cmpB]
theorem turn_5 (a b : Int) : cmpB 3 b a = cmpB 5 a b := by
  rw [Bool.eq_iff_iff]
  simp [cmpB]
theorem not_6 (a b : Int) : cmpB 3 a b = !cmpB 6 a b := by
  rw [Bool.eq_iff_iff]
  simp [cmpB]
theorem turn_6 (a b : Int) : cmpB 4 b a = cmpB 6 a b := by
  rw [Bool.eq_iff_iff]
  simp [cmpB]
theorem walk (a0 : Option Addr) (len0 cap0 : Nat) (z0 : List Int) (w : World) (w0 : IsRow .u8 w a0 len0 cap0 z0)
    (hO : Lib.TabIs Tryd.prog w nOpp .i64 opp) (hT : Lib.TabIs Tryd.prog w nTurn .i64 turned) :
    Calls Tryd.prog 3 #[.slice a0 len0 cap0] w fun e w' => e = .returned (.bool true) ∧ Below w.heap.size w w' := by
  obtain ⟨hc, hl, hm⟩ := code_of_row w0
  have H := hide hc
  have HO0 := hide hO
  have HT0 := hide hT
  clear hc w0 hO hT
  by_cases hlen : 1048576 < len0
  · go_enter Tryd.func3, Tryd.ntmps3
    go_wp2
    go_ret
    exact ⟨rfl, Below.refl _ _⟩
  · go_enter Tryd.func3, Tryd.ntmps3
    go_wp2_with fail
    refine (drawCmp_any _ _ _ _ (unhide H) hl hm).mono ?_
    rintro e w1 ⟨c, x, y, rfl, hb⟩
    have HO := hide (tab_below gOpp (unhide HO0) hb)
    have HT := hide (tab_below gTurn (unhide HT0) hb)
    have B := hide hb
    clear hb H HO0 HT0
    by_cases hc : 1 ≤ c ∧ c ≤ 6
    · have hc' : c = 1 ∨ c = 2 ∨ c = 3 ∨ c = 4 ∨ c = 5 ∨ c = 6 := by omega
      clear hc
      rcases hc' with rfl | rfl | rfl | rfl | rfl | rfl
      · have n1 : notI 1 = 2 := rfl
        have n2 : notI 2 = 1 := rfl
        have u1 : turnI 1 = 1 := rfl
        have u2 : turnI 1 = 1 := rfl
        have q1 := not_1 x y
        have q2 := turn_1 x y
        go_wp2_with (first | (go_at_call 7; refine (implCmp_any _ _ _ _).mono ?_; rintro e w' ⟨rfl, rfl⟩) | (go_at_call 8; refine (specCmp_any _ _ _ _).mono ?_; rintro e w' ⟨rfl, rfl⟩) | (go_at_call 9; refine (implNot_any _ _ HO.out).mono ?_; rintro e w' ⟨rfl, rfl⟩) | (go_at_call 10; refine (implTurn_any _ _ HT.out).mono ?_; rintro e w' ⟨rfl, rfl⟩))
        go_ret
        exact ⟨rfl, unhide B⟩
      · have n1 : notI 2 = 1 := rfl
        have n2 : notI 1 = 2 := rfl
        have u1 : turnI 2 = 2 := rfl
        have u2 : turnI 2 = 2 := rfl
        have q1 := not_2 x y
        have q2 := turn_2 x y
        go_wp2_with (first | (go_at_call 7; refine (implCmp_any _ _ _ _).mono ?_; rintro e w' ⟨rfl, rfl⟩) | (go_at_call 8; refine (specCmp_any _ _ _ _).mono ?_; rintro e w' ⟨rfl, rfl⟩) | (go_at_call 9; refine (implNot_any _ _ HO.out).mono ?_; rintro e w' ⟨rfl, rfl⟩) | (go_at_call 10; refine (implTurn_any _ _ HT.out).mono ?_; rintro e w' ⟨rfl, rfl⟩))
        go_ret
        exact ⟨rfl, unhide B⟩
      · have n1 : notI 3 = 6 := rfl
        have n2 : notI 6 = 3 := rfl
        have u1 : turnI 3 = 5 := rfl
        have u2 : turnI 5 = 3 := rfl
        have q1 := not_3 x y
        have q2 := turn_3 x y
        go_wp2_with (first | (go_at_call 7; refine (implCmp_any _ _ _ _).mono ?_; rintro e w' ⟨rfl, rfl⟩) | (go_at_call 8; refine (specCmp_any _ _ _ _).mono ?_; rintro e w' ⟨rfl, rfl⟩) | (go_at_call 9; refine (implNot_any _ _ HO.out).mono ?_; rintro e w' ⟨rfl, rfl⟩) | (go_at_call 10; refine (implTurn_any _ _ HT.out).mono ?_; rintro e w' ⟨rfl, rfl⟩))
        go_ret
        exact ⟨rfl, unhide B⟩
      · have n1 : notI 4 = 5 := rfl
        have n2 : notI 5 = 4 := rfl
        have u1 : turnI 4 = 6 := rfl
        have u2 : turnI 6 = 4 := rfl
        have q1 := not_4 x y
        have q2 := turn_4 x y
        go_wp2_with (first | (go_at_call 7; refine (implCmp_any _ _ _ _).mono ?_; rintro e w' ⟨rfl, rfl⟩) | (go_at_call 8; refine (specCmp_any _ _ _ _).mono ?_; rintro e w' ⟨rfl, rfl⟩) | (go_at_call 9; refine (implNot_any _ _ HO.out).mono ?_; rintro e w' ⟨rfl, rfl⟩) | (go_at_call 10; refine (implTurn_any _ _ HT.out).mono ?_; rintro e w' ⟨rfl, rfl⟩))
        go_ret
        exact ⟨rfl, unhide B⟩
      · have n1 : notI 5 = 4 := rfl
        have n2 : notI 4 = 5 := rfl
        have u1 : turnI 5 = 3 := rfl
        have u2 : turnI 3 = 5 := rfl
        have q1 := not_5 x y
        have q2 := turn_5 x y
        go_wp2_with (first | (go_at_call 7; refine (implCmp_any _ _ _ _).mono ?_; rintro e w' ⟨rfl, rfl⟩) | (go_at_call 8; refine (specCmp_any _ _ _ _).mono ?_; rintro e w' ⟨rfl, rfl⟩) | (go_at_call 9; refine (implNot_any _ _ HO.out).mono ?_; rintro e w' ⟨rfl, rfl⟩) | (go_at_call 10; refine (implTurn_any _ _ HT.out).mono ?_; rintro e w' ⟨rfl, rfl⟩))
        go_ret
        exact ⟨rfl, unhide B⟩
      · have n1 : notI 6 = 3 := rfl
        have n2 : notI 3 = 6 := rfl
        have u1 : turnI 6 = 4 := rfl
        have u2 : turnI 4 = 6 := rfl
        have q1 := not_6 x y
        have q2 := turn_6 x y
        go_wp2_with (first | (go_at_call 7; refine (implCmp_any _ _ _ _).mono ?_; rintro e w' ⟨rfl, rfl⟩) | (go_at_call 8; refine (specCmp_any _ _ _ _).mono ?_; rintro e w' ⟨rfl, rfl⟩) | (go_at_call 9; refine (implNot_any _ _ HO.out).mono ?_; rintro e w' ⟨rfl, rfl⟩) | (go_at_call 10; refine (implTurn_any _ _ HT.out).mono ?_; rintro e w' ⟨rfl, rfl⟩))
        go_ret
        exact ⟨rfl, unhide B⟩
    · have n1 : notI c = 0 := by unfold notI; repeat (rw [if_neg (by omega)])
      have u1 : turnI c = 0 := by unfold turnI; repeat (rw [if_neg (by omega)])
      have q1 : cmpB c x y = false := by unfold cmpB; repeat (rw [if_neg (by omega)])
      by_cases hc1 : c < 1
      · clear hc
        go_wp2_with (first | (go_at_call 7; refine (implCmp_any _ _ _ _).mono ?_; rintro e w' ⟨rfl, rfl⟩) | (go_at_call 8; refine (specCmp_any _ _ _ _).mono ?_; rintro e w' ⟨rfl, rfl⟩) | (go_at_call 9; refine (implNot_any _ _ HO.out).mono ?_; rintro e w' ⟨rfl, rfl⟩) | (go_at_call 10; refine (implTurn_any _ _ HT.out).mono ?_; rintro e w' ⟨rfl, rfl⟩))
        go_ret
        exact ⟨rfl, unhide B⟩
      · have hc2 : 6 < c := by omega
        clear hc
        go_wp2_with (first | (go_at_call 7; refine (implCmp_any _ _ _ _).mono ?_; rintro e w' ⟨rfl, rfl⟩) | (go_at_call 8; refine (specCmp_any _ _ _ _).mono ?_; rintro e w' ⟨rfl, rfl⟩) | (go_at_call 9; refine (implNot_any _ _ HO.out).mono ?_; rintro e w' ⟨rfl, rfl⟩) | (go_at_call 10; refine (implTurn_any _ _ HT.out).mono ?_; rintro e w' ⟨rfl, rfl⟩))
        go_ret
        exact ⟨rfl, unhide B⟩
set_option maxRecDepth 100000 in
theorem lifted (os : Os) (started : os.Started) (H : Type) (enc : TypeId × Value → H) :
    ReturnsInHanded {} Tryd.checked os 3 .any (fun w args => (Rows.fnNumCmpSpec.pre enc Tryd.prog Tryd.f3 [] false w args ∧ laidMetH Tryd.prog laidBoth w) ∧ sizedMet enc Tryd.prog Tryd.f3 (OpenSpec.ofChange Rows.fnNumCmpSpec) false w args)
      (Rows.fnNumCmpSpec.post enc Tryd.prog Tryd.f3 false true false false) := by
  refine returnsInHanded_of_change_and (C := Tryd.checked) (X := fun w _ => laidMetH Tryd.prog laidBoth w) (fun _ _ _ hh h => h.of_heap hh) own started (by kernel_rfl) Tryd.func3
    (ChangeSpec.witness_shaped (enc := enc) (C := Tryd.checked) (os := os) (X := fun w _ => laidMetH Tryd.prog laidBoth w) false (World.doorLaid Tryd.prog 400 os) #[.slice none 0 0] 8 rfl (World.shaped_of_RefB (by kernel_rfl) (by kernel_rfl)) (by kernel_rfl) (by kernel_rfl) (by kernel_rfl) (door_met os _)) ?_
  intro W base args ds gs before hval0 hW _ _ hL _
  have hval : ∀ (j : Nat) t v, Tryd.f3.params[j]? = some t → args[j]? = some v → Value.okWide Tryd.prog W .any base t v := hval0
  have hW' := hW
  obtain ⟨p, q, hA0, hV0, rfl, hfz, hnd⟩ := hW
  have hA : DataW.TrodAll enc Tryd.prog W 0 (fun _ => true) true Tryd.f3.params.toList args.toList ds p := hA0
  have hV : DataW.TrodVars enc Tryd.prog W (fun _ => true) Rows.fnNumCmpSpec.vars gs q := hV0
  rw [Tryd.params3] at hA hval
  obtain ⟨v0, vs0, d0, ds0, p0, q0, hargs, rfl, rfl, h0, r0⟩ := trodAll_cons hA
  obtain ⟨rfl, rfl, rfl⟩ := trodAll_nil r0
  obtain rfl : args = #[v0] := by cases args; simp_all
  obtain ⟨a0, len0, cap0, rfl⟩ := okWide_slice Tryd.underlying22 (hval 0 22 v0 rfl rfl)
  have k0 := h0
  have lt0 : ∀ x ∈ p0, x.block < W.heap.size := by obtain ⟨m, hm⟩ := k0; exact DataW.trod_lt m _ _ _ hm
  obtain ⟨z0, w0⟩ : ∃ zs, IsRow .u8 W a0 len0 cap0 zs := by
    obtain ⟨fuel, hf⟩ := h0
    rcases open_ints Tryd.underlying22 Tryd.underlying5 (by kernel_rfl) hf with ⟨hcs, _⟩ | ⟨x, l, c, zs, hcs, _, hl, hm, hz, _, hcell, hwz⟩
    · simp [Value.cells] at hcs
      obtain ⟨rfl, rfl, rfl⟩ := hcs
      exact ⟨[], .inl ⟨rfl, rfl, rfl, rfl⟩⟩
    · simp [Value.cells] at hcs
      obtain ⟨rfl, rfl, rfl⟩ := hcs
      exact ⟨zs, .inr ⟨_, rfl, hl, hm, by simpa using hz, hcell, hwz⟩⟩
  obtain ⟨hO, hT⟩ := both_of hL
  clear hA0 hval0
  refine (walk a0 len0 cap0 z0 W w0 hO hT).mono fun e W' ⟨he, bel⟩ => ?_
  subst he
  have kV := Below.trodVars laidOut bel (ns := Rows.fnNumCmpSpec.vars) (by kernel_rfl) hV
  obtain ⟨g0, t0, cs0, f0, e0, i0, g1, t1, cs1, f1, e1, i1, rfl, _, _, _, _, _, _, _, _, rfl⟩ := trodVars_two hV
  exact ⟨_, rfl, _, _, _, [], _, _, hW', trodAll_mk1 (shut_bool Tryd.underlying4 _), (trodAll_cons_mk (Below.trod laidOut (by kernel_rfl) (of_decide_eq_true (by kernel_rfl)) k0 bel lt0) trodAll_mk0), kV, bel.frame _, fun h => by cases h⟩

theorem over : Rows.FnNumCmpSaid :=
  OpenClaim.holds_of_wide 3 Tryd.f3 rfl rfl rfl rfl rfl rfl rfl ⟨rfl, rfl, rfl, rfl, rfl⟩ rfl rfl rfl rfl rfl (by kernel_rfl) Tryd.func3 (by kernel_rfl)
    (of_decide_eq_true (by kernel_rfl)) (by unfold Func.isWrapper; first | (rw [if_pos (by decide +kernel)]; kernel_rfl) | (rw [if_neg (by decide +kernel)]; exact ⟨rfl, rfl⟩))
    (fun os started H enc _ => lifted os started H enc)
end Go.Proofs.YtfkmnbldadpaaaaDoor.fnNumCmp
namespace Go.Proofs.YtfkmnbldadpaaaaDoor
open Go
/-- THE STATEMENT: the tied card. -/
theorem fnNumCmp_holds : Rows.FnNumCmpCardSaid :=
  Claim7.holds_tied_plain_at .later [] [.data, .data] true Rows.fnNumCmpCard.stood.harness false
    fnNumCmp.over (fun _ h => by cases h) (by kernel_rfl) (fun _ h => by cases h) fnNumCmp_row_tie rfl ⟨rfl, rfl⟩ (by kernel_rfl) rfl
    (fun f fn hf hfn => by
      obtain rfl : f = 3 := Option.some.inj ((show Tryd.prog.funcNamed Rows.fnNumCmpRow.func = some 3 by kernel_rfl).symm.trans hf) |>.symm
      obtain rfl : fn = Tryd.f3 := (Option.some.inj (Tryd.func3.symm.trans hfn)).symm
      exact ⟨by kernel_rfl, fun j t ht => by
        rw [Tryd.params3] at ht
        have hm : t ∈ [22] := by simpa using Array.mem_of_getElem? ht
        have hall : ([22].all fun u => !Tryd.prog.wantsStandIn u) = true := by kernel_rfl
        exact (show Tryd.prog.wantsStandIn t = false by simpa using List.all_eq_true.1 hall t hm)⟩)
    (by kernel_rfl)
#print axioms fnNumCmp_holds
end Go.Proofs.YtfkmnbldadpaaaaDoor
