/-
  For every arguments the law FnExactValHas returns true and writes nothing that was there; its package variables as the program's text lays them.
-/
import Derived.Test.YthbbgkpkijlclaaDoorExValHasW
import Derived.Test.YthbbgkpkijlclaaDoorKc
import Derived.Test.YthbbgkpkijlclaaDoorTie
import Derived.Test.YthbbgkpkijlclaaDoorCards
namespace Go.Proofs.YthbbgkpkijlclaaDoor.fnExactValHas
open Go.ChangeShapes Go.WideShapes Go.ChangeAt Go.RowKit Go.Proofs.YthbbgkpkijlclaaDoor.num
set_option linter.unusedVariables false

set_option maxRecDepth 100000 in
theorem lifted (os : Os) (started : os.Started) (H : Type) (enc : TypeId × Value → H) :
    ReturnsInHanded {} Tryd.checked os 8 .any (fun w args => (Rows.fnExactValHasSpec.pre enc Tryd.prog Tryd.f8 [] false w args ∧ laidMetH Tryd.prog laid w) ∧ sizedMet enc Tryd.prog Tryd.f8 (OpenSpec.ofChange Rows.fnExactValHasSpec) false w args)
      (Rows.fnExactValHasSpec.post enc Tryd.prog Tryd.f8 false true false false) := by
  refine returnsInHanded_of_change_and (C := Tryd.checked) (X := fun w _ => laidMetH Tryd.prog laid w) (fun _ _ _ hh h => h.of_heap hh) own started (by kernel_rfl) Tryd.func8
    (ChangeSpec.witness_shaped (enc := enc) (C := Tryd.checked) (os := os) (X := fun w _ => laidMetH Tryd.prog laid w) false (World.doorLaid Tryd.prog 400 os) #[.agg #[.int .i64 0, .int .i64 0, .int .i64 0, .int .i64 0], .int .i64 0] 8 rfl (World.shaped_of_RefB (by kernel_rfl) (by kernel_rfl)) (by kernel_rfl) (by kernel_rfl) (by kernel_rfl) (door_met os _)) ?_
  intro W base args ds gs before hval0 hW _ _ hL _
  have hval : ∀ (j : Nat) t v, Tryd.f8.params[j]? = some t → args[j]? = some v → Value.okWide Tryd.prog W .any base t v := hval0
  have hW' := hW
  obtain ⟨p, q, hA0, hV0, rfl, hfz, hnd⟩ := hW
  have hA : DataW.TrodAll enc Tryd.prog W 0 (fun _ => true) true Tryd.f8.params.toList args.toList ds p := hA0
  have hV : DataW.TrodVars enc Tryd.prog W (fun _ => true) Rows.fnExactValHasSpec.vars gs q := hV0
  rw [Tryd.params8] at hA hval
  obtain ⟨v0, vs0, d0, ds0, p0, q0, hargs, rfl, rfl, h0, r0⟩ := trodAll_cons hA
  obtain ⟨v1, vs1, d1, ds1, p1, q1, hvs0, rfl, rfl, h1, r1⟩ := trodAll_cons r0
  obtain ⟨rfl, rfl, rfl⟩ := trodAll_nil r1
  obtain rfl : args = #[v0, v1] := by cases args; simp_all
  have k0 := h0
  have lt0 : ∀ x ∈ p0, x.block < W.heap.size := by obtain ⟨m, hm⟩ := k0; exact DataW.trod_lt m _ _ _ hm
  obtain ⟨x0, y0, m0, t0, rfl⟩ := arg_four (okWide_struct Tryd.underlying56 (hval 0 56 v0 rfl rfl)) h0
  have k1 := h1
  have lt1 : ∀ x ∈ p1, x.block < W.heap.size := by obtain ⟨m, hm⟩ := k1; exact DataW.trod_lt m _ _ _ hm
  obtain ⟨z1, rfl⟩ := okWide_int Tryd.underlying3 (hval 1 3 v1 rfl rfl)
  have hL' := laid_of hL
  clear hA0 hval0
  refine (walk x0 y0 m0 t0 z1 W  hL'.1 hL'.2).mono fun e W' ⟨he, bel⟩ => ?_
  subst he
  have kV := Below.trodVars laidOut bel (ns := Rows.fnExactValHasSpec.vars) (by kernel_rfl) hV
  have hlen : gs.length = 2 := vars_len hV
  match gs, hlen with
  | [g0, g1], _ =>
    exact ⟨_, rfl, _, _, _, [], _, _, hW', trodAll_mk1 (shut_bool Tryd.underlying4 _), (trodAll_cons_mk (Below.trod laidOut (by kernel_rfl) (of_decide_eq_true (by kernel_rfl)) k0 bel lt0) (trodAll_cons_mk (Below.trod laidOut (by kernel_rfl) (of_decide_eq_true (by kernel_rfl)) k1 bel lt1) trodAll_mk0)), kV, bel.frame _, fun h => by cases h⟩

theorem k0 : (Rows.fnExactValHasRow.wf (OpenSpec.ofChange Rows.fnExactValHasSpec)) = true := by kernel_rfl
theorem k3 : (Tryd.f8.params.all (Tryd.pinned.checked.prog.readableRec ·)) = true := by kernel_rfl
theorem k4 : (namedTie Tryd.pinned.checked.prog Rows.fnExactValHasRow.named Rows.fnExactValHasSpec.vars) = true := by kernel_rfl
theorem k5 : ((Rows.fnExactValHasRow.stops == [])) = true := by kernel_rfl
theorem k7 : ((Rows.fnExactValHasRow.knobs == [])) = true := by kernel_rfl
theorem k9 : ((Rows.fnExactValHasRow.inPlace == Tryd.pinned.checked.prog.inPlace 8)) = true := by kernel_rfl
theorem k10 : ((Rows.fnExactValHasRow.unfollowed == Tryd.pinned.checked.prog.unfollowed 8)) = true := by kernel_rfl
theorem k11 : ((Rows.fnExactValHasRow.recurses == Tryd.pinned.checked.prog.recurses 8)) = true := by kernel_rfl
theorem k12 : ((Rows.fnExactValHasRow.named == Tryd.pinned.checked.prog.varsNamed 8)) = true := by kernel_rfl
theorem k13 : ((Rows.fnExactValHasRow.maps == (Tryd.f8.params.toList ++ Rows.fnExactValHasSpec.plain.varTypes Tryd.pinned.checked.prog).any (Tryd.pinned.checked.prog.mapsRec ·))) = true := by kernel_rfl
theorem k14 : ((Rows.fnExactValHasRow.ifaces == (Tryd.f8.params.toList ++ Rows.fnExactValHasSpec.plain.varTypes Tryd.pinned.checked.prog).any (Tryd.pinned.checked.prog.ifacesRec ·))) = true := by kernel_rfl
theorem k15 : ((Rows.fnExactValHasRow.mapsOut == Tryd.pinned.checked.prog.mapsAmong Tryd.f8.resultTypes.toList)) = true := by kernel_rfl
theorem k16 : ((Rows.fnExactValHasRow.loops == (Tryd.f8.params.toList ++ Rows.fnExactValHasSpec.plain.varTypes Tryd.pinned.checked.prog).any (Tryd.pinned.checked.prog.loopsFrom ·))) = true := by kernel_rfl
theorem k17 : ((Rows.fnExactValHasRow.wideKeys == (Tryd.f8.params.toList ++ Rows.fnExactValHasSpec.plain.varTypes Tryd.pinned.checked.prog ++ Tryd.f8.resultTypes.toList).any (Tryd.pinned.checked.prog.wideKeysFrom ·))) = true := by kernel_rfl
theorem k18 : (Rows.fnExactValHasSpec.vars.all (Tryd.pinned.checked.prog.varReadable ·)) = true := by kernel_rfl
theorem k19 : (Tryd.f8.resultTypes.all (fun t => Tryd.pinned.checked.prog.readableRec t && decide (t < Tryd.pinned.checked.prog.types.size))) = true := by kernel_rfl
theorem k20 : ((Rows.fnExactValHasRow.ifacesOut == Tryd.f8.resultTypes.toList.any (Tryd.pinned.checked.prog.ifacesRec ·))) = true := by kernel_rfl
theorem k21 : ((Rows.fnExactValHasRow.loopsOut == Tryd.f8.resultTypes.toList.any (Tryd.pinned.checked.prog.loopsFrom ·))) = true := by kernel_rfl
theorem k22 : ((Rows.fnExactValHasRow.plainKeys == Tryd.pinned.checked.prog.plainKeys)) = true := by kernel_rfl
theorem k23 : (Rows.fnExactValHasRow.shortTexts.isNone) = true := by kernel_rfl
theorem k26 : ((Rows.fnExactValHasRow.lifted == Tryd.pinned.checked.prog.liftsFinal)) = true := by kernel_rfl
theorem k27 : ((Tryd.pinned.checked.prog.make == some Rows.fnExactValHasRow.make)) = true := by kernel_rfl
theorem k28 : ((Rows.fnExactValHasRow.kinds == (if Rows.fnExactValHasRow.domain.isEmpty then [] else Tryd.f8.params.toList.map fun t => match Tryd.pinned.checked.prog.underlying t with | some (.int k) => some k | _ => none))) = true := by kernel_rfl
theorem k29 : ((Rows.fnExactValHasRow.pinned == Rows.fnExactValHasRow.pinnedBy)) = true := by kernel_rfl
theorem k30 : ((Rows.fnExactValHasRow.veiled == (Tryd.f8.params.toList ++ Rows.fnExactValHasSpec.plain.varTypes Tryd.pinned.checked.prog ++ Tryd.f8.resultTypes.toList).any (Tryd.pinned.checked.prog.veiledRec ·))) = true := by kernel_rfl
theorem k31 : (Rows.fnExactValHasRow.veiledFits Tryd.pinned.checked.prog Tryd.f8.params.toList (Tryd.f8.params.toList ++ Rows.fnExactValHasSpec.plain.varTypes Tryd.pinned.checked.prog ++ Tryd.f8.resultTypes.toList)) = true := by kernel_rfl
set_option maxRecDepth 100000 in
set_option maxHeartbeats 4000000 in
theorem closed : joinedFacts Tryd.pinned.checked.prog 8 Tryd.f8 Rows.fnExactValHasSpec Rows.fnExactValHasRow = true := by
  unfold joinedFacts
  exact Go.Proofs.YthbbgkpkijlclaaDoor.num.and2 (Go.Proofs.YthbbgkpkijlclaaDoor.num.and2 (Go.Proofs.YthbbgkpkijlclaaDoor.num.and2 (Go.Proofs.YthbbgkpkijlclaaDoor.num.and2 (Go.Proofs.YthbbgkpkijlclaaDoor.num.and2 (Go.Proofs.YthbbgkpkijlclaaDoor.num.and2 (Go.Proofs.YthbbgkpkijlclaaDoor.num.and2 (Go.Proofs.YthbbgkpkijlclaaDoor.num.and2 (Go.Proofs.YthbbgkpkijlclaaDoor.num.and2 (Go.Proofs.YthbbgkpkijlclaaDoor.num.and2 (Go.Proofs.YthbbgkpkijlclaaDoor.num.and2 (Go.Proofs.YthbbgkpkijlclaaDoor.num.and2 (Go.Proofs.YthbbgkpkijlclaaDoor.num.and2 (Go.Proofs.YthbbgkpkijlclaaDoor.num.and2 (Go.Proofs.YthbbgkpkijlclaaDoor.num.and2 (Go.Proofs.YthbbgkpkijlclaaDoor.num.and2 (Go.Proofs.YthbbgkpkijlclaaDoor.num.and2 (Go.Proofs.YthbbgkpkijlclaaDoor.num.and2 (Go.Proofs.YthbbgkpkijlclaaDoor.num.and2 (Go.Proofs.YthbbgkpkijlclaaDoor.num.and2 (Go.Proofs.YthbbgkpkijlclaaDoor.num.and2 (Go.Proofs.YthbbgkpkijlclaaDoor.num.and2 (Go.Proofs.YthbbgkpkijlclaaDoor.num.and2 (Go.Proofs.YthbbgkpkijlclaaDoor.num.and2 (Go.Proofs.YthbbgkpkijlclaaDoor.num.and2 (Go.Proofs.YthbbgkpkijlclaaDoor.num.and2 (Go.Proofs.YthbbgkpkijlclaaDoor.num.and2 (Go.Proofs.YthbbgkpkijlclaaDoor.num.and2 (Go.Proofs.YthbbgkpkijlclaaDoor.num.and2 (Go.Proofs.YthbbgkpkijlclaaDoor.num.and2 (Go.Proofs.YthbbgkpkijlclaaDoor.num.and2 (k0) Go.Proofs.YthbbgkpkijlclaaDoor.num.kP1) Go.Proofs.YthbbgkpkijlclaaDoor.num.kP2) k3) k4) k5) Go.Proofs.YthbbgkpkijlclaaDoor.num.kP6) k7) Go.Proofs.YthbbgkpkijlclaaDoor.num.kP8) k9) k10) k11) k12) k13) k14) k15) k16) k17) k18) k19) k20) k21) k22) k23) Go.Proofs.YthbbgkpkijlclaaDoor.num.kP24) Go.Proofs.YthbbgkpkijlclaaDoor.num.kP25) k26) k27) k28) k29) k30) k31
theorem wfT : Rows.fnExactValHasRow.wfByText (OpenSpec.ofChange Rows.fnExactValHasSpec) = true := by kernel_rfl
theorem goesT : false = Rows.fnExactValHasRow.goesBy Tryd.pinned.checked.prog := by kernel_rfl
theorem mainT : Tryd.pinned.checked.prog.mainIs = some (Rows.fnExactValHasCard.stood.harness.1, Rows.fnExactValHasCard.stood.harness.2.toList) := by kernel_rfl
theorem over : Rows.FnExactValHasSaid :=
  OpenClaim.holds_of_wide 8 Tryd.f8 rfl rfl rfl rfl rfl rfl rfl ⟨rfl, rfl, rfl, rfl, rfl⟩ rfl rfl rfl rfl rfl (by kernel_rfl) Tryd.func8 closed
    (of_decide_eq_true (by kernel_rfl)) (by unfold Func.isWrapper; first | (rw [if_pos (by decide +kernel)]; kernel_rfl) | (rw [if_neg (by decide +kernel)]; exact ⟨rfl, rfl⟩))
    (fun os started H enc _ => lifted os started H enc)
end Go.Proofs.YthbbgkpkijlclaaDoor.fnExactValHas
namespace Go.Proofs.YthbbgkpkijlclaaDoor
open Go
/-- THE STATEMENT: the tied card. -/
theorem fnExactValHas_holds : Rows.FnExactValHasCardSaid :=
  Claim7.holds_tied_plain_at .later [] [.data, .data] true Rows.fnExactValHasCard.stood.harness true
    fnExactValHas.over (fun _ h => by cases h) fnExactValHas.wfT (fun _ h => by cases h) fnExactValHas_row_tie rfl ⟨rfl, rfl⟩ fnExactValHas.mainT rfl
    (fun f fn hf hfn => by
      obtain rfl : f = 8 := Option.some.inj ((show Tryd.prog.funcNamed Rows.fnExactValHasRow.func = some 8 by kernel_rfl).symm.trans hf) |>.symm
      obtain rfl : fn = Tryd.f8 := (Option.some.inj (Tryd.func8.symm.trans hfn)).symm
      exact ⟨Go.Proofs.YthbbgkpkijlclaaDoor.num.looksT, fun j t ht => by
        rw [Tryd.params8] at ht
        have hm : t ∈ [56, 3] := by simpa using Array.mem_of_getElem? ht
        have hall : ([56, 3].all fun u => !Tryd.prog.wantsStandIn u) = true := by kernel_rfl
        exact (show Tryd.prog.wantsStandIn t = false by simpa using List.all_eq_true.1 hall t hm)⟩)
    fnExactValHas.goesT
#print axioms fnExactValHas_holds
end Go.Proofs.YthbbgkpkijlclaaDoor
