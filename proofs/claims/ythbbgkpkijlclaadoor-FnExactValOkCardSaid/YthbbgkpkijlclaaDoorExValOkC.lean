/-
  For every arguments the law FnExactValOk returns true and writes nothing that was there; its package variables as the program's text lays them.
-/
import Derived.Test.YthbbgkpkijlclaaDoorExValOkW
import Derived.Test.YthbbgkpkijlclaaDoorKc
import Derived.Test.YthbbgkpkijlclaaDoorTie
import Derived.Test.YthbbgkpkijlclaaDoorCards
namespace Go.Proofs.YthbbgkpkijlclaaDoor.fnExactValOk
open Go.ChangeShapes Go.WideShapes Go.ChangeAt Go.RowKit Go.Proofs.YthbbgkpkijlclaaDoor.num
set_option linter.unusedVariables false

set_option maxRecDepth 100000 in
theorem lifted (os : Os) (started : os.Started) (H : Type) (enc : TypeId × Value → H) :
    ReturnsInHanded {} Tryd.checked os 7 .any (fun w args => (Rows.fnExactValOkSpec.pre enc Tryd.prog Tryd.f7 [] false w args ∧ laidMetH Tryd.prog laid w) ∧ sizedMet enc Tryd.prog Tryd.f7 (OpenSpec.ofChange Rows.fnExactValOkSpec) false w args)
      (Rows.fnExactValOkSpec.post enc Tryd.prog Tryd.f7 false true false false) := by
  refine returnsInHanded_of_change_and (C := Tryd.checked) (X := fun w _ => laidMetH Tryd.prog laid w) (fun _ _ _ hh h => h.of_heap hh) own started (by kernel_rfl) Tryd.func7
    (ChangeSpec.witness_shaped (enc := enc) (C := Tryd.checked) (os := os) (X := fun w _ => laidMetH Tryd.prog laid w) false (World.doorLaid Tryd.prog 400 os) #[.agg #[.int .i64 0, .int .i64 0, .int .i64 0, .int .i64 0]] 8 rfl (World.shaped_of_RefB (by kernel_rfl) (by kernel_rfl)) (by kernel_rfl) (by kernel_rfl) (by kernel_rfl) (door_met os _)) ?_
  intro W base args ds gs before hval0 hW _ _ hL _
  have hval : ∀ (j : Nat) t v, Tryd.f7.params[j]? = some t → args[j]? = some v → Value.okWide Tryd.prog W .any base t v := hval0
  have hW' := hW
  obtain ⟨p, q, hA0, hV0, rfl, hfz, hnd⟩ := hW
  have hA : DataW.TrodAll enc Tryd.prog W 0 (fun _ => true) true Tryd.f7.params.toList args.toList ds p := hA0
  have hV : DataW.TrodVars enc Tryd.prog W (fun _ => true) Rows.fnExactValOkSpec.vars gs q := hV0
  rw [Tryd.params7] at hA hval
  obtain ⟨v0, vs0, d0, ds0, p0, q0, hargs, rfl, rfl, h0, r0⟩ := trodAll_cons hA
  obtain ⟨rfl, rfl, rfl⟩ := trodAll_nil r0
  obtain rfl : args = #[v0] := by cases args; simp_all
  have k0 := h0
  have lt0 : ∀ x ∈ p0, x.block < W.heap.size := by obtain ⟨m, hm⟩ := k0; exact DataW.trod_lt m _ _ _ hm
  obtain ⟨x0, y0, m0, t0, rfl⟩ := arg_four (okWide_struct Tryd.underlying56 (hval 0 56 v0 rfl rfl)) h0
  have hL' := laid_of hL
  clear hA0 hval0
  refine (walk x0 y0 m0 t0 W  hL'.1 hL'.2).mono fun e W' ⟨he, bel⟩ => ?_
  subst he
  have kV := Below.trodVars laidOut bel (ns := Rows.fnExactValOkSpec.vars) (by kernel_rfl) hV
  have hlen : gs.length = 2 := vars_len hV
  match gs, hlen with
  | [g0, g1], _ =>
    exact ⟨_, rfl, _, _, _, [], _, _, hW', trodAll_mk1 (shut_bool Tryd.underlying4 _), (trodAll_cons_mk (Below.trod laidOut (by kernel_rfl) (of_decide_eq_true (by kernel_rfl)) k0 bel lt0) trodAll_mk0), kV, bel.frame _, fun h => by cases h⟩

theorem k0 : (Rows.fnExactValOkRow.wf (OpenSpec.ofChange Rows.fnExactValOkSpec)) = true := by kernel_rfl
theorem k3 : (Tryd.f7.params.all (Tryd.pinned.checked.prog.readableRec ·)) = true := by kernel_rfl
theorem k4 : (namedTie Tryd.pinned.checked.prog Rows.fnExactValOkRow.named Rows.fnExactValOkSpec.vars) = true := by kernel_rfl
theorem k5 : ((Rows.fnExactValOkRow.stops == [])) = true := by kernel_rfl
theorem k7 : ((Rows.fnExactValOkRow.knobs == [])) = true := by kernel_rfl
theorem k9 : ((Rows.fnExactValOkRow.inPlace == Tryd.pinned.checked.prog.inPlace 7)) = true := by kernel_rfl
theorem k10 : ((Rows.fnExactValOkRow.unfollowed == Tryd.pinned.checked.prog.unfollowed 7)) = true := by kernel_rfl
theorem k11 : ((Rows.fnExactValOkRow.recurses == Tryd.pinned.checked.prog.recurses 7)) = true := by kernel_rfl
theorem k12 : ((Rows.fnExactValOkRow.named == Tryd.pinned.checked.prog.varsNamed 7)) = true := by kernel_rfl
theorem k13 : ((Rows.fnExactValOkRow.maps == (Tryd.f7.params.toList ++ Rows.fnExactValOkSpec.plain.varTypes Tryd.pinned.checked.prog).any (Tryd.pinned.checked.prog.mapsRec ·))) = true := by kernel_rfl
theorem k14 : ((Rows.fnExactValOkRow.ifaces == (Tryd.f7.params.toList ++ Rows.fnExactValOkSpec.plain.varTypes Tryd.pinned.checked.prog).any (Tryd.pinned.checked.prog.ifacesRec ·))) = true := by kernel_rfl
theorem k15 : ((Rows.fnExactValOkRow.mapsOut == Tryd.pinned.checked.prog.mapsAmong Tryd.f7.resultTypes.toList)) = true := by kernel_rfl
theorem k16 : ((Rows.fnExactValOkRow.loops == (Tryd.f7.params.toList ++ Rows.fnExactValOkSpec.plain.varTypes Tryd.pinned.checked.prog).any (Tryd.pinned.checked.prog.loopsFrom ·))) = true := by kernel_rfl
theorem k17 : ((Rows.fnExactValOkRow.wideKeys == (Tryd.f7.params.toList ++ Rows.fnExactValOkSpec.plain.varTypes Tryd.pinned.checked.prog ++ Tryd.f7.resultTypes.toList).any (Tryd.pinned.checked.prog.wideKeysFrom ·))) = true := by kernel_rfl
theorem k18 : (Rows.fnExactValOkSpec.vars.all (Tryd.pinned.checked.prog.varReadable ·)) = true := by kernel_rfl
theorem k19 : (Tryd.f7.resultTypes.all (fun t => Tryd.pinned.checked.prog.readableRec t && decide (t < Tryd.pinned.checked.prog.types.size))) = true := by kernel_rfl
theorem k20 : ((Rows.fnExactValOkRow.ifacesOut == Tryd.f7.resultTypes.toList.any (Tryd.pinned.checked.prog.ifacesRec ·))) = true := by kernel_rfl
theorem k21 : ((Rows.fnExactValOkRow.loopsOut == Tryd.f7.resultTypes.toList.any (Tryd.pinned.checked.prog.loopsFrom ·))) = true := by kernel_rfl
theorem k22 : ((Rows.fnExactValOkRow.plainKeys == Tryd.pinned.checked.prog.plainKeys)) = true := by kernel_rfl
theorem k23 : (Rows.fnExactValOkRow.shortTexts.isNone) = true := by kernel_rfl
theorem k26 : ((Rows.fnExactValOkRow.lifted == Tryd.pinned.checked.prog.liftsFinal)) = true := by kernel_rfl
theorem k27 : ((Tryd.pinned.checked.prog.make == some Rows.fnExactValOkRow.make)) = true := by kernel_rfl
theorem k28 : ((Rows.fnExactValOkRow.kinds == (if Rows.fnExactValOkRow.domain.isEmpty then [] else Tryd.f7.params.toList.map fun t => match Tryd.pinned.checked.prog.underlying t with | some (.int k) => some k | _ => none))) = true := by kernel_rfl
theorem k29 : ((Rows.fnExactValOkRow.pinned == Rows.fnExactValOkRow.pinnedBy)) = true := by kernel_rfl
theorem k30 : ((Rows.fnExactValOkRow.veiled == (Tryd.f7.params.toList ++ Rows.fnExactValOkSpec.plain.varTypes Tryd.pinned.checked.prog ++ Tryd.f7.resultTypes.toList).any (Tryd.pinned.checked.prog.veiledRec ·))) = true := by kernel_rfl
theorem k31 : (Rows.fnExactValOkRow.veiledFits Tryd.pinned.checked.prog Tryd.f7.params.toList (Tryd.f7.params.toList ++ Rows.fnExactValOkSpec.plain.varTypes Tryd.pinned.checked.prog ++ Tryd.f7.resultTypes.toList)) = true := by kernel_rfl
set_option maxRecDepth 100000 in
set_option maxHeartbeats 4000000 in
theorem closed : joinedFacts Tryd.pinned.checked.prog 7 Tryd.f7 Rows.fnExactValOkSpec Rows.fnExactValOkRow = true := by
  unfold joinedFacts
  exact Go.Proofs.YthbbgkpkijlclaaDoor.num.and2 (Go.Proofs.YthbbgkpkijlclaaDoor.num.and2 (Go.Proofs.YthbbgkpkijlclaaDoor.num.and2 (Go.Proofs.YthbbgkpkijlclaaDoor.num.and2 (Go.Proofs.YthbbgkpkijlclaaDoor.num.and2 (Go.Proofs.YthbbgkpkijlclaaDoor.num.and2 (Go.Proofs.YthbbgkpkijlclaaDoor.num.and2 (Go.Proofs.YthbbgkpkijlclaaDoor.num.and2 (Go.Proofs.YthbbgkpkijlclaaDoor.num.and2 (Go.Proofs.YthbbgkpkijlclaaDoor.num.and2 (Go.Proofs.YthbbgkpkijlclaaDoor.num.and2 (Go.Proofs.YthbbgkpkijlclaaDoor.num.and2 (Go.Proofs.YthbbgkpkijlclaaDoor.num.and2 (Go.Proofs.YthbbgkpkijlclaaDoor.num.and2 (Go.Proofs.YthbbgkpkijlclaaDoor.num.and2 (Go.Proofs.YthbbgkpkijlclaaDoor.num.and2 (Go.Proofs.YthbbgkpkijlclaaDoor.num.and2 (Go.Proofs.YthbbgkpkijlclaaDoor.num.and2 (Go.Proofs.YthbbgkpkijlclaaDoor.num.and2 (Go.Proofs.YthbbgkpkijlclaaDoor.num.and2 (Go.Proofs.YthbbgkpkijlclaaDoor.num.and2 (Go.Proofs.YthbbgkpkijlclaaDoor.num.and2 (Go.Proofs.YthbbgkpkijlclaaDoor.num.and2 (Go.Proofs.YthbbgkpkijlclaaDoor.num.and2 (Go.Proofs.YthbbgkpkijlclaaDoor.num.and2 (Go.Proofs.YthbbgkpkijlclaaDoor.num.and2 (Go.Proofs.YthbbgkpkijlclaaDoor.num.and2 (Go.Proofs.YthbbgkpkijlclaaDoor.num.and2 (Go.Proofs.YthbbgkpkijlclaaDoor.num.and2 (Go.Proofs.YthbbgkpkijlclaaDoor.num.and2 (Go.Proofs.YthbbgkpkijlclaaDoor.num.and2 (k0) Go.Proofs.YthbbgkpkijlclaaDoor.num.kP1) Go.Proofs.YthbbgkpkijlclaaDoor.num.kP2) k3) k4) k5) Go.Proofs.YthbbgkpkijlclaaDoor.num.kP6) k7) Go.Proofs.YthbbgkpkijlclaaDoor.num.kP8) k9) k10) k11) k12) k13) k14) k15) k16) k17) k18) k19) k20) k21) k22) k23) Go.Proofs.YthbbgkpkijlclaaDoor.num.kP24) Go.Proofs.YthbbgkpkijlclaaDoor.num.kP25) k26) k27) k28) k29) k30) k31
theorem wfT : Rows.fnExactValOkRow.wfByText (OpenSpec.ofChange Rows.fnExactValOkSpec) = true := by kernel_rfl
theorem goesT : false = Rows.fnExactValOkRow.goesBy Tryd.pinned.checked.prog := by kernel_rfl
theorem mainT : Tryd.pinned.checked.prog.mainIs = some (Rows.fnExactValOkCard.stood.harness.1, Rows.fnExactValOkCard.stood.harness.2.toList) := by kernel_rfl
theorem over : Rows.FnExactValOkSaid :=
  OpenClaim.holds_of_wide 7 Tryd.f7 rfl rfl rfl rfl rfl rfl rfl ⟨rfl, rfl, rfl, rfl, rfl⟩ rfl rfl rfl rfl rfl (by kernel_rfl) Tryd.func7 closed
    (of_decide_eq_true (by kernel_rfl)) (by unfold Func.isWrapper; first | (rw [if_pos (by decide +kernel)]; kernel_rfl) | (rw [if_neg (by decide +kernel)]; exact ⟨rfl, rfl⟩))
    (fun os started H enc _ => lifted os started H enc)
end Go.Proofs.YthbbgkpkijlclaaDoor.fnExactValOk
namespace Go.Proofs.YthbbgkpkijlclaaDoor
open Go
/-- THE STATEMENT: the tied card. -/
theorem fnExactValOk_holds : Rows.FnExactValOkCardSaid :=
  Claim7.holds_tied_plain_at .later [] [.data, .data] true Rows.fnExactValOkCard.stood.harness true
    fnExactValOk.over (fun _ h => by cases h) fnExactValOk.wfT (fun _ h => by cases h) fnExactValOk_row_tie rfl ⟨rfl, rfl⟩ fnExactValOk.mainT rfl
    (fun f fn hf hfn => by
      obtain rfl : f = 7 := Option.some.inj ((show Tryd.prog.funcNamed Rows.fnExactValOkRow.func = some 7 by kernel_rfl).symm.trans hf) |>.symm
      obtain rfl : fn = Tryd.f7 := (Option.some.inj (Tryd.func7.symm.trans hfn)).symm
      exact ⟨Go.Proofs.YthbbgkpkijlclaaDoor.num.looksT, fun j t ht => by
        rw [Tryd.params7] at ht
        have hm : t ∈ [56] := by simpa using Array.mem_of_getElem? ht
        have hall : ([56].all fun u => !Tryd.prog.wantsStandIn u) = true := by kernel_rfl
        exact (show Tryd.prog.wantsStandIn t = false by simpa using List.all_eq_true.1 hall t hm)⟩)
    fnExactValOk.goesT
#print axioms fnExactValOk_holds
end Go.Proofs.YthbbgkpkijlclaaDoor
