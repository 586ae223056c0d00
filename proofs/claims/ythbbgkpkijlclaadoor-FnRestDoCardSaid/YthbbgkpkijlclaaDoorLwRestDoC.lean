/-
  For every code the law FnRestDo returns true and writes nothing that was there; its package variables as the program's text lays them.
-/
import Derived.Test.YthbbgkpkijlclaaDoorLwRestDoW
import Derived.Test.YthbbgkpkijlclaaDoorKc
import Derived.Test.YthbbgkpkijlclaaDoorTie
import Derived.Test.YthbbgkpkijlclaaDoorCards
namespace Go.Proofs.YthbbgkpkijlclaaDoor.fnRestDo
open Go.ChangeShapes Go.WideShapes Go.ChangeAt Go.RowKit Go.Proofs.YthbbgkpkijlclaaDoor.num
set_option linter.unusedVariables false

set_option maxRecDepth 100000 in
theorem lifted (os : Os) (started : os.Started) (H : Type) (enc : TypeId × Value → H) :
    ReturnsInHanded {} Tryd.checked os 20 .any (fun w args => (Rows.fnRestDoSpec.pre enc Tryd.prog Tryd.f20 [] false w args ∧ laidMetH Tryd.prog laid w) ∧ sizedMet enc Tryd.prog Tryd.f20 (OpenSpec.ofChange Rows.fnRestDoSpec) false w args)
      (Rows.fnRestDoSpec.post enc Tryd.prog Tryd.f20 false true false false) := by
  refine returnsInHanded_of_change_and (C := Tryd.checked) (X := fun w _ => laidMetH Tryd.prog laid w) (fun _ _ _ hh h => h.of_heap hh) own started (by kernel_rfl) Tryd.func20
    (ChangeSpec.witness_shaped (enc := enc) (C := Tryd.checked) (os := os) (X := fun w _ => laidMetH Tryd.prog laid w) false (World.doorLaid Tryd.prog 400 os) #[.slice none 0 0] 8 rfl (World.shaped_of_RefB (by kernel_rfl) (by kernel_rfl)) (by kernel_rfl) (by kernel_rfl) (by kernel_rfl) (door_met os _)) ?_
  intro W base args ds gs before hval0 hW _ _ hL _
  have hval : ∀ (j : Nat) t v, Tryd.f20.params[j]? = some t → args[j]? = some v → Value.okWide Tryd.prog W .any base t v := hval0
  have hW' := hW
  obtain ⟨p, q, hA0, hV0, rfl, hfz, hnd⟩ := hW
  have hA : DataW.TrodAll enc Tryd.prog W 0 (fun _ => true) true Tryd.f20.params.toList args.toList ds p := hA0
  have hV : DataW.TrodVars enc Tryd.prog W (fun _ => true) Rows.fnRestDoSpec.vars gs q := hV0
  rw [Tryd.params20] at hA hval
  obtain ⟨v0, vs0, d0, ds0, p0, q0, hargs, rfl, rfl, h0, r0⟩ := trodAll_cons hA
  obtain ⟨rfl, rfl, rfl⟩ := trodAll_nil r0
  obtain rfl : args = #[v0] := by cases args; simp_all
  have k0 := h0
  have lt0 : ∀ x ∈ p0, x.block < W.heap.size := by obtain ⟨m, hm⟩ := k0; exact DataW.trod_lt m _ _ _ hm
  obtain ⟨a0, len0, cap0, rfl⟩ := okWide_slice Tryd.underlying22 (hval 0 22 v0 rfl rfl)
  obtain ⟨z0, w0⟩ : ∃ zs, IsRow .u8 W a0 len0 cap0 zs := by
    obtain ⟨fuel, hf⟩ := h0
    rcases open_ints Tryd.underlying22 Tryd.underlying5 (by kernel_rfl) hf with ⟨hcs, _⟩ | ⟨x, l, c, zs, hcs, _, hl, hm, hz, _, hcell, hwz⟩
    · simp [Value.cells] at hcs
      obtain ⟨rfl, rfl, rfl⟩ := hcs
      exact ⟨[], .inl ⟨rfl, rfl, rfl, rfl⟩⟩
    · simp [Value.cells] at hcs
      obtain ⟨rfl, rfl, rfl⟩ := hcs
      exact ⟨zs, .inr ⟨_, rfl, hl, hm, by simpa using hz, hcell, hwz⟩⟩
  have hL' := laid_of hL
  clear hA0 hval0
  refine (walk a0 len0 cap0 z0 W w0 hL'.1 hL'.2).mono fun e W' ⟨he, bel⟩ => ?_
  subst he
  have kV := Below.trodVars laidOut bel (ns := Rows.fnRestDoSpec.vars) (by kernel_rfl) hV
  have hlen : gs.length = 2 := vars_len hV
  match gs, hlen with
  | [g0, g1], _ =>
    exact ⟨_, rfl, _, _, _, [], _, _, hW', trodAll_mk1 (shut_bool Tryd.underlying4 _), (trodAll_cons_mk (Below.trod laidOut (by kernel_rfl) (of_decide_eq_true (by kernel_rfl)) k0 bel lt0) trodAll_mk0), kV, bel.frame _, fun h => by cases h⟩

theorem k0 : (Rows.fnRestDoRow.wf (OpenSpec.ofChange Rows.fnRestDoSpec)) = true := by kernel_rfl
theorem k3 : (Tryd.f20.params.all (Tryd.pinned.checked.prog.readableRec ·)) = true := by kernel_rfl
theorem k4 : (namedTie Tryd.pinned.checked.prog Rows.fnRestDoRow.named Rows.fnRestDoSpec.vars) = true := by kernel_rfl
theorem k5 : ((Rows.fnRestDoRow.stops == [])) = true := by kernel_rfl
theorem k7 : ((Rows.fnRestDoRow.knobs == [])) = true := by kernel_rfl
theorem k9 : ((Rows.fnRestDoRow.inPlace == Tryd.pinned.checked.prog.inPlace 20)) = true := by kernel_rfl
theorem k10 : ((Rows.fnRestDoRow.unfollowed == Tryd.pinned.checked.prog.unfollowed 20)) = true := by kernel_rfl
theorem k11 : ((Rows.fnRestDoRow.recurses == Tryd.pinned.checked.prog.recurses 20)) = true := by kernel_rfl
theorem k12 : ((Rows.fnRestDoRow.named == Tryd.pinned.checked.prog.varsNamed 20)) = true := by kernel_rfl
theorem k13 : ((Rows.fnRestDoRow.maps == (Tryd.f20.params.toList ++ Rows.fnRestDoSpec.plain.varTypes Tryd.pinned.checked.prog).any (Tryd.pinned.checked.prog.mapsRec ·))) = true := by kernel_rfl
theorem k14 : ((Rows.fnRestDoRow.ifaces == (Tryd.f20.params.toList ++ Rows.fnRestDoSpec.plain.varTypes Tryd.pinned.checked.prog).any (Tryd.pinned.checked.prog.ifacesRec ·))) = true := by kernel_rfl
theorem k15 : ((Rows.fnRestDoRow.mapsOut == Tryd.pinned.checked.prog.mapsAmong Tryd.f20.resultTypes.toList)) = true := by kernel_rfl
theorem k16 : ((Rows.fnRestDoRow.loops == (Tryd.f20.params.toList ++ Rows.fnRestDoSpec.plain.varTypes Tryd.pinned.checked.prog).any (Tryd.pinned.checked.prog.loopsFrom ·))) = true := by kernel_rfl
theorem k17 : ((Rows.fnRestDoRow.wideKeys == (Tryd.f20.params.toList ++ Rows.fnRestDoSpec.plain.varTypes Tryd.pinned.checked.prog ++ Tryd.f20.resultTypes.toList).any (Tryd.pinned.checked.prog.wideKeysFrom ·))) = true := by kernel_rfl
theorem k18 : (Rows.fnRestDoSpec.vars.all (Tryd.pinned.checked.prog.varReadable ·)) = true := by kernel_rfl
theorem k19 : (Tryd.f20.resultTypes.all (fun t => Tryd.pinned.checked.prog.readableRec t && decide (t < Tryd.pinned.checked.prog.types.size))) = true := by kernel_rfl
theorem k20 : ((Rows.fnRestDoRow.ifacesOut == Tryd.f20.resultTypes.toList.any (Tryd.pinned.checked.prog.ifacesRec ·))) = true := by kernel_rfl
theorem k21 : ((Rows.fnRestDoRow.loopsOut == Tryd.f20.resultTypes.toList.any (Tryd.pinned.checked.prog.loopsFrom ·))) = true := by kernel_rfl
theorem k22 : ((Rows.fnRestDoRow.plainKeys == Tryd.pinned.checked.prog.plainKeys)) = true := by kernel_rfl
theorem k23 : (Rows.fnRestDoRow.shortTexts.isNone) = true := by kernel_rfl
theorem k26 : ((Rows.fnRestDoRow.lifted == Tryd.pinned.checked.prog.liftsFinal)) = true := by kernel_rfl
theorem k27 : ((Tryd.pinned.checked.prog.make == some Rows.fnRestDoRow.make)) = true := by kernel_rfl
theorem k28 : ((Rows.fnRestDoRow.kinds == (if Rows.fnRestDoRow.domain.isEmpty then [] else Tryd.f20.params.toList.map fun t => match Tryd.pinned.checked.prog.underlying t with | some (.int k) => some k | _ => none))) = true := by kernel_rfl
theorem k29 : ((Rows.fnRestDoRow.pinned == Rows.fnRestDoRow.pinnedBy)) = true := by kernel_rfl
theorem k30 : ((Rows.fnRestDoRow.veiled == (Tryd.f20.params.toList ++ Rows.fnRestDoSpec.plain.varTypes Tryd.pinned.checked.prog ++ Tryd.f20.resultTypes.toList).any (Tryd.pinned.checked.prog.veiledRec ·))) = true := by kernel_rfl
theorem k31 : (Rows.fnRestDoRow.veiledFits Tryd.pinned.checked.prog Tryd.f20.params.toList (Tryd.f20.params.toList ++ Rows.fnRestDoSpec.plain.varTypes Tryd.pinned.checked.prog ++ Tryd.f20.resultTypes.toList)) = true := by kernel_rfl
set_option maxRecDepth 100000 in
set_option maxHeartbeats 4000000 in
theorem closed : joinedFacts Tryd.pinned.checked.prog 20 Tryd.f20 Rows.fnRestDoSpec Rows.fnRestDoRow = true := by
  unfold joinedFacts
  exact Go.Proofs.YthbbgkpkijlclaaDoor.num.and2 (Go.Proofs.YthbbgkpkijlclaaDoor.num.and2 (Go.Proofs.YthbbgkpkijlclaaDoor.num.and2 (Go.Proofs.YthbbgkpkijlclaaDoor.num.and2 (Go.Proofs.YthbbgkpkijlclaaDoor.num.and2 (Go.Proofs.YthbbgkpkijlclaaDoor.num.and2 (Go.Proofs.YthbbgkpkijlclaaDoor.num.and2 (Go.Proofs.YthbbgkpkijlclaaDoor.num.and2 (Go.Proofs.YthbbgkpkijlclaaDoor.num.and2 (Go.Proofs.YthbbgkpkijlclaaDoor.num.and2 (Go.Proofs.YthbbgkpkijlclaaDoor.num.and2 (Go.Proofs.YthbbgkpkijlclaaDoor.num.and2 (Go.Proofs.YthbbgkpkijlclaaDoor.num.and2 (Go.Proofs.YthbbgkpkijlclaaDoor.num.and2 (Go.Proofs.YthbbgkpkijlclaaDoor.num.and2 (Go.Proofs.YthbbgkpkijlclaaDoor.num.and2 (Go.Proofs.YthbbgkpkijlclaaDoor.num.and2 (Go.Proofs.YthbbgkpkijlclaaDoor.num.and2 (Go.Proofs.YthbbgkpkijlclaaDoor.num.and2 (Go.Proofs.YthbbgkpkijlclaaDoor.num.and2 (Go.Proofs.YthbbgkpkijlclaaDoor.num.and2 (Go.Proofs.YthbbgkpkijlclaaDoor.num.and2 (Go.Proofs.YthbbgkpkijlclaaDoor.num.and2 (Go.Proofs.YthbbgkpkijlclaaDoor.num.and2 (Go.Proofs.YthbbgkpkijlclaaDoor.num.and2 (Go.Proofs.YthbbgkpkijlclaaDoor.num.and2 (Go.Proofs.YthbbgkpkijlclaaDoor.num.and2 (Go.Proofs.YthbbgkpkijlclaaDoor.num.and2 (Go.Proofs.YthbbgkpkijlclaaDoor.num.and2 (Go.Proofs.YthbbgkpkijlclaaDoor.num.and2 (Go.Proofs.YthbbgkpkijlclaaDoor.num.and2 (k0) Go.Proofs.YthbbgkpkijlclaaDoor.num.kP1) Go.Proofs.YthbbgkpkijlclaaDoor.num.kP2) k3) k4) k5) Go.Proofs.YthbbgkpkijlclaaDoor.num.kP6) k7) Go.Proofs.YthbbgkpkijlclaaDoor.num.kP8) k9) k10) k11) k12) k13) k14) k15) k16) k17) k18) k19) k20) k21) k22) k23) Go.Proofs.YthbbgkpkijlclaaDoor.num.kP24) Go.Proofs.YthbbgkpkijlclaaDoor.num.kP25) k26) k27) k28) k29) k30) k31
theorem wfT : Rows.fnRestDoRow.wfByText (OpenSpec.ofChange Rows.fnRestDoSpec) = true := by kernel_rfl
theorem goesT : false = Rows.fnRestDoRow.goesBy Tryd.pinned.checked.prog := by kernel_rfl
theorem mainT : Tryd.pinned.checked.prog.mainIs = some (Rows.fnRestDoCard.stood.harness.1, Rows.fnRestDoCard.stood.harness.2.toList) := by kernel_rfl
theorem over : Rows.FnRestDoSaid :=
  OpenClaim.holds_of_wide 20 Tryd.f20 rfl rfl rfl rfl rfl rfl rfl ⟨rfl, rfl, rfl, rfl, rfl⟩ rfl rfl rfl rfl rfl (by kernel_rfl) Tryd.func20 closed
    (of_decide_eq_true (by kernel_rfl)) (by unfold Func.isWrapper; first | (rw [if_pos (by decide +kernel)]; kernel_rfl) | (rw [if_neg (by decide +kernel)]; exact ⟨rfl, rfl⟩))
    (fun os started H enc _ => lifted os started H enc)
end Go.Proofs.YthbbgkpkijlclaaDoor.fnRestDo
namespace Go.Proofs.YthbbgkpkijlclaaDoor
open Go
/-- THE STATEMENT: the tied card. -/
theorem fnRestDo_holds : Rows.FnRestDoCardSaid :=
  Claim7.holds_tied_plain_at .later [] [.wider, .data] true Rows.fnRestDoCard.stood.harness true
    fnRestDo.over (fun _ h => by cases h) fnRestDo.wfT (fun _ h => by cases h) fnRestDo_row_tie rfl ⟨rfl, rfl⟩ fnRestDo.mainT rfl
    (fun f fn hf hfn => by
      obtain rfl : f = 20 := Option.some.inj ((show Tryd.prog.funcNamed Rows.fnRestDoRow.func = some 20 by kernel_rfl).symm.trans hf) |>.symm
      obtain rfl : fn = Tryd.f20 := (Option.some.inj (Tryd.func20.symm.trans hfn)).symm
      exact ⟨Go.Proofs.YthbbgkpkijlclaaDoor.num.looksT, fun j t ht => by
        rw [Tryd.params20] at ht
        have hm : t ∈ [22] := by simpa using Array.mem_of_getElem? ht
        have hall : ([22].all fun u => !Tryd.prog.wantsStandIn u) = true := by kernel_rfl
        exact (show Tryd.prog.wantsStandIn t = false by simpa using List.all_eq_true.1 hall t hm)⟩)
    fnRestDo.goesT
#print axioms fnRestDo_holds
end Go.Proofs.YthbbgkpkijlclaaDoor
