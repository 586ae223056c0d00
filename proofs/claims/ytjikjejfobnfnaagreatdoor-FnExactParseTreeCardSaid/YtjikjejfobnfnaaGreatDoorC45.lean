/-
  The tables and the handle that the program's text lays: what a card's condition gives a walk.
-/
import Derived.Test.YtjikjejfobnfnaaGreatDoorC44
import Derived.WalkKit
import Derived.WalkLawsBesides
import Derived.ProofKit
import Derived.OpenShut
import Derived.OpenVars
import Derived.LaidMore
import Derived.Lib.LaidTab
import Derived.Stop.Joined
import Derived.Stop.LaidErr
import Derived.LaidHandle
namespace Go.Proofs.YtjikjejfobnfnaaGreatDoor.imp
open Go.ChangeShapes Go.WideShapes Go.ChangeAt Go.RowKit Go.Proofs.YtjikjejfobnfnaaGreatDoor.num Go.Proofs.YtjikjejfobnfnaaGreatDoor.lex Go.Proofs.YtjikjejfobnfnaaGreatDoor.par
set_option linter.unusedVariables false
theorem own : ownKnob Tryz.prog.godebug = none := by kernel_rfl
theorem laidOut : laidOutB Tryz.prog = true := by kernel_rfl
theorem cells9 : Tryz.prog.cellsOf 9 = 1 := by kernel_rfl
theorem cells3 : Tryz.prog.cellsOf 3 = 1 := by kernel_rfl
theorem cells205 : Tryz.prog.cellsOf 205 = 2 := by kernel_rfl
theorem cellsCmp : Tryz.prog.cellsOf 192 = 7 := by kernel_rfl
theorem cellsOps : Tryz.prog.cellsOf 206 = 28 := by kernel_rfl
theorem cellsSg : Tryz.prog.cellsOf 227 = 30 := by kernel_rfl
/-- An array of strings that reads as a list of texts holds these texts, cell for cell. -/
theorem cells_of_texts {H : Type} {enc : TypeId × Value → H} {P : Program} {w : World} {base : Nat} {sp : Nat → Bool} {held : Bool} {fuel : Nat} {t e : TypeId} {n : Nat} {cs : List Value} {zs : List (List UInt8)} {p : List MemPlace}
    (ht : P.underlying t = some (.array n e)) (he : P.underlying e = some .string) (hce : P.cellsOf e = 1) (hct : P.cellsOf t = n)
    (h : DataW.trod enc P w base sp held fuel t cs = some (.agg (zs.map fun z => .lit (.string z)), p)) : cs = zs.map fun z => Value.string ⟨z.toArray⟩ := by
  cases fuel with
  | zero => simp [DataW.trod] at h
  | succ fuel =>
    simp only [DataW.trod, ht, hce, hct, Nat.mul_one] at h
    split at h
    · rename_i hl
      obtain ⟨xs, hm, hx⟩ := Option.map_eq_some_iff.1 h
      have hxs : xs.map (·.1) = zs.map fun z => (DataW.lit (.string z) : DataW H) := by
        have := congrArg Prod.fst hx
        simpa using this
      have hxl : xs.length = n := by simpa using Lib.mapM_length hm
      have hzl : zs.length = n := by
        have := congrArg List.length hxs
        simp at this
        omega
      apply List.ext_getElem?
      intro i
      by_cases hi : i < n
      · obtain ⟨b, hb, hf⟩ := Lib.mapM_at hm i i (by simp [hi])
        obtain ⟨z, hc, rfl, _⟩ := DataW.trod_string he hf
        have h1 : cs[i]? = some (.string z) := by
          have := congrArg (·[0]?) hc
          simpa [List.getElem?_take, List.getElem?_drop] using this
        have h2 : (xs.map (·.1))[i]? = some (DataW.lit (.string z.data.toList) : DataW H) := by simp [hb]
        rw [hxs] at h2
        simp only [List.getElem?_map, Option.map_eq_some_iff, DataW.lit.injEq, Lit.string.injEq] at h2
        obtain ⟨z', hz', e⟩ := h2
        simp [h1, hz', e]
      · rw [List.getElem?_eq_none (by omega), List.getElem?_eq_none (by simp; omega)]
    · cases h


theorem fields205 : ∃ f0 f1 : Field, Tryz.prog.underlying 205 = some (.struct #[f0, f1]) ∧ f0.offset = 0 ∧ f1.offset = 1 ∧ f0.type = 9 ∧ f1.type = 3 := ⟨_, _, Tryz.underlying205, rfl, rfl, rfl, rfl⟩
/-- An array of pairs that reads as a list of texts with numbers holds these, cell for cell. -/
theorem cells_of_pairs {H : Type} {enc : TypeId × Value → H} {w : World} {base : Nat} {sp : Nat → Bool} {held : Bool} {fuel : Nat} {cs : List Value} {zs : List (List UInt8 × Int)} {p : List MemPlace}
    (h : DataW.trod enc Tryz.prog w base sp held fuel 206 cs = some (.agg (zs.map fun z => .agg [.lit (.string z.1), .lit (.int .i64 z.2)]), p)) : cs = zs.flatMap fun z => [Value.string ⟨z.1.toArray⟩, .int .i64 z.2] := by
  cases fuel with
  | zero => simp [DataW.trod] at h
  | succ fuel =>
    simp only [DataW.trod, Tryz.underlying206, cells205, cellsOps] at h
    split at h
    · rename_i hl
      obtain ⟨xs, hm, hx⟩ := Option.map_eq_some_iff.1 h
      have hxs : xs.map (·.1) = zs.map fun z => (DataW.agg [.lit (.string z.1), .lit (.int .i64 z.2)] : DataW H) := by
        have := congrArg Prod.fst hx
        simpa using this
      have hxl : xs.length = 14 := by simpa using Lib.mapM_length hm
      have hzl : zs.length = 14 := by
        have := congrArg List.length hxs
        simp at this
        omega
      have each : ∀ j z, zs[j]? = some z → cs[j * 2]? = some (.string ⟨z.1.toArray⟩) ∧ cs[j * 2 + 1]? = some (.int .i64 z.2) := by
        intro j z hz
        have hj : j < 14 := by have := (List.getElem?_eq_some_iff.1 hz).1; omega
        obtain ⟨b, hb, hf⟩ := Lib.mapM_at hm j j (by simp [hj])
        have hb2 : (xs.map (·.1))[j]? = some b.1 := by simp [hb]
        rw [hxs, List.getElem?_map, hz] at hb2
        have hb3 : b.1 = (DataW.agg [.lit (.string z.1), .lit (.int .i64 z.2)] : DataW H) := (Option.some.inj hb2).symm
        obtain ⟨f0, f1, hs, o0, o1, t0, t1⟩ := fields205
        obtain ⟨ys, k, hk, hxy, _, hyl, hfl⟩ := DataW.trod_struct hs hf
        match ys, hyl with
        | [y0, y1], _ =>
          have g0 := hfl 0 f0 rfl
          have g1 := hfl 1 f1 rfl
          simp only [o0, o1, t0, t1, cells3, cells9] at g0 g1
          obtain ⟨s, q0, e0, _⟩ := DataW.trod_string Tryz.underlying9 g0
          obtain ⟨n, q1, e1, _⟩ := DataW.trod_int Tryz.underlying3 g1
          subst e0 e1
          rw [hxy] at hb3
          simp at hb3
          obtain ⟨hb4, hb5⟩ := hb3
          subst hb5
          have r0 := congrArg (·[0]?) q0
          have r1 := congrArg (·[0]?) q1
          simp [List.getElem?_drop] at r0 r1
          refine ⟨?_, ?_⟩
          · rw [← hb4]
            simpa using r0
          · simpa using r1
      apply List.ext_getElem?
      intro i
      by_cases hi : i < 28
      · obtain ⟨z, hz⟩ : ∃ z, zs[i / 2]? = some z := ⟨_, List.getElem?_eq_getElem (by omega)⟩
        have hfl := rws.flat_get (k := 2) (css := zs.map fun z => [Value.string ⟨z.1.toArray⟩, .int .i64 z.2]) (fun c hc => by obtain ⟨s, _, rfl⟩ := List.mem_map.1 hc; rfl) (j := i / 2) (i := i % 2) (c := [Value.string ⟨z.1.toArray⟩, .int .i64 z.2]) (by rw [List.getElem?_map, hz]; rfl) (by omega)
        rw [List.flatMap_def, show i = i / 2 * 2 + i % 2 by omega, hfl]
        obtain ⟨a, b⟩ := each (i / 2) z hz
        rcases (show i % 2 = 0 ∨ i % 2 = 1 by omega) with e | e
        · rw [e]; exact a
        · rw [e]; exact b
      · rw [List.getElem?_eq_none (by omega), List.getElem?_eq_none (by rw [List.flatMap_def, rws.flat_len (k := 2) (fun c hc => by obtain ⟨s, _, rfl⟩ := List.mem_map.1 hc; rfl)]; simp; omega)]
    · cases h
theorem laid_block {W : World} {n : String} {cs : Array Value} {g : Nat} (hg : Tryz.prog.globalNamed n = some g) (h : W.var? Tryz.prog n = some cs) : ∃ t fr, W.heap[g]? = some (.cells cs t fr) := by
  unfold World.var? at h
  rw [hg] at h
  simp only [Option.bind_some] at h
  split at h
  · rename_i t fr hh
    cases h
    exact ⟨_, _, hh⟩
  · cases h
/-- What a row lays, by name. -/
abbrev laidOf (l : List (String × DataW Unit)) (k : Nat) : String := (l.getD k ("", .nil)).1
abbrev laidT : List (String × DataW Unit) := Rows.fnExactParseTreeRow.laid
theorem gErr : Tryz.prog.globalNamed (laidOf laidT 0) = some 0 := by kernel_rfl
theorem gSg : Tryz.prog.globalNamed (laidOf laidT 1) = some 3 := by kernel_rfl
theorem gOps : Tryz.prog.globalNamed (laidOf laidT 2) = some 2 := by kernel_rfl
theorem gCmp : Tryz.prog.globalNamed (laidOf laidT 3) = some 1 := by kernel_rfl
theorem tSg : (Tryz.prog.globals[3]?).map (·.type) = some 227 := by kernel_rfl
theorem tOps : (Tryz.prog.globals[2]?).map (·.type) = some 206 := by kernel_rfl
theorem tCmp : (Tryz.prog.globals[1]?).map (·.type) = some 192 := by kernel_rfl
theorem rtT : (Tryz.prog.cutTypes.find? (·.1 == "internal/reflectlite.rtype")).map (·.2) = some 174 := by kernel_rfl
theorem nTypes : Tryz.prog.types.size = 286 := by kernel_rfl
theorem oneRow : ((List.range 286).filter fun t => Tryz.prog.rowNamed t [101, 114, 114, 111, 114]) = [48] := by kernel_rfl
/-- What the condition gives a walk. -/
theorem tabs_of_parts {W : World} (h1 : laidMet Tryz.prog (laidT.drop 1) W) (h2 : handlesMet Tryz.prog (laidT.take 1) W) : Tabs W := by
  refine ⟨?_, ⟨?_, ?_⟩, ?_⟩
  · obtain ⟨ps, ⟨g', t', cs, fuel, p, q, hg', ht', hvar, hd, _, _⟩, _⟩ := h1
    obtain rfl := Option.some.inj (gSg.symm.trans hg')
    obtain rfl := Option.some.inj (tSg.symm.trans ht')
    have e : cs.toList = signs.map fun z => Value.string ⟨z.toArray⟩ := cells_of_texts (H := Unit) Tryz.underlying227 Tryz.underlying9 cells9 cellsSg hd
    have e2 : cs = sgCells := Array.toList_inj.1 (by rw [e]; rfl)
    subst e2
    exact laid_block gSg hvar
  · obtain ⟨ps, ⟨g', t', cs, fuel, p, q, hg', ht', hvar, hd, _, _⟩, _⟩ := h1.tail
    obtain rfl := Option.some.inj (gOps.symm.trans hg')
    obtain rfl := Option.some.inj (tOps.symm.trans ht')
    have e := cells_of_pairs (H := Unit) (zs := opRows.map fun r => (r.1.data.toList, r.2)) hd
    have e2 : cs = opCells := Array.toList_inj.1 (by rw [e]; rfl)
    subst e2
    exact laid_block gOps hvar
  · obtain ⟨ps, ⟨g', t', cs, fuel, p, q, hg', ht', hvar, hd, _, _⟩, _⟩ := h1.tail.tail
    obtain rfl := Option.some.inj (gCmp.symm.trans hg')
    obtain rfl := Option.some.inj (tCmp.symm.trans ht')
    have e : cs.toList = (cmpRows.map fun z => z.data.toList).map fun z => Value.string ⟨z.toArray⟩ := cells_of_texts (H := Unit) Tryz.underlying192 Tryz.underlying9 cells9 cellsCmp hd
    have e2 : cs = cmpCells := Array.toList_inj.1 (by rw [e]; rfl)
    subst e2
    exact laid_block gCmp hvar
  · obtain ⟨name, u, ty, e1, e2, e3, e4, e5⟩ := h2 _ (List.mem_singleton.2 rfl)
    have en : name = [101, 114, 114, 111, 114] := (Option.some.inj e1).symm
    subst en
    obtain rfl := Option.some.inj (rtT.symm.trans e2)
    have hm : ty ∈ (List.range 286).filter fun t => Tryz.prog.rowNamed t [101, 114, 114, 111, 114] := List.mem_filter.2 ⟨List.mem_range.2 (by rw [← nTypes]; exact e3), e4⟩
    rw [oneRow] at hm
    obtain rfl := List.mem_singleton.1 hm
    have hh : typeHandle Tryz.prog 48 = .pointer (some ⟨8, 48, none⟩) := by kernel_rfl
    rw [hh] at e5
    unfold errC
    simpa using World.var?_cell gErr e5 0
theorem tabs_of {W : World} (h : laidMetH Tryz.prog laidT W) : Tabs W := by
  have h' : laidMet Tryz.prog (laidT.drop 1) W ∧ handlesMet Tryz.prog (laidT.take 1) W := h
  exact tabs_of_parts h'.1 h'.2
end Go.Proofs.YtjikjejfobnfnaaGreatDoor.imp
