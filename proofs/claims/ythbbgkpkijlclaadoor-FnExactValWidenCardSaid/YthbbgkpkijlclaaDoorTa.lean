/-
  The ranges that the program keeps in package variables: what the listed variables give a walk; arguments that are structs of two ints.
-/
import Derived.Test.YthbbgkpkijlclaaDoorSe
import Derived.WalkLawsBesides
import Derived.ProofKit
import Derived.OpenShut
import Derived.OpenVars
import Derived.LaidMore
import Derived.Lib.LaidTab
import Derived.Stop.Joined
namespace Go.Proofs.YthbbgkpkijlclaaDoor.num
open Go.ChangeShapes Go.WideShapes Go.ChangeAt Go.RowKit
set_option linter.unusedVariables false

theorem own : ownKnob Tryd.prog.godebug = none := by kernel_rfl
theorem laidOut : laidOutB Tryd.prog = true := by kernel_rfl
/-- The variable g holds the range a. -/
def Gv (W : World) (g : Nat) (a : R8) : Prop := g < W.heap.size ∧ W.cell? ⟨g, 0, none⟩ = some (.int .i64 a.1) ∧ W.cell? ⟨g, 1, none⟩ = some (.int .i64 a.2)
theorem Gv.below {W W' : World} {g : Nat} {a : R8} (h : Gv W g a) (hb : Below W.heap.size W W') : Gv W' g a :=
  ⟨Nat.lt_of_lt_of_le h.1 hb.size, by rw [hb.cell (p := ⟨g, 0, none⟩) h.1]; exact h.2.1, by rw [hb.cell (p := ⟨g, 1, none⟩) h.1]; exact h.2.2⟩
theorem Gv.over {W : World} {g : Nat} {a : R8} (h : Gv W g a) (p : Over W) : Gv p.w g a := h.below p.below
theorem cellsR : Tryd.prog.cellsOf 24 = 2 := by kernel_rfl
theorem cellsLR : Tryd.prog.cellsOf 51 = 2 := by kernel_rfl
theorem cellsI : Tryd.prog.cellsOf 3 = 1 := by kernel_rfl
theorem two_of_trod {H : Type} {enc : TypeId × Value → H} {w : World} {base : Nat} {sp : Nat → Bool} {held : Bool} {fuel : Nat} {t : TypeId} {f0 f1 : Field} {cs : List Value} {x : DataW H × List MemPlace}
    (ht : Tryd.prog.underlying t = some (.struct #[f0, f1])) (h0 : f0.type = 3) (h1 : f1.type = 3) (o0 : f0.offset = 0) (o1 : f1.offset = 1) (hc : Tryd.prog.cellsOf t = 2)
    (h : DataW.trod enc Tryd.prog w base sp held fuel t cs = some x) : ∃ a b, cs = [.int .i64 a, .int .i64 b] ∧ x = (.agg [.lit (.int .i64 a), .lit (.int .i64 b)], []) ∧ (Lit.int .i64 a).wf = true ∧ (Lit.int .i64 b).wf = true := by
  obtain ⟨y0, y1, n, rfl, hl, hx, hy⟩ := trod_struct2 ht h
  rw [h0, o0, cellsI] at hx
  rw [h1, o1, cellsI] at hy
  rw [hc] at hl
  obtain ⟨a, ha, rfl, wa⟩ := DataW.trod_int Tryd.underlying3 hx
  obtain ⟨b, hb, rfl, wb⟩ := DataW.trod_int Tryd.underlying3 hy
  match cs, hl with
  | [p, q], _ =>
    simp at ha hb
    subst ha; subst hb
    exact ⟨a, b, rfl, by simp, wa, wb⟩
theorem gv_of_head {W : World} {name : String} {x y : Int} {rest : List (String × DataW Unit)} {g : Nat} (hg : Tryd.prog.globalNamed name = some g) (hty : (Tryd.prog.globals[g]?).map (·.type) = some 24)
    (h : laidMet Tryd.prog ((name, .agg [.lit (.int .i64 x), .lit (.int .i64 y)]) :: rest) W) : Gv W g (x, y) := by
  obtain ⟨ps, ⟨g', t', cs, fuel, p, q, hg', ht', hvar, hd, _, _⟩, _⟩ := h
  obtain rfl := Option.some.inj (hg.symm.trans hg')
  obtain rfl := Option.some.inj (hty.symm.trans ht')
  obtain ⟨a, b, hcs, he, _, _⟩ := two_of_trod Tryd.underlying24 rfl rfl rfl rfl cellsR hd
  have e1 := congrArg Prod.fst he
  simp only [DataW.agg.injEq, List.cons.injEq, DataW.lit.injEq, Lit.int.injEq, true_and, and_true] at e1
  obtain ⟨rfl, rfl⟩ := e1
  have c0 := World.var?_cell hg hvar 0
  have c1 := World.var?_cell hg hvar 1
  obtain rfl : cs = [.int .i64 x, .int .i64 y].toArray := by cases cs; simp_all
  refine ⟨?_, by simpa using c0, by simpa using c1⟩
  have h' := hvar
  unfold World.var? at h'
  rw [hg] at h'
  simp only [Option.bind_some] at h'
  cases hh : W.heap[g]? with
  | none => rw [hh] at h'; cases h'
  | some o => exact (Array.getElem?_eq_some_iff.1 hh).1
theorem Gv.none {w : World} (h : Gv w 1 none8) : 1 < w.heap.size ∧ w.cell? ⟨1, 0, none⟩ = some (.int .i64 1) ∧ w.cell? ⟨1, 1, none⟩ = some (.int .i64 0) ∧ 0 < w.heap.size := ⟨h.1, h.2.1, h.2.2, Nat.lt_of_le_of_lt (Nat.zero_le _) h.1⟩
theorem vars_len {H : Type} {enc : TypeId × Value → H} {w : World} {sp : Nat → Bool} : ∀ {ns : List String} {gs : List (DataW H)} {ps : List MemPlace}, DataW.TrodVars enc Tryd.prog w sp ns gs ps → gs.length = ns.length
  | [], [], _, _ => rfl
  | [], _ :: _, _, h => h.elim
  | _ :: _, [], _, h => h.elim
  | _ :: _, _ :: _, _, h => by
    obtain ⟨g, t, cs, fuel, p, q, h1, h2, h3, h4, hs, e⟩ := h
    simp [vars_len hs]
/-- An argument of type laws.Range. -/
theorem arg_two {H : Type} {enc : TypeId × Value → H} {W : World} {sp : Nat → Bool} {held : Bool} {base : Nat} {v : Value} {d : DataW H} {p : List MemPlace}
    (hv : ∃ cs : Array Value, v = .agg cs ∧ cs.size = Tryd.prog.cellsOf 51) (h : DataW.Trod enc Tryd.prog W base sp held 51 v d p) : ∃ a : R8, v = (.agg #[.int .i64 a.1, .int .i64 a.2]) := by
  obtain ⟨cs, rfl, _⟩ := hv
  obtain ⟨fuel, hf⟩ := h
  obtain ⟨a, b, hcs, he, wa, wb⟩ := two_of_trod Tryd.underlying51 rfl rfl rfl rfl cellsLR hf
  simp [Value.cells] at hcs
  refine ⟨(a, b), ?_⟩
  cases cs; simp_all
end Go.Proofs.YthbbgkpkijlclaaDoor.num
