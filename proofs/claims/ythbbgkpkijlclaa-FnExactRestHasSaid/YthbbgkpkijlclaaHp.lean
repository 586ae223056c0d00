/-
  Arguments that are rests; the laws' helpers toRest, eqRest.
-/
import Derived.Test.YthbbgkpkijlclaaHg
import Derived.Test.YthbbgkpkijlclaaGc
import Derived.WalkLawsBesides
import Derived.ProofKit
import Derived.OpenShut
import Derived.Below
namespace Go.Proofs.Ythbbgkpkijlclaa.num
open Go.ChangeShapes Go.WideShapes Go.ChangeAt Go.RowKit
set_option linter.unusedVariables false

theorem own : ownKnob Try.prog.godebug = none := by kernel_rfl
theorem laidOut : laidOutB Try.prog = true := by kernel_rfl
theorem cellsLQ : Try.prog.cellsOf 23 = 2 := by kernel_rfl
theorem cellsI : Try.prog.cellsOf 3 = 1 := by kernel_rfl
theorem two_of_trod {H : Type} {enc : TypeId × Value → H} {w : World} {base : Nat} {sp : Nat → Bool} {held : Bool} {fuel : Nat} {t : TypeId} {f0 f1 : Field} {cs : List Value} {x : DataW H × List MemPlace}
    (ht : Try.prog.underlying t = some (.struct #[f0, f1])) (h0 : f0.type = 3) (h1 : f1.type = 3) (o0 : f0.offset = 0) (o1 : f1.offset = 1) (hc : Try.prog.cellsOf t = 2)
    (h : DataW.trod enc Try.prog w base sp held fuel t cs = some x) : ∃ a b, cs = [.int .i64 a, .int .i64 b] ∧ x = (.agg [.lit (.int .i64 a), .lit (.int .i64 b)], []) ∧ (Lit.int .i64 a).wf = true ∧ (Lit.int .i64 b).wf = true := by
  obtain ⟨y0, y1, n, rfl, hl, hx, hy⟩ := trod_struct2 ht h
  rw [h0, o0, cellsI] at hx
  rw [h1, o1, cellsI] at hy
  rw [hc] at hl
  obtain ⟨a, ha, rfl, wa⟩ := DataW.trod_int Try.underlying3 hx
  obtain ⟨b, hb, rfl, wb⟩ := DataW.trod_int Try.underlying3 hy
  match cs, hl with
  | [p, q], _ =>
    simp at ha hb
    subst ha; subst hb
    exact ⟨a, b, rfl, by simp, wa, wb⟩
/-- An argument of type laws.Rest. -/
theorem arg_twoQ {H : Type} {enc : TypeId × Value → H} {W : World} {sp : Nat → Bool} {held : Bool} {base : Nat} {v : Value} {d : DataW H} {p : List MemPlace}
    (hv : ∃ cs : Array Value, v = .agg cs ∧ cs.size = Try.prog.cellsOf 23) (h : DataW.Trod enc Try.prog W base sp held 23 v d p) : ∃ a : T9, v = (.agg #[.int .i64 a.1, .int .i64 a.2]) := by
  obtain ⟨cs, rfl, _⟩ := hv
  obtain ⟨fuel, hf⟩ := h
  obtain ⟨a, b, hcs, he, wa, wb⟩ := two_of_trod Try.underlying23 rfl rfl rfl rfl cellsLQ hf
  simp [Value.cells] at hcs
  refine ⟨(a, b), ?_⟩
  cases cs; simp_all
theorem toRest_xy (x y : Int) (w : World) :
    Calls Try.prog 6 #[.agg #[.int .i64 x, .int .i64 y]] w fun e w' => e = .returned (.agg #[.int .i64 x, .int .i64 y]) ∧ Below w.heap.size w w' := by
  go_enter Try.func6, Try.ntmps6
  go_wp2
  refine bodyPost_ret (results_two rfl _ _ (w.heap.size + 1) (.int .i64 x) (.int .i64 y) _ rfl (by simp [go_sem]) (by simp [go_sem]) Try.underlying25 rfl (by kernel_rfl)) rfl ?_
  exact ⟨rfl, (((Below.refl _ _).alloc (Nat.le_refl _) _).alloc (by simp) _).alloc (by simp; omega) _⟩
theorem eqRest_xy (x y x2 y2 : Int) (w : World) :
    Calls Try.prog 10 #[.agg #[.int .i64 x, .int .i64 y], .agg #[.int .i64 x2, .int .i64 y2]] w fun e w' => e = .returned (.bool (decide (x = x2) && decide (y = y2))) ∧ Below w.heap.size w w' := by
  go_enter Try.func10, Try.ntmps10
  go_wp2
  all_goals
    go_ret
    exact ⟨ret_bool (by simp_all), ((Below.refl _ _).alloc (Nat.le_refl _) _).alloc (by simp) _⟩
end Go.Proofs.Ythbbgkpkijlclaa.num
