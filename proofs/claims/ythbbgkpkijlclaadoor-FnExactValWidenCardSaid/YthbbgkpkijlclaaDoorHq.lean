/-
  Arguments that are rests; the laws' helpers toRest, eqRest.
-/
import Derived.Test.YthbbgkpkijlclaaDoorTa
import Derived.Test.YthbbgkpkijlclaaDoorHg
import Derived.Test.YthbbgkpkijlclaaDoorGc
namespace Go.Proofs.YthbbgkpkijlclaaDoor.num
open Go.ChangeShapes Go.WideShapes Go.ChangeAt Go.RowKit
set_option linter.unusedVariables false

theorem cellsLQ : Tryd.prog.cellsOf 52 = 2 := by kernel_rfl
/-- An argument of type laws.Rest. -/
theorem arg_twoQ {H : Type} {enc : TypeId × Value → H} {W : World} {sp : Nat → Bool} {held : Bool} {base : Nat} {v : Value} {d : DataW H} {p : List MemPlace}
    (hv : ∃ cs : Array Value, v = .agg cs ∧ cs.size = Tryd.prog.cellsOf 52) (h : DataW.Trod enc Tryd.prog W base sp held 52 v d p) : ∃ a : T9, v = (.agg #[.int .i64 a.1, .int .i64 a.2]) := by
  obtain ⟨cs, rfl, _⟩ := hv
  obtain ⟨fuel, hf⟩ := h
  obtain ⟨a, b, hcs, he, wa, wb⟩ := two_of_trod Tryd.underlying52 rfl rfl rfl rfl cellsLQ hf
  simp [Value.cells] at hcs
  refine ⟨(a, b), ?_⟩
  cases cs; simp_all
theorem toRest_xy (x y : Int) (w : World) :
    Calls Tryd.prog 46 #[.agg #[.int .i64 x, .int .i64 y]] w fun e w' => e = .returned (.agg #[.int .i64 x, .int .i64 y]) ∧ Below w.heap.size w w' := by
  go_enter Tryd.func46, Tryd.ntmps46
  go_wp2
  refine bodyPost_ret (results_two rfl _ _ (w.heap.size + 1) (.int .i64 x) (.int .i64 y) _ rfl (by simp [go_sem]) (by simp [go_sem]) Tryd.underlying26 rfl (by kernel_rfl)) rfl ?_
  exact ⟨rfl, (((Below.refl _ _).alloc (Nat.le_refl _) _).alloc (by simp) _).alloc (by simp; omega) _⟩
end Go.Proofs.YthbbgkpkijlclaaDoor.num
