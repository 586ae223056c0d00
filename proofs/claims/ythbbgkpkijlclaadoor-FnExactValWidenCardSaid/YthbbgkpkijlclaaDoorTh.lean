/-
  The program's ranges: some, rangesOf, both.
-/
import Derived.Test.YthbbgkpkijlclaaDoorTd
namespace Go.Proofs.YthbbgkpkijlclaaDoor.num
open Go.ChangeShapes Go.WideShapes Go.ChangeAt Go.RowKit
set_option linter.unusedVariables false

/-- A struct of four cells lies in the variable of the result. -/
theorem results_four {P : Program} {fn : Func} {p : Tmp} {ty : TypeId} (h : fn.results = #[.cell p ty]) (tmps : Array Value) (w : World) (g : Nat) (x y z u : Value) (d : TypeDesc)
    (hp : tmps.getD p undef = .pointer (some ⟨g, 0, none⟩)) (c0 : w.cell? ⟨g, 0, none⟩ = some x) (c1 : w.cell? ⟨g, 1, none⟩ = some y) (c2 : w.cell? ⟨g, 2, none⟩ = some z) (c3 : w.cell? ⟨g, 3, none⟩ = some u)
    (hu : P.underlying ty = some d) (hd : d.isRow = true) (hi : (P.info? ty).map (·.size) = some 4) :
    (results fn tmps).run P w = .ok (.agg #[x, y, z, u]) w := by
  have hp' : tmps[p]?.getD undef = .pointer (some ⟨g, 0, none⟩) := by simpa using hp
  have hl := run_loadVar_mid (P := P) w g 0 ty [x, y, z, u] d (fun j v hj => by
    match j, hj with
    | 0, hj => simp at hj; subst hj; exact c0
    | 1, hj => simp at hj; subst hj; exact c1
    | 2, hj => simp at hj; subst hj; exact c2
    | 3, hj => simp at hj; subst hj; exact c3
    | n + 4, hj => simp at hj) hu hd hi
  have hl' : (loadVar ty ⟨g, 0, none⟩).run P w = .ok (.agg #[x, y, z, u]) w := hl
  simp [results, h, hp', asAddr, hl']
theorem Hd.four (w : World) (x y z u : Value) (t : TypeId) : ∃ W, W = w.alloc (.cells #[x, y, z, u] t) ∧ Hd w [(w.heap.size, 0, x), (w.heap.size, 1, y), (w.heap.size, 2, z), (w.heap.size, 3, u)] W := by
  refine ⟨_, rfl, (Below.refl w.heap.size w).alloc (Nat.le_refl _) _, fun b o v hm => ?_⟩
  simp only [List.mem_cons, Prod.mk.injEq, List.not_mem_nil, or_false] at hm
  rcases hm with ⟨rfl, rfl, rfl⟩ | ⟨rfl, rfl, rfl⟩ | ⟨rfl, rfl, rfl⟩ | ⟨rfl, rfl, rfl⟩
  all_goals exact ⟨by simp, by simp [go_sem], by simp [go_sem]⟩
/-- ok and not none. -/
def rSome (a : R8) : Bool := rOk a && !isN a
theorem rSome_iff (a : R8) : rSome a = true ↔ (rOk a = true ∧ isN a = false) := by unfold rSome; simp
theorem rSome_eq (x y : Int) : rSome (x, y) = (rOk (x, y) && !isN (x, y)) := rfl
theorem some_xy (x y : Int) (w : World) (h : Gv w 1 none8) :
    Calls Tryd.prog 85 #[.agg #[.int .i64 x, .int .i64 y]] w fun e w' => e = .returned (.bool (rSome (x, y))) ∧ Below w.heap.size w w' := by
  obtain ⟨W, hW, H⟩ := Hd.one w (.int .i64 x) (.int .i64 y) 24
  have c0 := H.get (b := w.heap.size) (o := 0) (v := .int .i64 x) (by simp)
  have c1 := H.get (b := w.heap.size) (o := 1) (v := .int .i64 y) (by simp)
  rw [rSome_eq]
  cases k : rOk (x, y)
  · go_enter Tryd.func85, Tryd.ntmps85
    go_wp2_with fail
    rw [← hW]
    clear hW
    go_wp2_with (go_at_call 63; refine (iOk_xy _ _ _ (h.below H.below)).mono ?_; rintro e w' ⟨rfl, hb⟩; replace H := H.call hb)
    go_ret
    exact ⟨rfl, H.below⟩
  · cases n : isN (x, y)
    · have hq := @some_if x y n
      go_enter Tryd.func85, Tryd.ntmps85
      go_wp2_with fail
      rw [← hW]
      clear hW
      go_wp2_with (go_at_call 63; refine (iOk_xy _ _ _ (h.below H.below)).mono ?_; rintro e w' ⟨rfl, hb⟩; replace H := H.call hb; have d0 := H.get (b := w.heap.size) (o := 0) (v := .int .i64 x) (by simp); have d1 := H.get (b := w.heap.size) (o := 1) (v := .int .i64 y) (by simp); obtain ⟨gs, g0, g1, gz⟩ := (h.below H.below).none)
      go_ret
      exact ⟨rfl, H.below⟩
    · obtain ⟨rfl, rfl⟩ := none_xy n
      go_enter Tryd.func85, Tryd.ntmps85
      go_wp2_with fail
      rw [← hW]
      clear hW
      go_wp2_with (go_at_call 63; refine (iOk_xy _ _ _ (h.below H.below)).mono ?_; rintro e w' ⟨rfl, hb⟩; replace H := H.call hb; have d0 := H.get (b := w.heap.size) (o := 0) (v := .int .i64 1) (by simp); have d1 := H.get (b := w.heap.size) (o := 1) (v := .int .i64 0) (by simp); obtain ⟨gs, g0, g1, gz⟩ := (h.below H.below).none)
      go_ret
      exact ⟨rfl, H.below⟩
theorem rangesOf_xy (x y x2 y2 : Int) (w : World) :
    Calls Tryd.prog 120 #[.agg #[.int .i64 x, .int .i64 y], .agg #[.int .i64 x2, .int .i64 y2]] w fun e w' => e = .returned (.agg #[.int .i64 x, .int .i64 y, .int .i64 x2, .int .i64 y2]) ∧ Below w.heap.size w w' := by
  go_enter Tryd.func120, Tryd.ntmps120
  go_wp2
  refine bodyPost_ret (results_four rfl _ _ (w.heap.size + 1 + 1) (.int .i64 x) (.int .i64 y) (.int .i64 x2) (.int .i64 y2) _ rfl (by simp [go_sem]) (by simp [go_sem]) (by simp [go_sem]) (by simp [go_sem]) Tryd.underlying122 rfl (by kernel_rfl)) rfl ?_
  exact ⟨rfl, (((Below.refl _ _).alloc (Nat.le_refl _) _).alloc (by simp) _).alloc (by simp; omega) _⟩
theorem bothR_xy (x y x2 y2 : Int) (w : World) (h : Gv w 1 none8) :
    Calls Tryd.prog 121 #[.agg #[.int .i64 x, .int .i64 y, .int .i64 x2, .int .i64 y2], .func (Fn.func 85) #[] #[]] w fun e w' => e = .returned (.bool (rSome (x, y) && rSome (x2, y2))) ∧ Below w.heap.size w w' := by
  obtain ⟨W, hW, H⟩ := Hd.four w (.int .i64 x) (.int .i64 y) (.int .i64 x2) (.int .i64 y2) 122
  have c0 := H.get (b := w.heap.size) (o := 0) (v := .int .i64 x) (by simp)
  have c1 := H.get (b := w.heap.size) (o := 1) (v := .int .i64 y) (by simp)
  have c2 := H.get (b := w.heap.size) (o := 2) (v := .int .i64 x2) (by simp)
  have c3 := H.get (b := w.heap.size) (o := 3) (v := .int .i64 y2) (by simp)
  cases k : rSome (x, y)
  all_goals
    go_enter Tryd.func121, Tryd.ntmps121
    go_wp2_with fail
    rw [← hW]
    clear hW
    go_wp2_with (go_at_call 85; refine (some_xy _ _ _ (h.below H.below)).mono ?_; rintro e w' ⟨rfl, hb⟩; replace H := H.call hb; have d2 := H.get (b := w.heap.size) (o := 2) (v := .int .i64 x2) (by simp); have d3 := H.get (b := w.heap.size) (o := 3) (v := .int .i64 y2) (by simp))
    go_ret
    exact ⟨rfl, H.below⟩
end Go.Proofs.YthbbgkpkijlclaaDoor.num
