/-
  The program's vals: makes, tests, joins.
-/
import Derived.Test.YthbbgkpkijlclaaDoorLa
import Derived.Test.YthbbgkpkijlclaaDoorTa
import Derived.Lib.SmallJoins
import Derived.Test.YthbbgkpkijlclaaDoorUe
import Derived.Test.YthbbgkpkijlclaaDoorTg
import Derived.Test.YthbbgkpkijlclaaDoorVx
import Derived.Test.YthbbgkpkijlclaaDoorRg10
import Derived.Test.YthbbgkpkijlclaaDoorTh
import Derived.Test.YthbbgkpkijlclaaDoorVd
namespace Go.Proofs.YthbbgkpkijlclaaDoor.num
open Go.ChangeShapes Go.WideShapes Go.ChangeAt Go.RowKit
set_option linter.unusedVariables false

/-- The variable valNone holds the val without numbers. -/
def Gn (W : World) : Prop := 0 < W.heap.size ∧ W.cell? ⟨0, 0, none⟩ = some (.int .i64 1) ∧ W.cell? ⟨0, 1, none⟩ = some (.int .i64 0) ∧ W.cell? ⟨0, 2, none⟩ = some (.int .i64 0) ∧ W.cell? ⟨0, 3, none⟩ = some (.int .i64 0)
theorem Gn.below {W W' : World} (h : Gn W) (hb : Below W.heap.size W W') : Gn W' :=
  ⟨Nat.lt_of_lt_of_le h.1 hb.size, by rw [hb.cell (p := ⟨0, 0, none⟩) h.1]; exact h.2.1, by rw [hb.cell (p := ⟨0, 1, none⟩) h.1]; exact h.2.2.1,
    by rw [hb.cell (p := ⟨0, 2, none⟩) h.1]; exact h.2.2.2.1, by rw [hb.cell (p := ⟨0, 3, none⟩) h.1]; exact h.2.2.2.2⟩
theorem Gn.over {W : World} (h : Gn W) (p : Over W) : Gn p.w := h.below p.below
theorem Gn.all {w : World} (h : Gn w) : 0 < w.heap.size ∧ w.cell? ⟨0, 0, none⟩ = some (.int .i64 1) ∧ w.cell? ⟨0, 1, none⟩ = some (.int .i64 0) ∧ w.cell? ⟨0, 2, none⟩ = some (.int .i64 0) ∧ w.cell? ⟨0, 3, none⟩ = some (.int .i64 0) := h
theorem cellsV : Tryd.prog.cellsOf 30 = 4 := by kernel_rfl
theorem cellsLV : Tryd.prog.cellsOf 56 = 4 := by kernel_rfl
theorem four_of_trod {H : Type} {enc : TypeId × Value → H} {w : World} {base : Nat} {sp : Nat → Bool} {held : Bool} {fuel : Nat} {t : TypeId} {f0 f1 f2 f3 : Field} {cs : List Value} {x : DataW H × List MemPlace}
    (ht : Tryd.prog.underlying t = some (.struct #[f0, f1, f2, f3])) (h0 : f0.type = 3) (h1 : f1.type = 3) (h2 : f2.type = 3) (h3 : f3.type = 3) (o0 : f0.offset = 0) (o1 : f1.offset = 1) (o2 : f2.offset = 2) (o3 : f3.offset = 3) (hc : Tryd.prog.cellsOf t = 4)
    (h : DataW.trod enc Tryd.prog w base sp held fuel t cs = some x) : ∃ a b c d, cs = [.int .i64 a, .int .i64 b, .int .i64 c, .int .i64 d] ∧ x = (.agg [.lit (.int .i64 a), .lit (.int .i64 b), .lit (.int .i64 c), .lit (.int .i64 d)], []) := by
  obtain ⟨y0, y1, y2, y3, n, rfl, hl, hx, hy, hz, hu⟩ := Joins.trod_struct4 ht h
  rw [h0, o0, cellsI] at hx
  rw [h1, o1, cellsI] at hy
  rw [h2, o2, cellsI] at hz
  rw [h3, o3, cellsI] at hu
  rw [hc] at hl
  obtain ⟨a, ha, rfl, wa⟩ := DataW.trod_int Tryd.underlying3 hx
  obtain ⟨b, hb, rfl, wb⟩ := DataW.trod_int Tryd.underlying3 hy
  obtain ⟨c, hc', rfl, wc⟩ := DataW.trod_int Tryd.underlying3 hz
  obtain ⟨d, hd, rfl, wd⟩ := DataW.trod_int Tryd.underlying3 hu
  match cs, hl with
  | [p, q, r, s], _ =>
    simp at ha hb hc' hd
    subst ha; subst hb; subst hc'; subst hd
    exact ⟨a, b, c, d, rfl, by simp⟩
theorem gn_of_head {W : World} {name : String} {rest : List (String × DataW Unit)} (hg : Tryd.prog.globalNamed name = some 0) (hty : (Tryd.prog.globals[0]?).map (·.type) = some 30)
    (h : laidMet Tryd.prog ((name, .agg [.lit (.int .i64 1), .lit (.int .i64 0), .lit (.int .i64 0), .lit (.int .i64 0)]) :: rest) W) : Gn W := by
  obtain ⟨ps, ⟨g', t', cs, fuel, p, q, hg', ht', hvar, hd, _, _⟩, _⟩ := h
  obtain rfl := Option.some.inj (hg.symm.trans hg')
  obtain rfl := Option.some.inj (hty.symm.trans ht')
  obtain ⟨a, b, c, d, hcs, he⟩ := four_of_trod Tryd.underlying30 rfl rfl rfl rfl rfl rfl rfl rfl cellsV hd
  have e1 := congrArg Prod.fst he
  simp only [DataW.agg.injEq, List.cons.injEq, DataW.lit.injEq, Lit.int.injEq, true_and, and_true] at e1
  obtain ⟨rfl, rfl, rfl, rfl⟩ := e1
  have c0 := World.var?_cell hg hvar 0
  have c1 := World.var?_cell hg hvar 1
  have c2 := World.var?_cell hg hvar 2
  have c3 := World.var?_cell hg hvar 3
  obtain rfl : cs = [.int .i64 1, .int .i64 0, .int .i64 0, .int .i64 0].toArray := by cases cs; simp_all
  refine ⟨?_, by simpa using c0, by simpa using c1, by simpa using c2, by simpa using c3⟩
  have h' := hvar
  unfold World.var? at h'
  rw [hg] at h'
  simp only [Option.bind_some] at h'
  cases hh : W.heap[0]? with
  | none => rw [hh] at h'; cases h'
  | some o => exact (Array.getElem?_eq_some_iff.1 hh).1
/-- An argument of type laws.Val. -/
theorem arg_four {H : Type} {enc : TypeId × Value → H} {W : World} {sp : Nat → Bool} {held : Bool} {base : Nat} {v : Value} {d : DataW H} {p : List MemPlace}
    (hv : ∃ cs : Array Value, v = .agg cs ∧ cs.size = Tryd.prog.cellsOf 56) (h : DataW.Trod enc Tryd.prog W base sp held 56 v d p) : ∃ x y m t, v = .agg #[.int .i64 x, .int .i64 y, .int .i64 m, .int .i64 t] := by
  obtain ⟨cs, rfl, _⟩ := hv
  obtain ⟨fuel, hf⟩ := h
  obtain ⟨a, b, c, d, hcs, he⟩ := four_of_trod Tryd.underlying56 rfl rfl rfl rfl rfl rfl rfl rfl cellsLV hf
  simp [Value.cells] at hcs
  refine ⟨a, b, c, d, ?_⟩
  cases cs; simp_all
theorem toVal_xy (x y m t : Int) (w : World) :
    Calls Tryd.prog 48 #[.agg #[.int .i64 x, .int .i64 y, .int .i64 m, .int .i64 t]] w fun e w' => e = .returned (.agg #[.int .i64 x, .int .i64 y, .int .i64 m, .int .i64 t]) ∧ Below w.heap.size w w' := by
  go_enter Tryd.func48, Tryd.ntmps48
  go_wp2
  refine bodyPost_ret (results_four rfl _ _ (w.heap.size + 1) (.int .i64 x) (.int .i64 y) (.int .i64 m) (.int .i64 t) _ rfl (by simp [go_sem]) (by simp [go_sem]) (by simp [go_sem]) (by simp [go_sem]) Tryd.underlying30 rfl (by kernel_rfl)) rfl ?_
  exact ⟨rfl, (((Below.refl _ _).alloc (Nat.le_refl _) _).alloc (by simp) _).alloc (by simp; omega) _⟩
theorem eqVal_xy (x y m t x2 y2 m2 t2 : Int) (w : World) :
    Calls Tryd.prog 47 #[.agg #[.int .i64 x, .int .i64 y, .int .i64 m, .int .i64 t], .agg #[.int .i64 x2, .int .i64 y2, .int .i64 m2, .int .i64 t2]] w fun e w' => e = .returned (.bool (decide (x = x2) && (decide (y = y2) && (decide (m = m2) && decide (t = t2))))) ∧ Below w.heap.size w w' := by
  go_enter Tryd.func47, Tryd.ntmps47
  go_wp2
  all_goals
    go_ret
    exact ⟨ret_bool (by simp_all), ((Below.refl _ _).alloc (Nat.le_refl _) _).alloc (by simp) _⟩
end Go.Proofs.YthbbgkpkijlclaaDoor.num
namespace Go.Proofs.YthbbgkpkijlclaaDoor.num
open Go.ChangeShapes Go.WideShapes Go.ChangeAt Go.RowKit
set_option linter.unusedVariables false

theorem parts_xy (x y m t : Int) (w : World) :
    Calls Tryd.prog 93 #[.agg #[.int .i64 x, .int .i64 y, .int .i64 m, .int .i64 t]] w fun e w' => e = .returned (.agg #[.int .i64 x, .int .i64 y, .int .i64 m, .int .i64 t]) ∧ Below w.heap.size w w' := by
  go_enter Tryd.func93, Tryd.ntmps93
  go_wp2
  refine bodyPost_ret (results_four rfl _ _ (w.heap.size + 1) (.int .i64 x) (.int .i64 y) (.int .i64 m) (.int .i64 t) _ rfl (by simp [go_sem]) (by simp [go_sem]) (by simp [go_sem]) (by simp [go_sem]) Tryd.underlying98 rfl (by kernel_rfl)) rfl ?_
  exact ⟨rfl, ((Below.refl _ _).alloc (Nat.le_refl _) _).alloc (by simp) _⟩
theorem each_xy (x y m t : Int) (w : World) :
    Calls Tryd.prog 163 #[.agg #[.int .i64 x, .int .i64 y, .int .i64 m, .int .i64 t]] w fun e w' => e = .returned (.agg #[.iface 24 (.agg #[.int .i64 x, .int .i64 y]), .iface 26 (.agg #[.int .i64 m, .int .i64 t])]) ∧ Below w.heap.size w w' := by
  go_enter Tryd.func163, Tryd.ntmps163
  go_wp2
  refine bodyPost_ret (results_two rfl _ _ (w.heap.size + 1) (.iface 24 (.agg #[.int .i64 x, .int .i64 y])) (.iface 26 (.agg #[.int .i64 m, .int .i64 t])) _ rfl (by simp [go_sem]) (by simp [go_sem]) Tryd.underlying152 rfl (by kernel_rfl)) rfl ?_
  exact ⟨rfl, ((Below.refl _ _).alloc (Nat.le_refl _) _).alloc (by simp) _⟩
theorem from_zero (t v : Int) (w : World) :
    Calls Tryd.prog 86 #[.agg #[.int .i64 0, .int .i64 t], .int .i64 v] w fun e w' => e = .returned (.int .i64 t) ∧ Below w.heap.size w w' := by
  obtain ⟨W, hW, H⟩ : ∃ W, W = w.alloc (.cells #[.int .i64 0, .int .i64 t] 26) ∧ Hd w [(w.heap.size, 0, .int .i64 0), (w.heap.size, 1, .int .i64 t)] W := ⟨_, rfl, by
    have h := ((Hd.start w).box (.int .i64 0) (.int .i64 t) 26)
    exact h⟩
  go_enter Tryd.func86, Tryd.ntmps86
  go_wp2_with fail
  rw [← hW]
  clear hW
  have c0 := H.get (b := w.heap.size) (o := 0) (v := .int .i64 0) (by simp)
  have c1 := H.get (b := w.heap.size) (o := 1) (v := .int .i64 t) (by simp)
  go_wp2_with (first | (go_at_call 149; refine (single_xy _ _ _).mono ?_; rintro e w' ⟨rfl, hb⟩; replace H := H.call hb; clear hb; have c0 := H.get (b := w.heap.size) (o := 0) (v := .int .i64 0) (by simp); have c1 := H.get (b := w.heap.size) (o := 1) (v := .int .i64 t) (by simp)))
  go_ret
  exact ⟨rfl, H.below⟩
theorem from_some (m t v : Int) (h0 : 0 < m) (h1 : m ≤ 65536) (ht : -2147483648 ≤ t ∧ t ≤ 2147483647) (hv : -2147483648 ≤ v ∧ v ≤ 2147483647) (w : World) :
    Calls Tryd.prog 86 #[.agg #[.int .i64 m, .int .i64 t], .int .i64 v] w fun e w' => e = .returned (.int .i64 (v + (t - v) % m)) ∧ Below w.heap.size w w' := by
  have hz : decide (m = 0) = false := decide_eq_false (by omega)
  have r1 := Int.emod_nonneg (t - v) (show m ≠ 0 by omega)
  have r2 := Int.emod_lt_of_pos (t - v) h0
  have w1 : wrap64 (t - v) = t - v := w64_id (by omega) (by omega)
  have w2 : wrap64 (v + (t - v) % m) = v + (t - v) % m := w64_id (by omega) (by omega)
  have v1 : IntKind.i64.wrap (t - v) = t - v := IntWalk.i64_in _ ⟨by omega, by omega⟩
  have v2 : IntKind.i64.wrap (v + (t - v) % m) = v + (t - v) % m := IntWalk.i64_in _ ⟨by omega, by omega⟩
  obtain ⟨W, hW, H⟩ : ∃ W, W = w.alloc (.cells #[.int .i64 m, .int .i64 t] 26) ∧ Hd w [(w.heap.size, 0, .int .i64 m), (w.heap.size, 1, .int .i64 t)] W := ⟨_, rfl, by
    have h := ((Hd.start w).box (.int .i64 m) (.int .i64 t) 26)
    exact h⟩
  go_enter Tryd.func86, Tryd.ntmps86
  go_wp2_with fail
  rw [← hW]
  clear hW
  have c0 := H.get (b := w.heap.size) (o := 0) (v := .int .i64 m) (by simp)
  have c1 := H.get (b := w.heap.size) (o := 1) (v := .int .i64 t) (by simp)
  go_wp2_with (first | (go_at_call 149; refine (single_xy _ _ _).mono ?_; rintro e w' ⟨rfl, hb⟩; rw [hz]; replace H := H.call hb; clear hb; have c0 := H.get (b := w.heap.size) (o := 0) (v := .int .i64 m) (by simp); have c1 := H.get (b := w.heap.size) (o := 1) (v := .int .i64 t) (by simp)) | (go_at_call 162; refine (modulo_any _ m h0 (by omega) _).mono ?_; rintro e w' ⟨rfl, rfl⟩))
  go_ret
  exact ⟨rfl, H.below⟩
theorem upTo_zero (t v : Int) (w : World) :
    Calls Tryd.prog 87 #[.agg #[.int .i64 0, .int .i64 t], .int .i64 v] w fun e w' => e = .returned (.int .i64 t) ∧ Below w.heap.size w w' := by
  obtain ⟨W, hW, H⟩ : ∃ W, W = w.alloc (.cells #[.int .i64 0, .int .i64 t] 26) ∧ Hd w [(w.heap.size, 0, .int .i64 0), (w.heap.size, 1, .int .i64 t)] W := ⟨_, rfl, by
    have h := ((Hd.start w).box (.int .i64 0) (.int .i64 t) 26)
    exact h⟩
  go_enter Tryd.func87, Tryd.ntmps87
  go_wp2_with fail
  rw [← hW]
  clear hW
  have c0 := H.get (b := w.heap.size) (o := 0) (v := .int .i64 0) (by simp)
  have c1 := H.get (b := w.heap.size) (o := 1) (v := .int .i64 t) (by simp)
  go_wp2_with (first | (go_at_call 149; refine (single_xy _ _ _).mono ?_; rintro e w' ⟨rfl, hb⟩; replace H := H.call hb; clear hb; have c0 := H.get (b := w.heap.size) (o := 0) (v := .int .i64 0) (by simp); have c1 := H.get (b := w.heap.size) (o := 1) (v := .int .i64 t) (by simp)))
  go_ret
  exact ⟨rfl, H.below⟩
theorem upTo_some (m t v : Int) (h0 : 0 < m) (h1 : m ≤ 65536) (ht : -2147483648 ≤ t ∧ t ≤ 2147483647) (hv : -2147483648 ≤ v ∧ v ≤ 2147483647) (w : World) :
    Calls Tryd.prog 87 #[.agg #[.int .i64 m, .int .i64 t], .int .i64 v] w fun e w' => e = .returned (.int .i64 (v - (v - t) % m)) ∧ Below w.heap.size w w' := by
  have hz : decide (m = 0) = false := decide_eq_false (by omega)
  have r1 := Int.emod_nonneg (v - t) (show m ≠ 0 by omega)
  have r2 := Int.emod_lt_of_pos (v - t) h0
  have w1 : wrap64 (v - t) = v - t := w64_id (by omega) (by omega)
  have w2 : wrap64 (v - (v - t) % m) = v - (v - t) % m := w64_id (by omega) (by omega)
  have v1 : IntKind.i64.wrap (v - t) = v - t := IntWalk.i64_in _ ⟨by omega, by omega⟩
  have v2 : IntKind.i64.wrap (v - (v - t) % m) = v - (v - t) % m := IntWalk.i64_in _ ⟨by omega, by omega⟩
  obtain ⟨W, hW, H⟩ : ∃ W, W = w.alloc (.cells #[.int .i64 m, .int .i64 t] 26) ∧ Hd w [(w.heap.size, 0, .int .i64 m), (w.heap.size, 1, .int .i64 t)] W := ⟨_, rfl, by
    have h := ((Hd.start w).box (.int .i64 m) (.int .i64 t) 26)
    exact h⟩
  go_enter Tryd.func87, Tryd.ntmps87
  go_wp2_with fail
  rw [← hW]
  clear hW
  have c0 := H.get (b := w.heap.size) (o := 0) (v := .int .i64 m) (by simp)
  have c1 := H.get (b := w.heap.size) (o := 1) (v := .int .i64 t) (by simp)
  go_wp2_with (first | (go_at_call 149; refine (single_xy _ _ _).mono ?_; rintro e w' ⟨rfl, hb⟩; rw [hz]; replace H := H.call hb; clear hb; have c0 := H.get (b := w.heap.size) (o := 0) (v := .int .i64 m) (by simp); have c1 := H.get (b := w.heap.size) (o := 1) (v := .int .i64 t) (by simp)) | (go_at_call 162; refine (modulo_any _ m h0 (by omega) _).mono ?_; rintro e w' ⟨rfl, rfl⟩))
  go_ret
  exact ⟨rfl, H.below⟩
/-- The interface's methods' names, out of the row's own. -/
def nHas : String := String.append (Rows.fnExactValMakeRow.func.take 19).toString "impl.has"
def nIn : String := String.append (Rows.fnExactValMakeRow.func.take 19).toString "impl.in"
theorem idx0 (a b : Value) (w : World) : (Instr.index 152 (.agg #[a, b]) (.int .i64 0)).run Tryd.prog w = .ok a w := by kernel_rfl
theorem idx1 (a b : Value) (w : World) : (Instr.index 152 (.agg #[a, b]) (.int .i64 1)).run Tryd.prog w = .ok b w := by kernel_rfl
theorem methHasR {nm : String} (h : nm = nHas) (v : Value) (w : World) : (method 299 24 v nm).run Tryd.prog w = .ok (137, v) w := by subst h; kernel_rfl
theorem methHasQ {nm : String} (h : nm = nHas) (v : Value) (w : World) : (method 299 26 v nm).run Tryd.prog w = .ok (155, v) w := by subst h; kernel_rfl
set_option maxRecDepth 100000 in
set_option maxHeartbeats 4000000 in
theorem phas_xy (x y m t v : Int) (hm : 0 ≤ m ∧ m ≤ 65536) (w : World) :
    Calls Tryd.prog 88 #[.agg #[.int .i64 x, .int .i64 y, .int .i64 m, .int .i64 t], .int .i64 v] w fun e w' => e = .returned (.bool ((decide (x ≤ v) && decide (v ≤ y)) && hasQ m t v)) ∧ Below w.heap.size w w' := by
  have i0 := idx0
  have i1 := idx1
  have hR := fun w => ihas_xy x y v w
  have hQ := fun w => restHas_xy m t v hm w
  generalize (decide (x ≤ v) && decide (v ≤ y)) = p1 at *
  generalize hasQ m t v = p2 at *
  obtain ⟨W, hW, H⟩ : ∃ W, W = w.alloc (.cells #[.int .i64 x, .int .i64 y, .int .i64 m, .int .i64 t] 98) ∧ Hd w [(w.heap.size, 0, .int .i64 x), (w.heap.size, 1, .int .i64 y), (w.heap.size, 2, .int .i64 m), (w.heap.size, 3, .int .i64 t)] W := ⟨_, rfl, by
    have h := ((Hd.start w).box4 (.int .i64 x) (.int .i64 y) (.int .i64 m) (.int .i64 t) 98)
    exact h⟩
  go_enter Tryd.func88, Tryd.ntmps88
  go_wp2_with fail
  rw [← hW]
  clear hW
  have c0 := H.get (b := w.heap.size) (o := 0) (v := .int .i64 x) (by simp)
  have c1 := H.get (b := w.heap.size) (o := 1) (v := .int .i64 y) (by simp)
  have c2 := H.get (b := w.heap.size) (o := 2) (v := .int .i64 m) (by simp)
  have c3 := H.get (b := w.heap.size) (o := 3) (v := .int .i64 t) (by simp)
  go_wp2_with (first | (go_at_call 163; refine (each_xy _ _ _ _ _).mono ?_; rintro e w' ⟨rfl, hb⟩; replace H := H.call hb; clear hb))
  clear c0 c1 c2 c3
  have HB := H.below
  clear H
  go_loopw [9] (fun a wr => (a = .int .i64 0 ∨ (a = .int .i64 1 ∧ p1 = true) ∨ (a = .int .i64 2 ∧ p1 = true ∧ p2 = true)) ∧ Below w.heap.size w wr) (fun a _ => (2 - intOf a).toNat)
  case atStart => exact ⟨.inl rfl, HB⟩
  case round =>
    obtain ⟨hrel, HB2⟩ := hrel
    rcases hrel with rfl | ⟨rfl, rfl⟩ | ⟨rfl, rfl, rfl⟩
    · cases p1
      all_goals
        go_wp2_with fail
        rw [methHasR (by kernel_rfl)]
        go_wp2_with (go_at_call 137; refine (hR _).mono ?_; rintro e w' ⟨rfl, hb⟩; replace HB2 := HB2.trans (hb.mono HB2.size); clear hb)
        first
          | (go_ret; exact ⟨rfl, HB2⟩)
          | (go_roundw
             case rel => exact ⟨.inr (.inl (by simp)), HB2⟩
             case measure => simp [intOf])
    · cases p2
      all_goals
        go_wp2_with fail
        rw [methHasQ (by kernel_rfl)]
        go_wp2_with (go_at_call 155; refine (hQ _).mono ?_; rintro e w' ⟨rfl, hb⟩; replace HB2 := HB2.trans (hb.mono HB2.size); clear hb)
        first
          | (go_ret; exact ⟨rfl, HB2⟩)
          | (go_roundw
             case rel => exact ⟨.inr (.inr (by simp)), HB2⟩
             case measure => simp [intOf])
    · go_wp2_with fail
      go_ret
      exact ⟨rfl, HB2⟩
end Go.Proofs.YthbbgkpkijlclaaDoor.num
namespace Go.Proofs.YthbbgkpkijlclaaDoor.num
open Go.ChangeShapes Go.WideShapes Go.ChangeAt Go.RowKit
set_option linter.unusedVariables false

theorem nilR {nm : String} (h : nm = nIn) (a b : Int) (w : World) : (nilAhead 299 24 (.agg #[.int .i64 a, .int .i64 b]) nm).run Tryd.prog w = .ok (some false) w := by subst h; kernel_rfl
theorem nilQ {nm : String} (h : nm = nIn) (a b : Int) (w : World) : (nilAhead 299 26 (.agg #[.int .i64 a, .int .i64 b]) nm).run Tryd.prog w = .ok (some false) w := by subst h; kernel_rfl
theorem methInR {nm : String} (h : nm = nIn) (v : Value) (w : World) : (method 299 24 v nm).run Tryd.prog w = .ok (236, v) w := by subst h; kernel_rfl
theorem methInQ {nm : String} (h : nm = nIn) (v : Value) (w : World) : (method 299 26 v nm).run Tryd.prog w = .ok (237, v) w := by subst h; kernel_rfl
theorem taR (a b : Int) (w : World) : (Instr.typeAssert (.iface 24 (.agg #[.int .i64 a, .int .i64 b])) 151 24 true).run Tryd.prog w = .ok (.tuple #[.agg #[.int .i64 a, .int .i64 b], .bool true]) w := by kernel_rfl
theorem taQ (a b : Int) (w : World) : (Instr.typeAssert (.iface 26 (.agg #[.int .i64 a, .int .i64 b])) 151 26 true).run Tryd.prog w = .ok (.tuple #[.agg #[.int .i64 a, .int .i64 b], .bool true]) w := by kernel_rfl
theorem inR_xy (x y x2 y2 : Int) (w : World) (hw : Gv w 1 none8) :
    Calls Tryd.prog 236 #[.agg #[.int .i64 x, .int .i64 y], .iface 24 (.agg #[.int .i64 x2, .int .i64 y2])] w fun e w' => e = .returned (.bool (rIn (x, y) (x2, y2))) ∧ Below w.heap.size w w' := by
  have ta := taR
  obtain ⟨W, hW, H⟩ : ∃ W, W = (w.alloc (.cells #[.int .i64 x, .int .i64 y] 24)).alloc (.cells #[.int .i64 x2, .int .i64 y2] 24) ∧ Hd w [(w.heap.size + 1, 0, .int .i64 x2), (w.heap.size + 1, 1, .int .i64 y2), (w.heap.size, 0, .int .i64 x), (w.heap.size, 1, .int .i64 y)] W := ⟨_, rfl, by
    have h := (((Hd.start w).box (.int .i64 x) (.int .i64 y) 24).box (.int .i64 x2) (.int .i64 y2) 24)
    simp only [size_alloc1] at h
    exact h⟩
  replace hw := Gv.below hw H.below
  go_enter Tryd.func236, Tryd.ntmps236
  go_wp2_with fail
  rw [← hW]
  clear hW
  go_wp2_with (first | (go_at_call 69; refine (iIn_xy _ _ _ _ _ hw).mono ?_; rintro e w' ⟨rfl, hb⟩; replace H := H.call hb; clear hb))
  go_ret
  exact ⟨rfl, H.below⟩
theorem inQ_xy (m t m2 t2 : Int) (w : World) (hw : qOk (m, t) = true) (hw2 : qOk (m2, t2) = true) :
    Calls Tryd.prog 237 #[.agg #[.int .i64 m, .int .i64 t], .iface 26 (.agg #[.int .i64 m2, .int .i64 t2])] w fun e w' => e = .returned (.bool (in9 (m, t) (m2, t2))) ∧ Below w.heap.size w w' := by
  have ta := taQ
  obtain ⟨W, hW, H⟩ : ∃ W, W = (w.alloc (.cells #[.int .i64 m, .int .i64 t] 26)).alloc (.cells #[.int .i64 m2, .int .i64 t2] 26) ∧ Hd w [(w.heap.size + 1, 0, .int .i64 m2), (w.heap.size + 1, 1, .int .i64 t2), (w.heap.size, 0, .int .i64 m), (w.heap.size, 1, .int .i64 t)] W := ⟨_, rfl, by
    have h := (((Hd.start w).box (.int .i64 m) (.int .i64 t) 26).box (.int .i64 m2) (.int .i64 t2) 26)
    simp only [size_alloc1] at h
    exact h⟩
  skip
  go_enter Tryd.func237, Tryd.ntmps237
  go_wp2_with fail
  rw [← hW]
  clear hW
  go_wp2_with (first | (go_at_call 76; refine (iRestIn_ok _ _ _ _ hw hw2 _).mono ?_; rintro e w' ⟨rfl, hb⟩; replace H := H.call hb; clear hb))
  go_ret
  exact ⟨rfl, H.below⟩
set_option maxRecDepth 100000 in
set_option maxHeartbeats 4000000 in
theorem pin_xy (x y m t x2 y2 m2 t2 : Int) (hq1 : qOk (m, t) = true) (hq2 : qOk (m2, t2) = true) (w : World) (hR : Gv w 1 none8) :
    Calls Tryd.prog 108 #[.agg #[.int .i64 x, .int .i64 y, .int .i64 m, .int .i64 t], .agg #[.int .i64 x2, .int .i64 y2, .int .i64 m2, .int .i64 t2]] w fun e w' => e = .returned (.bool (rIn (x, y) (x2, y2) && in9 (m, t) (m2, t2))) ∧ Below w.heap.size w w' := by
  have i0 := idx0
  have i1 := idx1
  have hA := fun w (h : Gv w 1 none8) => inR_xy x y x2 y2 w h
  have hB := fun w => inQ_xy m t m2 t2 w hq1 hq2
  clear hq1 hq2
  generalize rIn (x, y) (x2, y2) = p1 at *
  generalize in9 (m, t) (m2, t2) = p2 at *
  obtain ⟨W, hW, H⟩ : ∃ W, W = (w.alloc (.cells #[.int .i64 x, .int .i64 y, .int .i64 m, .int .i64 t] 98)).alloc (.cells #[.int .i64 x2, .int .i64 y2, .int .i64 m2, .int .i64 t2] 98) ∧ Hd w [(w.heap.size + 1, 0, .int .i64 x2), (w.heap.size + 1, 1, .int .i64 y2), (w.heap.size + 1, 2, .int .i64 m2), (w.heap.size + 1, 3, .int .i64 t2), (w.heap.size, 0, .int .i64 x), (w.heap.size, 1, .int .i64 y), (w.heap.size, 2, .int .i64 m), (w.heap.size, 3, .int .i64 t)] W := ⟨_, rfl, by
    have h := (((Hd.start w).box4 (.int .i64 x) (.int .i64 y) (.int .i64 m) (.int .i64 t) 98).box4 (.int .i64 x2) (.int .i64 y2) (.int .i64 m2) (.int .i64 t2) 98)
    simp only [size_alloc1] at h
    exact h⟩
  go_enter Tryd.func108, Tryd.ntmps108
  go_wp2_with fail
  rw [← hW]
  clear hW
  have c0 := H.get (b := w.heap.size) (o := 0) (v := .int .i64 x) (by simp)
  have c1 := H.get (b := w.heap.size) (o := 1) (v := .int .i64 y) (by simp)
  have c2 := H.get (b := w.heap.size) (o := 2) (v := .int .i64 m) (by simp)
  have c3 := H.get (b := w.heap.size) (o := 3) (v := .int .i64 t) (by simp)
  have c4 := H.get (b := w.heap.size + 1) (o := 0) (v := .int .i64 x2) (by simp)
  have c5 := H.get (b := w.heap.size + 1) (o := 1) (v := .int .i64 y2) (by simp)
  have c6 := H.get (b := w.heap.size + 1) (o := 2) (v := .int .i64 m2) (by simp)
  have c7 := H.get (b := w.heap.size + 1) (o := 3) (v := .int .i64 t2) (by simp)
  go_wp2_with fail
  refine (each_xy _ _ _ _ _).mono ?_
  rintro e w1 ⟨rfl, hb⟩
  replace H := H.call hb
  clear hb c0 c1 c2 c3 c4 c5 c6 c7
  have l0 := H.lt (b := w.heap.size) (o := 0) (v := .int .i64 x) (by simp)
  have c0 := H.get (b := w.heap.size) (o := 0) (v := .int .i64 x) (by simp)
  have c1 := H.get (b := w.heap.size) (o := 1) (v := .int .i64 y) (by simp)
  have c2 := H.get (b := w.heap.size) (o := 2) (v := .int .i64 m) (by simp)
  have c3 := H.get (b := w.heap.size) (o := 3) (v := .int .i64 t) (by simp)
  go_wp2_with fail
  have H2 := (H.box (.iface 24 (.agg #[.int .i64 x2, .int .i64 y2])) (.iface 26 (.agg #[.int .i64 m2, .int .i64 t2])) 152)
  refine (each_xy _ _ _ _ _).mono ?_
  rintro e w2 ⟨rfl, hb⟩
  replace H2 := H2.call hb
  clear hb c0 c1 c2 c3 l0
  have hR2 := Gv.below hR H2.below
  have hs : w.heap.size ≤ w1.heap.size := H.below.size
  clear H hR
  generalize hg : w1.heap.size = g at *
  clear hg
  have H : Hd w [(g, 0, .iface 24 (.agg #[.int .i64 x2, .int .i64 y2])), (g, 1, .iface 26 (.agg #[.int .i64 m2, .int .i64 t2]))] w2 := H2.weak (by simp)
  clear H2
  go_wp2_with fail
  go_loopw [12] (fun a wr => (a = .int .i64 0 ∨ (a = .int .i64 1 ∧ p1 = true) ∨ (a = .int .i64 2 ∧ p1 = true ∧ p2 = true)) ∧ Gv wr 1 none8 ∧ Hd w [(g, 0, .iface 24 (.agg #[.int .i64 x2, .int .i64 y2])), (g, 1, .iface 26 (.agg #[.int .i64 m2, .int .i64 t2]))] wr) (fun a _ => (2 - intOf a).toNat)
  case atStart => exact ⟨.inl rfl, hR2, H⟩
  case round =>
    obtain ⟨hrel, hR, H⟩ := hrel
    rcases hrel with rfl | ⟨rfl, rfl⟩ | ⟨rfl, rfl, rfl⟩
    · cases p1
      all_goals
        go_wp2_with fail
        have k0 := fun p : Over _ => H.over (b := g) (o := 0) (v := .iface 24 (.agg #[.int .i64 x2, .int .i64 y2])) (by simp) p
        have k1 := fun p : Over _ => H.over (b := g) (o := 1) (v := .iface 26 (.agg #[.int .i64 m2, .int .i64 t2])) (by simp) p
        refine wp_region_over (by kernel_rfl) (by kernel_rfl) ?_
        repeat (go_big_quiet_step (fail))
        quiet_step ((rw [nilR (by kernel_rfl)]; exact ⟨rfl, rfl⟩))
        repeat (go_big_quiet_step (fail))
        quiet_step ((rw [methInR (by kernel_rfl)]; go_simp; (first | (go_at_call 236) | skip); rename_i p; refine (hA _ (hR.over p)).mono ?_; rintro e' w' ⟨rfl, hb1⟩; exact ⟨rfl, p.next hb1⟩))
        repeat (go_big_quiet_step (fail))
        refine wpQuiet_nil ?_
        rintro _ ⟨p, rfl⟩
        replace H := H.call p.below
        replace hR := hR.over p
        clear k0 k1
        generalize p.w = w3 at *
        clear p
        go_wp2
        first
          | (go_ret; exact ⟨rfl, H.below⟩)
          | (go_roundw
             case rel => exact ⟨.inr (.inl (by simp)), hR, H⟩
             case measure => simp [intOf])
    · cases p2
      all_goals
        go_wp2_with fail
        have k0 := fun p : Over _ => H.over (b := g) (o := 0) (v := .iface 24 (.agg #[.int .i64 x2, .int .i64 y2])) (by simp) p
        have k1 := fun p : Over _ => H.over (b := g) (o := 1) (v := .iface 26 (.agg #[.int .i64 m2, .int .i64 t2])) (by simp) p
        refine wp_region_over (by kernel_rfl) (by kernel_rfl) ?_
        repeat (go_big_quiet_step (fail))
        quiet_step ((rw [nilQ (by kernel_rfl)]; exact ⟨rfl, rfl⟩))
        repeat (go_big_quiet_step (fail))
        quiet_step ((rw [methInQ (by kernel_rfl)]; go_simp; (first | (go_at_call 237) | skip); rename_i p; refine (hB _).mono ?_; rintro e' w' ⟨rfl, hb1⟩; exact ⟨rfl, p.next hb1⟩))
        repeat (go_big_quiet_step (fail))
        refine wpQuiet_nil ?_
        rintro _ ⟨p, rfl⟩
        replace H := H.call p.below
        replace hR := hR.over p
        clear k0 k1
        generalize p.w = w3 at *
        clear p
        go_wp2
        first
          | (go_ret; exact ⟨rfl, H.below⟩)
          | (go_roundw
             case rel => exact ⟨.inr (.inr (by simp)), hR, H⟩
             case measure => simp [intOf])
    · go_wp2_with fail
      go_ret
      exact ⟨rfl, H.below⟩
end Go.Proofs.YthbbgkpkijlclaaDoor.num
namespace Go.Proofs.YthbbgkpkijlclaaDoor.num
open Go.ChangeShapes Go.WideShapes Go.ChangeAt Go.RowKit
set_option linter.unusedVariables false

theorem make10_eq0 {x y t : Int} (k : rSome (x, y) = true) (h2 : qOk (0, t) = true) : make10 (x, y) (0, t) = if x ≤ t ∧ t ≤ y then (t, t, 0, t) else none10 := by
  obtain ⟨h, n⟩ := (rSome_iff _).1 k
  have hx := ok_some h (by simp [n])
  simp only at hx
  unfold make10
  rw [if_neg (by simp [h, h2, n]), if_pos rfl]
  by_cases c : x ≤ t ∧ t ≤ y
  · rw [if_pos c, if_pos ((rHas_iff _ _).2 (by simp only; omega))]
  · rw [if_neg c, if_neg (fun hh => c (by have := (rHas_iff _ _).1 hh; simp only at this; omega))]
theorem make10_eq1 {x y m t : Int} (k : rSome (x, y) = true) (h2 : qOk (m, t) = true) (z : ¬ m = 0) :
    make10 (x, y) (m, t) = if y < x + (t - x) % m then none10 else if x + (t - x) % m = y - (y - t) % m then (x + (t - x) % m, x + (t - x) % m, 0, x + (t - x) % m) else (x + (t - x) % m, y - (y - t) % m, m, t) := by
  obtain ⟨h, n⟩ := (rSome_iff _).1 k
  have hq := (qOk_iff _).1 h2
  simp only at hq
  obtain ⟨l1, l2, l3⟩ := lo10_is (a := (x, y)) (b := (m, t)) (show (0 : Int) < m by omega)
  obtain ⟨g1, g2, g3⟩ := hi10_is (a := (x, y)) (b := (m, t)) (show (0 : Int) < m by omega)
  have e1 : lo10 (x, y) (m, t) = x + (t - x) % m := rfl
  have e2 : hi10 (x, y) (m, t) = y - (y - t) % m := rfl
  unfold make10
  rw [if_neg (by simp [h, h2, n]), if_neg z, ← e1, ← e2]
  generalize lo10 (x, y) (m, t) = lo at *
  generalize hi10 (x, y) (m, t) = hi at *
  simp only at *
  by_cases c : y < lo
  · rw [if_pos c, if_pos (by omega)]
  · have := g3 lo (by omega) l2
    rw [if_neg c, if_neg (by omega)]
theorem hasQ_zero (t : Int) : hasQ 0 t t = true := by unfold hasQ; rw [make9_zero]; simp
theorem hasQ_lo {m t v : Int} (h : qOk (m, t) = true) (z : ¬ m = 0) (hv : m ∣ v - t) : hasQ m t v = true := by
  have hq := (qOk_iff _).1 h
  simp only at hq
  have e : make9 m v = (m, v % m) := by unfold make9; rw [small9_id (by omega), if_neg z]
  unfold hasQ
  rw [e]
  have := (emod_is (a := v) (b := t) (m := m) (by omega) (by omega)).2 hv
  simp [this]
set_option maxRecDepth 100000 in
set_option maxHeartbeats 4000000 in
theorem iMake_bad (x y m t : Int) (hb : rSome (x, y) = false ∨ qOk (m, t) = false) (w : World) (hN : Gn w) (hR : Gv w 1 none8) :
    Calls Tryd.prog 22 #[.agg #[.int .i64 x, .int .i64 y], .agg #[.int .i64 m, .int .i64 t]] w fun e w' => e = .returned (.agg #[.int .i64 (make10 (x, y) (m, t)).1, .int .i64 (make10 (x, y) (m, t)).2.1, .int .i64 (make10 (x, y) (m, t)).2.2.1, .int .i64 (make10 (x, y) (m, t)).2.2.2]) ∧ Below w.heap.size w w' := by
  have e : make10 (x, y) (m, t) = none10 := by
    unfold make10
    rw [if_pos]
    rcases hb with h | h
    · by_cases h1 : rOk (x, y) = true
      · have : isN (x, y) = true := by
          rw [← Bool.not_eq_false]
          intro hh
          rw [(rSome_iff _).2 ⟨h1, hh⟩] at h
          cases h
        exact .inr (.inr this)
      · exact .inl (by simpa using h1)
    · exact .inr (.inl h)
  rw [e]
  clear e
  cases k : rSome (x, y)
  · clear hb
    obtain ⟨W, hW, H⟩ : ∃ W, W = ((w.alloc (.cells #[.int .i64 x, .int .i64 y] 24)).alloc (.cells #[.int .i64 m, .int .i64 t] 26)).alloc (.cells #[.int .i64 0, .int .i64 0, .int .i64 0, .int .i64 0] 30) ∧ Hd w [(w.heap.size + 2, 0, .int .i64 0), (w.heap.size + 2, 1, .int .i64 0), (w.heap.size + 2, 2, .int .i64 0), (w.heap.size + 2, 3, .int .i64 0), (w.heap.size + 1, 0, .int .i64 m), (w.heap.size + 1, 1, .int .i64 t), (w.heap.size, 0, .int .i64 x), (w.heap.size, 1, .int .i64 y)] W := ⟨_, rfl, by
      have h := ((((Hd.start w).box (.int .i64 x) (.int .i64 y) 24).box (.int .i64 m) (.int .i64 t) 26).box4 (.int .i64 0) (.int .i64 0) (.int .i64 0) (.int .i64 0) 30)
      simp only [size_alloc1] at h
      exact h⟩
    go_enter Tryd.func22, Tryd.ntmps22
    go_wp2_with fail
    rw [← hW]
    clear hW
    have c0 := H.get (b := w.heap.size) (o := 0) (v := .int .i64 x) (by simp)
    have c1 := H.get (b := w.heap.size) (o := 1) (v := .int .i64 y) (by simp)
    have c2 := H.get (b := w.heap.size + 1) (o := 0) (v := .int .i64 m) (by simp)
    have c3 := H.get (b := w.heap.size + 1) (o := 1) (v := .int .i64 t) (by simp)
    have c4 := H.get (b := w.heap.size + 2) (o := 0) (v := .int .i64 0) (by simp)
    have c5 := H.get (b := w.heap.size + 2) (o := 1) (v := .int .i64 0) (by simp)
    have c6 := H.get (b := w.heap.size + 2) (o := 2) (v := .int .i64 0) (by simp)
    have c7 := H.get (b := w.heap.size + 2) (o := 3) (v := .int .i64 0) (by simp)
    have z0 := H.fz (b := w.heap.size + 2) (o := 0) (v := .int .i64 0) (by simp)
    have z1 := H.fz (b := w.heap.size + 2) (o := 1) (v := .int .i64 0) (by simp)
    have z2 := H.fz (b := w.heap.size + 2) (o := 2) (v := .int .i64 0) (by simp)
    have z3 := H.fz (b := w.heap.size + 2) (o := 3) (v := .int .i64 0) (by simp)
    obtain ⟨gs, n0, n1, n2, n3⟩ := Gn.all (hN.below H.below)
    go_wp2_with (first | (go_at_call 85; refine (some_xy _ _ _ (hR.below H.below)).mono ?_; rintro e w' ⟨rfl, hb⟩; (first | rw [k] | skip); replace H := H.call hb; clear hb; have c0 := H.get (b := w.heap.size) (o := 0) (v := .int .i64 x) (by simp); have c1 := H.get (b := w.heap.size) (o := 1) (v := .int .i64 y) (by simp); have c2 := H.get (b := w.heap.size + 1) (o := 0) (v := .int .i64 m) (by simp); have c3 := H.get (b := w.heap.size + 1) (o := 1) (v := .int .i64 t) (by simp); have c4 := H.get (b := w.heap.size + 2) (o := 0) (v := .int .i64 0) (by simp); have c5 := H.get (b := w.heap.size + 2) (o := 1) (v := .int .i64 0) (by simp); have c6 := H.get (b := w.heap.size + 2) (o := 2) (v := .int .i64 0) (by simp); have c7 := H.get (b := w.heap.size + 2) (o := 3) (v := .int .i64 0) (by simp); have z0 := H.fz (b := w.heap.size + 2) (o := 0) (v := .int .i64 0) (by simp); have z1 := H.fz (b := w.heap.size + 2) (o := 1) (v := .int .i64 0) (by simp); have z2 := H.fz (b := w.heap.size + 2) (o := 2) (v := .int .i64 0) (by simp); have z3 := H.fz (b := w.heap.size + 2) (o := 3) (v := .int .i64 0) (by simp); obtain ⟨gs, n0, n1, n2, n3⟩ := Gn.all (hN.below H.below)) | (go_at_call 77; refine (iRestOk_xy _ _ _).mono ?_; rintro e w' ⟨rfl, hb⟩; (first | rw [h2] | skip); replace H := H.call hb; clear hb; have c0 := H.get (b := w.heap.size) (o := 0) (v := .int .i64 x) (by simp); have c1 := H.get (b := w.heap.size) (o := 1) (v := .int .i64 y) (by simp); have c2 := H.get (b := w.heap.size + 1) (o := 0) (v := .int .i64 m) (by simp); have c3 := H.get (b := w.heap.size + 1) (o := 1) (v := .int .i64 t) (by simp); have c4 := H.get (b := w.heap.size + 2) (o := 0) (v := .int .i64 0) (by simp); have c5 := H.get (b := w.heap.size + 2) (o := 1) (v := .int .i64 0) (by simp); have c6 := H.get (b := w.heap.size + 2) (o := 2) (v := .int .i64 0) (by simp); have c7 := H.get (b := w.heap.size + 2) (o := 3) (v := .int .i64 0) (by simp); have z0 := H.fz (b := w.heap.size + 2) (o := 0) (v := .int .i64 0) (by simp); have z1 := H.fz (b := w.heap.size + 2) (o := 1) (v := .int .i64 0) (by simp); have z2 := H.fz (b := w.heap.size + 2) (o := 2) (v := .int .i64 0) (by simp); have z3 := H.fz (b := w.heap.size + 2) (o := 3) (v := .int .i64 0) (by simp); obtain ⟨gs, n0, n1, n2, n3⟩ := Gn.all (hN.below H.below)))
    obtain ⟨f0, f1, f2, f3, fb⟩ := H.fill4 (b := w.heap.size + 2) (x := .int .i64 0) (y := .int .i64 0) (z := .int .i64 0) (u := .int .i64 0) (by simp) (by simp) (by simp) (by simp) (by omega) (.int .i64 1) (.int .i64 0) (.int .i64 0) (.int .i64 0)
    refine bodyPost_ret (results_four rfl _ _ (w.heap.size + 2) (.int .i64 1) (.int .i64 0) (.int .i64 0) (.int .i64 0) _ rfl f0 f1 f2 f3 Tryd.underlying30 rfl (by kernel_rfl)) rfl ?_
    exact ⟨rfl, fb⟩
  · have h2 : qOk (m, t) = false := by rw [k] at hb; simpa using hb
    clear hb
    obtain ⟨W, hW, H⟩ : ∃ W, W = ((w.alloc (.cells #[.int .i64 x, .int .i64 y] 24)).alloc (.cells #[.int .i64 m, .int .i64 t] 26)).alloc (.cells #[.int .i64 0, .int .i64 0, .int .i64 0, .int .i64 0] 30) ∧ Hd w [(w.heap.size + 2, 0, .int .i64 0), (w.heap.size + 2, 1, .int .i64 0), (w.heap.size + 2, 2, .int .i64 0), (w.heap.size + 2, 3, .int .i64 0), (w.heap.size + 1, 0, .int .i64 m), (w.heap.size + 1, 1, .int .i64 t), (w.heap.size, 0, .int .i64 x), (w.heap.size, 1, .int .i64 y)] W := ⟨_, rfl, by
      have h := ((((Hd.start w).box (.int .i64 x) (.int .i64 y) 24).box (.int .i64 m) (.int .i64 t) 26).box4 (.int .i64 0) (.int .i64 0) (.int .i64 0) (.int .i64 0) 30)
      simp only [size_alloc1] at h
      exact h⟩
    go_enter Tryd.func22, Tryd.ntmps22
    go_wp2_with fail
    rw [← hW]
    clear hW
    have c0 := H.get (b := w.heap.size) (o := 0) (v := .int .i64 x) (by simp)
    have c1 := H.get (b := w.heap.size) (o := 1) (v := .int .i64 y) (by simp)
    have c2 := H.get (b := w.heap.size + 1) (o := 0) (v := .int .i64 m) (by simp)
    have c3 := H.get (b := w.heap.size + 1) (o := 1) (v := .int .i64 t) (by simp)
    have c4 := H.get (b := w.heap.size + 2) (o := 0) (v := .int .i64 0) (by simp)
    have c5 := H.get (b := w.heap.size + 2) (o := 1) (v := .int .i64 0) (by simp)
    have c6 := H.get (b := w.heap.size + 2) (o := 2) (v := .int .i64 0) (by simp)
    have c7 := H.get (b := w.heap.size + 2) (o := 3) (v := .int .i64 0) (by simp)
    have z0 := H.fz (b := w.heap.size + 2) (o := 0) (v := .int .i64 0) (by simp)
    have z1 := H.fz (b := w.heap.size + 2) (o := 1) (v := .int .i64 0) (by simp)
    have z2 := H.fz (b := w.heap.size + 2) (o := 2) (v := .int .i64 0) (by simp)
    have z3 := H.fz (b := w.heap.size + 2) (o := 3) (v := .int .i64 0) (by simp)
    obtain ⟨gs, n0, n1, n2, n3⟩ := Gn.all (hN.below H.below)
    go_wp2_with (first | (go_at_call 85; refine (some_xy _ _ _ (hR.below H.below)).mono ?_; rintro e w' ⟨rfl, hb⟩; (first | rw [k] | skip); replace H := H.call hb; clear hb; have c0 := H.get (b := w.heap.size) (o := 0) (v := .int .i64 x) (by simp); have c1 := H.get (b := w.heap.size) (o := 1) (v := .int .i64 y) (by simp); have c2 := H.get (b := w.heap.size + 1) (o := 0) (v := .int .i64 m) (by simp); have c3 := H.get (b := w.heap.size + 1) (o := 1) (v := .int .i64 t) (by simp); have c4 := H.get (b := w.heap.size + 2) (o := 0) (v := .int .i64 0) (by simp); have c5 := H.get (b := w.heap.size + 2) (o := 1) (v := .int .i64 0) (by simp); have c6 := H.get (b := w.heap.size + 2) (o := 2) (v := .int .i64 0) (by simp); have c7 := H.get (b := w.heap.size + 2) (o := 3) (v := .int .i64 0) (by simp); have z0 := H.fz (b := w.heap.size + 2) (o := 0) (v := .int .i64 0) (by simp); have z1 := H.fz (b := w.heap.size + 2) (o := 1) (v := .int .i64 0) (by simp); have z2 := H.fz (b := w.heap.size + 2) (o := 2) (v := .int .i64 0) (by simp); have z3 := H.fz (b := w.heap.size + 2) (o := 3) (v := .int .i64 0) (by simp); obtain ⟨gs, n0, n1, n2, n3⟩ := Gn.all (hN.below H.below)) | (go_at_call 77; refine (iRestOk_xy _ _ _).mono ?_; rintro e w' ⟨rfl, hb⟩; (first | rw [h2] | skip); replace H := H.call hb; clear hb; have c0 := H.get (b := w.heap.size) (o := 0) (v := .int .i64 x) (by simp); have c1 := H.get (b := w.heap.size) (o := 1) (v := .int .i64 y) (by simp); have c2 := H.get (b := w.heap.size + 1) (o := 0) (v := .int .i64 m) (by simp); have c3 := H.get (b := w.heap.size + 1) (o := 1) (v := .int .i64 t) (by simp); have c4 := H.get (b := w.heap.size + 2) (o := 0) (v := .int .i64 0) (by simp); have c5 := H.get (b := w.heap.size + 2) (o := 1) (v := .int .i64 0) (by simp); have c6 := H.get (b := w.heap.size + 2) (o := 2) (v := .int .i64 0) (by simp); have c7 := H.get (b := w.heap.size + 2) (o := 3) (v := .int .i64 0) (by simp); have z0 := H.fz (b := w.heap.size + 2) (o := 0) (v := .int .i64 0) (by simp); have z1 := H.fz (b := w.heap.size + 2) (o := 1) (v := .int .i64 0) (by simp); have z2 := H.fz (b := w.heap.size + 2) (o := 2) (v := .int .i64 0) (by simp); have z3 := H.fz (b := w.heap.size + 2) (o := 3) (v := .int .i64 0) (by simp); obtain ⟨gs, n0, n1, n2, n3⟩ := Gn.all (hN.below H.below)))
    obtain ⟨f0, f1, f2, f3, fb⟩ := H.fill4 (b := w.heap.size + 2) (x := .int .i64 0) (y := .int .i64 0) (z := .int .i64 0) (u := .int .i64 0) (by simp) (by simp) (by simp) (by simp) (by omega) (.int .i64 1) (.int .i64 0) (.int .i64 0) (.int .i64 0)
    refine bodyPost_ret (results_four rfl _ _ (w.heap.size + 2) (.int .i64 1) (.int .i64 0) (.int .i64 0) (.int .i64 0) _ rfl f0 f1 f2 f3 Tryd.underlying30 rfl (by kernel_rfl)) rfl ?_
    exact ⟨rfl, fb⟩
end Go.Proofs.YthbbgkpkijlclaaDoor.num
namespace Go.Proofs.YthbbgkpkijlclaaDoor.num
open Go.ChangeShapes Go.WideShapes Go.ChangeAt Go.RowKit
set_option linter.unusedVariables false

set_option maxRecDepth 100000 in
set_option maxHeartbeats 4000000 in
theorem iMake_zero (x y t : Int) (k : rSome (x, y) = true) (h2 : qOk (0, t) = true) (w : World) (hN : Gn w) (hR : Gv w 1 none8) :
    Calls Tryd.prog 22 #[.agg #[.int .i64 x, .int .i64 y], .agg #[.int .i64 0, .int .i64 t]] w fun e w' => e = .returned (.agg #[.int .i64 (make10 (x, y) (0, t)).1, .int .i64 (make10 (x, y) (0, t)).2.1, .int .i64 (make10 (x, y) (0, t)).2.2.1, .int .i64 (make10 (x, y) (0, t)).2.2.2]) ∧ Below w.heap.size w w' := by
  rw [make10_eq0 k h2]
  have hm9 : (0 : Int) ≤ 0 ∧ (0 : Int) ≤ 65536 := by omega
  by_cases c : x ≤ t ∧ t ≤ y
  · rw [if_pos c]
    have hh : ((decide (x ≤ t) && decide (t ≤ y)) && hasQ 0 t t) = true := by rw [hasQ_zero]; simp [c]
    clear c
    obtain ⟨W, hW, H⟩ : ∃ W, W = ((w.alloc (.cells #[.int .i64 x, .int .i64 y] 24)).alloc (.cells #[.int .i64 0, .int .i64 t] 26)).alloc (.cells #[.int .i64 0, .int .i64 0, .int .i64 0, .int .i64 0] 30) ∧ Hd w [(w.heap.size + 2, 0, .int .i64 0), (w.heap.size + 2, 1, .int .i64 0), (w.heap.size + 2, 2, .int .i64 0), (w.heap.size + 2, 3, .int .i64 0), (w.heap.size + 1, 0, .int .i64 0), (w.heap.size + 1, 1, .int .i64 t), (w.heap.size, 0, .int .i64 x), (w.heap.size, 1, .int .i64 y)] W := ⟨_, rfl, by
      have h := ((((Hd.start w).box (.int .i64 x) (.int .i64 y) 24).box (.int .i64 0) (.int .i64 t) 26).box4 (.int .i64 0) (.int .i64 0) (.int .i64 0) (.int .i64 0) 30)
      simp only [size_alloc1] at h
      exact h⟩
    go_enter Tryd.func22, Tryd.ntmps22
    go_wp2_with fail
    rw [← hW]
    clear hW
    have c0 := H.get (b := w.heap.size) (o := 0) (v := .int .i64 x) (by simp)
    have c1 := H.get (b := w.heap.size) (o := 1) (v := .int .i64 y) (by simp)
    have c2 := H.get (b := w.heap.size + 1) (o := 0) (v := .int .i64 0) (by simp)
    have c3 := H.get (b := w.heap.size + 1) (o := 1) (v := .int .i64 t) (by simp)
    have c4 := H.get (b := w.heap.size + 2) (o := 0) (v := .int .i64 0) (by simp)
    have c5 := H.get (b := w.heap.size + 2) (o := 1) (v := .int .i64 0) (by simp)
    have c6 := H.get (b := w.heap.size + 2) (o := 2) (v := .int .i64 0) (by simp)
    have c7 := H.get (b := w.heap.size + 2) (o := 3) (v := .int .i64 0) (by simp)
    have z0 := H.fz (b := w.heap.size + 2) (o := 0) (v := .int .i64 0) (by simp)
    have z1 := H.fz (b := w.heap.size + 2) (o := 1) (v := .int .i64 0) (by simp)
    have z2 := H.fz (b := w.heap.size + 2) (o := 2) (v := .int .i64 0) (by simp)
    have z3 := H.fz (b := w.heap.size + 2) (o := 3) (v := .int .i64 0) (by simp)
    obtain ⟨gs, n0, n1, n2, n3⟩ := Gn.all (hN.below H.below)
    go_wp2_with (first | (go_at_call 85; refine (some_xy _ _ _ (hR.below H.below)).mono ?_; rintro e w' ⟨rfl, hb⟩; (first | rw [k] | skip); replace H := H.call hb; clear hb; have c0 := H.get (b := w.heap.size) (o := 0) (v := .int .i64 x) (by simp); have c1 := H.get (b := w.heap.size) (o := 1) (v := .int .i64 y) (by simp); have c2 := H.get (b := w.heap.size + 1) (o := 0) (v := .int .i64 0) (by simp); have c3 := H.get (b := w.heap.size + 1) (o := 1) (v := .int .i64 t) (by simp); have c4 := H.get (b := w.heap.size + 2) (o := 0) (v := .int .i64 0) (by simp); have c5 := H.get (b := w.heap.size + 2) (o := 1) (v := .int .i64 0) (by simp); have c6 := H.get (b := w.heap.size + 2) (o := 2) (v := .int .i64 0) (by simp); have c7 := H.get (b := w.heap.size + 2) (o := 3) (v := .int .i64 0) (by simp); have z0 := H.fz (b := w.heap.size + 2) (o := 0) (v := .int .i64 0) (by simp); have z1 := H.fz (b := w.heap.size + 2) (o := 1) (v := .int .i64 0) (by simp); have z2 := H.fz (b := w.heap.size + 2) (o := 2) (v := .int .i64 0) (by simp); have z3 := H.fz (b := w.heap.size + 2) (o := 3) (v := .int .i64 0) (by simp); obtain ⟨gs, n0, n1, n2, n3⟩ := Gn.all (hN.below H.below)) | (go_at_call 77; refine (iRestOk_xy _ _ _).mono ?_; rintro e w' ⟨rfl, hb⟩; (first | rw [h2] | skip); replace H := H.call hb; clear hb; have c0 := H.get (b := w.heap.size) (o := 0) (v := .int .i64 x) (by simp); have c1 := H.get (b := w.heap.size) (o := 1) (v := .int .i64 y) (by simp); have c2 := H.get (b := w.heap.size + 1) (o := 0) (v := .int .i64 0) (by simp); have c3 := H.get (b := w.heap.size + 1) (o := 1) (v := .int .i64 t) (by simp); have c4 := H.get (b := w.heap.size + 2) (o := 0) (v := .int .i64 0) (by simp); have c5 := H.get (b := w.heap.size + 2) (o := 1) (v := .int .i64 0) (by simp); have c6 := H.get (b := w.heap.size + 2) (o := 2) (v := .int .i64 0) (by simp); have c7 := H.get (b := w.heap.size + 2) (o := 3) (v := .int .i64 0) (by simp); have z0 := H.fz (b := w.heap.size + 2) (o := 0) (v := .int .i64 0) (by simp); have z1 := H.fz (b := w.heap.size + 2) (o := 1) (v := .int .i64 0) (by simp); have z2 := H.fz (b := w.heap.size + 2) (o := 2) (v := .int .i64 0) (by simp); have z3 := H.fz (b := w.heap.size + 2) (o := 3) (v := .int .i64 0) (by simp); obtain ⟨gs, n0, n1, n2, n3⟩ := Gn.all (hN.below H.below)))
    have H2 := H.box4 (.int .i64 x) (.int .i64 y) (.int .i64 0) (.int .i64 t) 98
    have hlt := H.lt (b := w.heap.size + 2) (o := 0) (v := .int .i64 0) (by simp)
    generalize w'.alloc (.cells #[.int .i64 x, .int .i64 y, .int .i64 0, .int .i64 t] 98) = W2 at *
    generalize w'.heap.size = gp at *
    clear H c0 c1 c2 c3 c4 c5 c6 c7 z0 z1 z2 z3 gs n0 n1 n2 n3
    have H := H2
    clear H2
    have k0 := fun p : Over _ => H.over (b := gp) (o := 0) (v := .int .i64 x) (by simp) p
    have k1 := fun p : Over _ => H.over (b := gp) (o := 1) (v := .int .i64 y) (by simp) p
    have k2 := fun p : Over _ => H.over (b := gp) (o := 2) (v := .int .i64 0) (by simp) p
    have k3 := fun p : Over _ => H.over (b := gp) (o := 3) (v := .int .i64 t) (by simp) p
    refine wp_region_over (by kernel_rfl) (by kernel_rfl) ?_
    repeat (go_big_quiet_step (first | (go_at_call 86; rename_i p; refine (from_zero _ _ _).mono ?_; rintro e' w' ⟨rfl, hb1⟩; exact ⟨rfl, p.next hb1⟩) | (go_at_call 87; rename_i p; refine (upTo_zero _ _ _).mono ?_; rintro e' w' ⟨rfl, hb1⟩; exact ⟨rfl, p.next hb1⟩)))
    refine wpQuiet_nil ?_
    rintro _ ⟨p, rfl⟩
    replace H := H.call p.below
    clear k0 k1 k2 k3
    generalize p.w = w3 at *
    clear p
    have c0 := H.get (b := gp) (o := 0) (v := .int .i64 x) (by simp)
    have c1 := H.get (b := gp) (o := 1) (v := .int .i64 y) (by simp)
    have c2 := H.get (b := gp) (o := 2) (v := .int .i64 0) (by simp)
    have c3 := H.get (b := gp) (o := 3) (v := .int .i64 t) (by simp)
    have r0 := H.get (b := w.heap.size + 2) (o := 0) (v := .int .i64 0) (by simp)
    have r1 := H.get (b := w.heap.size + 2) (o := 1) (v := .int .i64 0) (by simp)
    have r2 := H.get (b := w.heap.size + 2) (o := 2) (v := .int .i64 0) (by simp)
    have r3 := H.get (b := w.heap.size + 2) (o := 3) (v := .int .i64 0) (by simp)
    have z0 := H.fz (b := w.heap.size + 2) (o := 0) (v := .int .i64 0) (by simp)
    have z1 := H.fz (b := w.heap.size + 2) (o := 1) (v := .int .i64 0) (by simp)
    have z2 := H.fz (b := w.heap.size + 2) (o := 2) (v := .int .i64 0) (by simp)
    have z3 := H.fz (b := w.heap.size + 2) (o := 3) (v := .int .i64 0) (by simp)
    obtain ⟨gs, n0, n1, n2, n3⟩ := Gn.all (hN.below H.below)
    go_wp2_with (first | (go_at_call 88; refine (phas_xy _ _ _ _ _ hm9 _).mono ?_; rintro e w' ⟨rfl, hb⟩; rw [hh]; replace H := H.call hb; clear hb; have c0 := H.get (b := gp) (o := 0) (v := .int .i64 x) (by simp); have c1 := H.get (b := gp) (o := 1) (v := .int .i64 y) (by simp); have c2 := H.get (b := gp) (o := 2) (v := .int .i64 0) (by simp); have c3 := H.get (b := gp) (o := 3) (v := .int .i64 t) (by simp); have r0 := H.get (b := w.heap.size + 2) (o := 0) (v := .int .i64 0) (by simp); have r1 := H.get (b := w.heap.size + 2) (o := 1) (v := .int .i64 0) (by simp); have r2 := H.get (b := w.heap.size + 2) (o := 2) (v := .int .i64 0) (by simp); have r3 := H.get (b := w.heap.size + 2) (o := 3) (v := .int .i64 0) (by simp); have z0 := H.fz (b := w.heap.size + 2) (o := 0) (v := .int .i64 0) (by simp); have z1 := H.fz (b := w.heap.size + 2) (o := 1) (v := .int .i64 0) (by simp); have z2 := H.fz (b := w.heap.size + 2) (o := 2) (v := .int .i64 0) (by simp); have z3 := H.fz (b := w.heap.size + 2) (o := 3) (v := .int .i64 0) (by simp); obtain ⟨gs, n0, n1, n2, n3⟩ := Gn.all (hN.below H.below)))
    obtain ⟨f0, f1, f2, f3, fb⟩ := H.fill4 (b := w.heap.size + 2) (x := .int .i64 0) (y := .int .i64 0) (z := .int .i64 0) (u := .int .i64 0) (by simp) (by simp) (by simp) (by simp) (by omega) (.int .i64 t) (.int .i64 t) (.int .i64 0) (.int .i64 t)
    refine bodyPost_ret (results_four rfl _ _ (w.heap.size + 2) (.int .i64 t) (.int .i64 t) (.int .i64 0) (.int .i64 t) _ rfl f0 f1 f2 f3 Tryd.underlying30 rfl (by kernel_rfl)) rfl ?_
    exact ⟨rfl, fb⟩
  · rw [if_neg c]
    have hh : ((decide (x ≤ t) && decide (t ≤ y)) && hasQ 0 t t) = false := by rw [hasQ_zero, Bool.and_true, Bool.and_eq_false_iff]; simp; omega
    clear c
    obtain ⟨W, hW, H⟩ : ∃ W, W = ((w.alloc (.cells #[.int .i64 x, .int .i64 y] 24)).alloc (.cells #[.int .i64 0, .int .i64 t] 26)).alloc (.cells #[.int .i64 0, .int .i64 0, .int .i64 0, .int .i64 0] 30) ∧ Hd w [(w.heap.size + 2, 0, .int .i64 0), (w.heap.size + 2, 1, .int .i64 0), (w.heap.size + 2, 2, .int .i64 0), (w.heap.size + 2, 3, .int .i64 0), (w.heap.size + 1, 0, .int .i64 0), (w.heap.size + 1, 1, .int .i64 t), (w.heap.size, 0, .int .i64 x), (w.heap.size, 1, .int .i64 y)] W := ⟨_, rfl, by
      have h := ((((Hd.start w).box (.int .i64 x) (.int .i64 y) 24).box (.int .i64 0) (.int .i64 t) 26).box4 (.int .i64 0) (.int .i64 0) (.int .i64 0) (.int .i64 0) 30)
      simp only [size_alloc1] at h
      exact h⟩
    go_enter Tryd.func22, Tryd.ntmps22
    go_wp2_with fail
    rw [← hW]
    clear hW
    have c0 := H.get (b := w.heap.size) (o := 0) (v := .int .i64 x) (by simp)
    have c1 := H.get (b := w.heap.size) (o := 1) (v := .int .i64 y) (by simp)
    have c2 := H.get (b := w.heap.size + 1) (o := 0) (v := .int .i64 0) (by simp)
    have c3 := H.get (b := w.heap.size + 1) (o := 1) (v := .int .i64 t) (by simp)
    have c4 := H.get (b := w.heap.size + 2) (o := 0) (v := .int .i64 0) (by simp)
    have c5 := H.get (b := w.heap.size + 2) (o := 1) (v := .int .i64 0) (by simp)
    have c6 := H.get (b := w.heap.size + 2) (o := 2) (v := .int .i64 0) (by simp)
    have c7 := H.get (b := w.heap.size + 2) (o := 3) (v := .int .i64 0) (by simp)
    have z0 := H.fz (b := w.heap.size + 2) (o := 0) (v := .int .i64 0) (by simp)
    have z1 := H.fz (b := w.heap.size + 2) (o := 1) (v := .int .i64 0) (by simp)
    have z2 := H.fz (b := w.heap.size + 2) (o := 2) (v := .int .i64 0) (by simp)
    have z3 := H.fz (b := w.heap.size + 2) (o := 3) (v := .int .i64 0) (by simp)
    obtain ⟨gs, n0, n1, n2, n3⟩ := Gn.all (hN.below H.below)
    go_wp2_with (first | (go_at_call 85; refine (some_xy _ _ _ (hR.below H.below)).mono ?_; rintro e w' ⟨rfl, hb⟩; (first | rw [k] | skip); replace H := H.call hb; clear hb; have c0 := H.get (b := w.heap.size) (o := 0) (v := .int .i64 x) (by simp); have c1 := H.get (b := w.heap.size) (o := 1) (v := .int .i64 y) (by simp); have c2 := H.get (b := w.heap.size + 1) (o := 0) (v := .int .i64 0) (by simp); have c3 := H.get (b := w.heap.size + 1) (o := 1) (v := .int .i64 t) (by simp); have c4 := H.get (b := w.heap.size + 2) (o := 0) (v := .int .i64 0) (by simp); have c5 := H.get (b := w.heap.size + 2) (o := 1) (v := .int .i64 0) (by simp); have c6 := H.get (b := w.heap.size + 2) (o := 2) (v := .int .i64 0) (by simp); have c7 := H.get (b := w.heap.size + 2) (o := 3) (v := .int .i64 0) (by simp); have z0 := H.fz (b := w.heap.size + 2) (o := 0) (v := .int .i64 0) (by simp); have z1 := H.fz (b := w.heap.size + 2) (o := 1) (v := .int .i64 0) (by simp); have z2 := H.fz (b := w.heap.size + 2) (o := 2) (v := .int .i64 0) (by simp); have z3 := H.fz (b := w.heap.size + 2) (o := 3) (v := .int .i64 0) (by simp); obtain ⟨gs, n0, n1, n2, n3⟩ := Gn.all (hN.below H.below)) | (go_at_call 77; refine (iRestOk_xy _ _ _).mono ?_; rintro e w' ⟨rfl, hb⟩; (first | rw [h2] | skip); replace H := H.call hb; clear hb; have c0 := H.get (b := w.heap.size) (o := 0) (v := .int .i64 x) (by simp); have c1 := H.get (b := w.heap.size) (o := 1) (v := .int .i64 y) (by simp); have c2 := H.get (b := w.heap.size + 1) (o := 0) (v := .int .i64 0) (by simp); have c3 := H.get (b := w.heap.size + 1) (o := 1) (v := .int .i64 t) (by simp); have c4 := H.get (b := w.heap.size + 2) (o := 0) (v := .int .i64 0) (by simp); have c5 := H.get (b := w.heap.size + 2) (o := 1) (v := .int .i64 0) (by simp); have c6 := H.get (b := w.heap.size + 2) (o := 2) (v := .int .i64 0) (by simp); have c7 := H.get (b := w.heap.size + 2) (o := 3) (v := .int .i64 0) (by simp); have z0 := H.fz (b := w.heap.size + 2) (o := 0) (v := .int .i64 0) (by simp); have z1 := H.fz (b := w.heap.size + 2) (o := 1) (v := .int .i64 0) (by simp); have z2 := H.fz (b := w.heap.size + 2) (o := 2) (v := .int .i64 0) (by simp); have z3 := H.fz (b := w.heap.size + 2) (o := 3) (v := .int .i64 0) (by simp); obtain ⟨gs, n0, n1, n2, n3⟩ := Gn.all (hN.below H.below)))
    have H2 := H.box4 (.int .i64 x) (.int .i64 y) (.int .i64 0) (.int .i64 t) 98
    have hlt := H.lt (b := w.heap.size + 2) (o := 0) (v := .int .i64 0) (by simp)
    generalize w'.alloc (.cells #[.int .i64 x, .int .i64 y, .int .i64 0, .int .i64 t] 98) = W2 at *
    generalize w'.heap.size = gp at *
    clear H c0 c1 c2 c3 c4 c5 c6 c7 z0 z1 z2 z3 gs n0 n1 n2 n3
    have H := H2
    clear H2
    have k0 := fun p : Over _ => H.over (b := gp) (o := 0) (v := .int .i64 x) (by simp) p
    have k1 := fun p : Over _ => H.over (b := gp) (o := 1) (v := .int .i64 y) (by simp) p
    have k2 := fun p : Over _ => H.over (b := gp) (o := 2) (v := .int .i64 0) (by simp) p
    have k3 := fun p : Over _ => H.over (b := gp) (o := 3) (v := .int .i64 t) (by simp) p
    refine wp_region_over (by kernel_rfl) (by kernel_rfl) ?_
    repeat (go_big_quiet_step (first | (go_at_call 86; rename_i p; refine (from_zero _ _ _).mono ?_; rintro e' w' ⟨rfl, hb1⟩; exact ⟨rfl, p.next hb1⟩) | (go_at_call 87; rename_i p; refine (upTo_zero _ _ _).mono ?_; rintro e' w' ⟨rfl, hb1⟩; exact ⟨rfl, p.next hb1⟩)))
    refine wpQuiet_nil ?_
    rintro _ ⟨p, rfl⟩
    replace H := H.call p.below
    clear k0 k1 k2 k3
    generalize p.w = w3 at *
    clear p
    have c0 := H.get (b := gp) (o := 0) (v := .int .i64 x) (by simp)
    have c1 := H.get (b := gp) (o := 1) (v := .int .i64 y) (by simp)
    have c2 := H.get (b := gp) (o := 2) (v := .int .i64 0) (by simp)
    have c3 := H.get (b := gp) (o := 3) (v := .int .i64 t) (by simp)
    have r0 := H.get (b := w.heap.size + 2) (o := 0) (v := .int .i64 0) (by simp)
    have r1 := H.get (b := w.heap.size + 2) (o := 1) (v := .int .i64 0) (by simp)
    have r2 := H.get (b := w.heap.size + 2) (o := 2) (v := .int .i64 0) (by simp)
    have r3 := H.get (b := w.heap.size + 2) (o := 3) (v := .int .i64 0) (by simp)
    have z0 := H.fz (b := w.heap.size + 2) (o := 0) (v := .int .i64 0) (by simp)
    have z1 := H.fz (b := w.heap.size + 2) (o := 1) (v := .int .i64 0) (by simp)
    have z2 := H.fz (b := w.heap.size + 2) (o := 2) (v := .int .i64 0) (by simp)
    have z3 := H.fz (b := w.heap.size + 2) (o := 3) (v := .int .i64 0) (by simp)
    obtain ⟨gs, n0, n1, n2, n3⟩ := Gn.all (hN.below H.below)
    go_wp2_with (first | (go_at_call 88; refine (phas_xy _ _ _ _ _ hm9 _).mono ?_; rintro e w' ⟨rfl, hb⟩; rw [hh]; replace H := H.call hb; clear hb; have c0 := H.get (b := gp) (o := 0) (v := .int .i64 x) (by simp); have c1 := H.get (b := gp) (o := 1) (v := .int .i64 y) (by simp); have c2 := H.get (b := gp) (o := 2) (v := .int .i64 0) (by simp); have c3 := H.get (b := gp) (o := 3) (v := .int .i64 t) (by simp); have r0 := H.get (b := w.heap.size + 2) (o := 0) (v := .int .i64 0) (by simp); have r1 := H.get (b := w.heap.size + 2) (o := 1) (v := .int .i64 0) (by simp); have r2 := H.get (b := w.heap.size + 2) (o := 2) (v := .int .i64 0) (by simp); have r3 := H.get (b := w.heap.size + 2) (o := 3) (v := .int .i64 0) (by simp); have z0 := H.fz (b := w.heap.size + 2) (o := 0) (v := .int .i64 0) (by simp); have z1 := H.fz (b := w.heap.size + 2) (o := 1) (v := .int .i64 0) (by simp); have z2 := H.fz (b := w.heap.size + 2) (o := 2) (v := .int .i64 0) (by simp); have z3 := H.fz (b := w.heap.size + 2) (o := 3) (v := .int .i64 0) (by simp); obtain ⟨gs, n0, n1, n2, n3⟩ := Gn.all (hN.below H.below)))
    obtain ⟨f0, f1, f2, f3, fb⟩ := H.fill4 (b := w.heap.size + 2) (x := .int .i64 0) (y := .int .i64 0) (z := .int .i64 0) (u := .int .i64 0) (by simp) (by simp) (by simp) (by simp) (by omega) (.int .i64 1) (.int .i64 0) (.int .i64 0) (.int .i64 0)
    refine bodyPost_ret (results_four rfl _ _ (w.heap.size + 2) (.int .i64 1) (.int .i64 0) (.int .i64 0) (.int .i64 0) _ rfl f0 f1 f2 f3 Tryd.underlying30 rfl (by kernel_rfl)) rfl ?_
    exact ⟨rfl, fb⟩
end Go.Proofs.YthbbgkpkijlclaaDoor.num
namespace Go.Proofs.YthbbgkpkijlclaaDoor.num
open Go.ChangeShapes Go.WideShapes Go.ChangeAt Go.RowKit
set_option linter.unusedVariables false

set_option maxRecDepth 100000 in
set_option maxHeartbeats 4000000 in
theorem iMake_no (x y m t : Int) (k : rSome (x, y) = true) (h2 : qOk (m, t) = true) (z : ¬ m = 0) (lo hi : Int) (hlo : x + (t - x) % m = lo) (hhi : y - (y - t) % m = hi) (q : y < lo) (w : World) (hN : Gn w) (hR : Gv w 1 none8) :
    Calls Tryd.prog 22 #[.agg #[.int .i64 x, .int .i64 y], .agg #[.int .i64 m, .int .i64 t]] w fun e w' => e = .returned (.agg #[.int .i64 (make10 (x, y) (m, t)).1, .int .i64 (make10 (x, y) (m, t)).2.1, .int .i64 (make10 (x, y) (m, t)).2.2.1, .int .i64 (make10 (x, y) (m, t)).2.2.2]) ∧ Below w.heap.size w w' := by
  obtain ⟨ho, hn⟩ := (rSome_iff _).1 k
  have hx := ok_some ho (by simp [hn])
  have hq := (qOk_iff _).1 h2
  simp only at hx hq
  have hm9 : 0 ≤ m ∧ m ≤ 65536 := by omega
  have m0 : 0 < m := by omega
  have m1 : m ≤ 65536 := hm9.2
  have ht : -2147483648 ≤ t ∧ t ≤ 2147483647 := by omega
  have hxb : -2147483648 ≤ x ∧ x ≤ 2147483647 := by omega
  have hyb : -2147483648 ≤ y ∧ y ≤ 2147483647 := by omega
  obtain ⟨l1, l2, l3⟩ := lo10_is (a := (x, y)) (b := (m, t)) m0
  have e1 : lo10 (x, y) (m, t) = lo := hlo
  rw [e1] at l1 l2
  simp only at l1 l2
  have hh : ((decide (x ≤ lo) && decide (lo ≤ y)) && hasQ m t lo) = false := by
    rw [hasQ_lo h2 z l2, Bool.and_true]
    rw [Bool.and_eq_false_iff]; simp; omega
  have hF := fun w => from_some m t x m0 m1 ht hxb w
  have hT := fun w => upTo_some m t y m0 m1 ht hyb w
  rw [make10_eq1 k h2 z, hlo, hhi]
  rw [hlo] at hF
  rw [hhi] at hT
  rw [if_pos q]
  clear hlo hhi e1 l1 l2 l3 hx hq ht hxb hyb ho hn
  obtain ⟨W, hW, H⟩ : ∃ W, W = ((w.alloc (.cells #[.int .i64 x, .int .i64 y] 24)).alloc (.cells #[.int .i64 m, .int .i64 t] 26)).alloc (.cells #[.int .i64 0, .int .i64 0, .int .i64 0, .int .i64 0] 30) ∧ Hd w [(w.heap.size + 2, 0, .int .i64 0), (w.heap.size + 2, 1, .int .i64 0), (w.heap.size + 2, 2, .int .i64 0), (w.heap.size + 2, 3, .int .i64 0), (w.heap.size + 1, 0, .int .i64 m), (w.heap.size + 1, 1, .int .i64 t), (w.heap.size, 0, .int .i64 x), (w.heap.size, 1, .int .i64 y)] W := ⟨_, rfl, by
    have h := ((((Hd.start w).box (.int .i64 x) (.int .i64 y) 24).box (.int .i64 m) (.int .i64 t) 26).box4 (.int .i64 0) (.int .i64 0) (.int .i64 0) (.int .i64 0) 30)
    simp only [size_alloc1] at h
    exact h⟩
  go_enter Tryd.func22, Tryd.ntmps22
  go_wp2_with fail
  rw [← hW]
  clear hW
  have c0 := H.get (b := w.heap.size) (o := 0) (v := .int .i64 x) (by simp)
  have c1 := H.get (b := w.heap.size) (o := 1) (v := .int .i64 y) (by simp)
  have c2 := H.get (b := w.heap.size + 1) (o := 0) (v := .int .i64 m) (by simp)
  have c3 := H.get (b := w.heap.size + 1) (o := 1) (v := .int .i64 t) (by simp)
  have c4 := H.get (b := w.heap.size + 2) (o := 0) (v := .int .i64 0) (by simp)
  have c5 := H.get (b := w.heap.size + 2) (o := 1) (v := .int .i64 0) (by simp)
  have c6 := H.get (b := w.heap.size + 2) (o := 2) (v := .int .i64 0) (by simp)
  have c7 := H.get (b := w.heap.size + 2) (o := 3) (v := .int .i64 0) (by simp)
  have z0 := H.fz (b := w.heap.size + 2) (o := 0) (v := .int .i64 0) (by simp)
  have z1 := H.fz (b := w.heap.size + 2) (o := 1) (v := .int .i64 0) (by simp)
  have z2 := H.fz (b := w.heap.size + 2) (o := 2) (v := .int .i64 0) (by simp)
  have z3 := H.fz (b := w.heap.size + 2) (o := 3) (v := .int .i64 0) (by simp)
  obtain ⟨gs, n0, n1, n2, n3⟩ := Gn.all (hN.below H.below)
  go_wp2_with (first | (go_at_call 85; refine (some_xy _ _ _ (hR.below H.below)).mono ?_; rintro e w' ⟨rfl, hb⟩; (first | rw [k] | skip); replace H := H.call hb; clear hb; have c0 := H.get (b := w.heap.size) (o := 0) (v := .int .i64 x) (by simp); have c1 := H.get (b := w.heap.size) (o := 1) (v := .int .i64 y) (by simp); have c2 := H.get (b := w.heap.size + 1) (o := 0) (v := .int .i64 m) (by simp); have c3 := H.get (b := w.heap.size + 1) (o := 1) (v := .int .i64 t) (by simp); have c4 := H.get (b := w.heap.size + 2) (o := 0) (v := .int .i64 0) (by simp); have c5 := H.get (b := w.heap.size + 2) (o := 1) (v := .int .i64 0) (by simp); have c6 := H.get (b := w.heap.size + 2) (o := 2) (v := .int .i64 0) (by simp); have c7 := H.get (b := w.heap.size + 2) (o := 3) (v := .int .i64 0) (by simp); have z0 := H.fz (b := w.heap.size + 2) (o := 0) (v := .int .i64 0) (by simp); have z1 := H.fz (b := w.heap.size + 2) (o := 1) (v := .int .i64 0) (by simp); have z2 := H.fz (b := w.heap.size + 2) (o := 2) (v := .int .i64 0) (by simp); have z3 := H.fz (b := w.heap.size + 2) (o := 3) (v := .int .i64 0) (by simp); obtain ⟨gs, n0, n1, n2, n3⟩ := Gn.all (hN.below H.below)) | (go_at_call 77; refine (iRestOk_xy _ _ _).mono ?_; rintro e w' ⟨rfl, hb⟩; (first | rw [h2] | skip); replace H := H.call hb; clear hb; have c0 := H.get (b := w.heap.size) (o := 0) (v := .int .i64 x) (by simp); have c1 := H.get (b := w.heap.size) (o := 1) (v := .int .i64 y) (by simp); have c2 := H.get (b := w.heap.size + 1) (o := 0) (v := .int .i64 m) (by simp); have c3 := H.get (b := w.heap.size + 1) (o := 1) (v := .int .i64 t) (by simp); have c4 := H.get (b := w.heap.size + 2) (o := 0) (v := .int .i64 0) (by simp); have c5 := H.get (b := w.heap.size + 2) (o := 1) (v := .int .i64 0) (by simp); have c6 := H.get (b := w.heap.size + 2) (o := 2) (v := .int .i64 0) (by simp); have c7 := H.get (b := w.heap.size + 2) (o := 3) (v := .int .i64 0) (by simp); have z0 := H.fz (b := w.heap.size + 2) (o := 0) (v := .int .i64 0) (by simp); have z1 := H.fz (b := w.heap.size + 2) (o := 1) (v := .int .i64 0) (by simp); have z2 := H.fz (b := w.heap.size + 2) (o := 2) (v := .int .i64 0) (by simp); have z3 := H.fz (b := w.heap.size + 2) (o := 3) (v := .int .i64 0) (by simp); obtain ⟨gs, n0, n1, n2, n3⟩ := Gn.all (hN.below H.below)))
  have H2 := H.box4 (.int .i64 x) (.int .i64 y) (.int .i64 m) (.int .i64 t) 98
  have hlt := H.lt (b := w.heap.size + 2) (o := 0) (v := .int .i64 0) (by simp)
  generalize w'.alloc (.cells #[.int .i64 x, .int .i64 y, .int .i64 m, .int .i64 t] 98) = W2 at *
  generalize w'.heap.size = gp at *
  clear H c0 c1 c2 c3 c4 c5 c6 c7 z0 z1 z2 z3 gs n0 n1 n2 n3
  have H := H2
  clear H2
  have k0 := fun p : Over _ => H.over (b := gp) (o := 0) (v := .int .i64 x) (by simp) p
  have k1 := fun p : Over _ => H.over (b := gp) (o := 1) (v := .int .i64 y) (by simp) p
  have k2 := fun p : Over _ => H.over (b := gp) (o := 2) (v := .int .i64 m) (by simp) p
  have k3 := fun p : Over _ => H.over (b := gp) (o := 3) (v := .int .i64 t) (by simp) p
  refine wp_region_over (by kernel_rfl) (by kernel_rfl) ?_
  repeat (go_big_quiet_step (first | (go_at_call 86; rename_i p; refine (hF _).mono ?_; rintro e' w' ⟨rfl, hb1⟩; exact ⟨rfl, p.next hb1⟩) | (go_at_call 87; rename_i p; refine (hT _).mono ?_; rintro e' w' ⟨rfl, hb1⟩; exact ⟨rfl, p.next hb1⟩)))
  refine wpQuiet_nil ?_
  rintro _ ⟨p, rfl⟩
  replace H := H.call p.below
  clear k0 k1 k2 k3
  generalize p.w = w3 at *
  clear p
  have c0 := H.get (b := gp) (o := 0) (v := .int .i64 x) (by simp)
  have c1 := H.get (b := gp) (o := 1) (v := .int .i64 y) (by simp)
  have c2 := H.get (b := gp) (o := 2) (v := .int .i64 m) (by simp)
  have c3 := H.get (b := gp) (o := 3) (v := .int .i64 t) (by simp)
  have r0 := H.get (b := w.heap.size + 2) (o := 0) (v := .int .i64 0) (by simp)
  have r1 := H.get (b := w.heap.size + 2) (o := 1) (v := .int .i64 0) (by simp)
  have r2 := H.get (b := w.heap.size + 2) (o := 2) (v := .int .i64 0) (by simp)
  have r3 := H.get (b := w.heap.size + 2) (o := 3) (v := .int .i64 0) (by simp)
  have z0 := H.fz (b := w.heap.size + 2) (o := 0) (v := .int .i64 0) (by simp)
  have z1 := H.fz (b := w.heap.size + 2) (o := 1) (v := .int .i64 0) (by simp)
  have z2 := H.fz (b := w.heap.size + 2) (o := 2) (v := .int .i64 0) (by simp)
  have z3 := H.fz (b := w.heap.size + 2) (o := 3) (v := .int .i64 0) (by simp)
  obtain ⟨gs, n0, n1, n2, n3⟩ := Gn.all (hN.below H.below)
  go_wp2_with (first | (go_at_call 88; refine (phas_xy _ _ _ _ _ hm9 _).mono ?_; rintro e w' ⟨rfl, hb⟩; rw [hh]; replace H := H.call hb; clear hb; have c0 := H.get (b := gp) (o := 0) (v := .int .i64 x) (by simp); have c1 := H.get (b := gp) (o := 1) (v := .int .i64 y) (by simp); have c2 := H.get (b := gp) (o := 2) (v := .int .i64 m) (by simp); have c3 := H.get (b := gp) (o := 3) (v := .int .i64 t) (by simp); have r0 := H.get (b := w.heap.size + 2) (o := 0) (v := .int .i64 0) (by simp); have r1 := H.get (b := w.heap.size + 2) (o := 1) (v := .int .i64 0) (by simp); have r2 := H.get (b := w.heap.size + 2) (o := 2) (v := .int .i64 0) (by simp); have r3 := H.get (b := w.heap.size + 2) (o := 3) (v := .int .i64 0) (by simp); have z0 := H.fz (b := w.heap.size + 2) (o := 0) (v := .int .i64 0) (by simp); have z1 := H.fz (b := w.heap.size + 2) (o := 1) (v := .int .i64 0) (by simp); have z2 := H.fz (b := w.heap.size + 2) (o := 2) (v := .int .i64 0) (by simp); have z3 := H.fz (b := w.heap.size + 2) (o := 3) (v := .int .i64 0) (by simp); obtain ⟨gs, n0, n1, n2, n3⟩ := Gn.all (hN.below H.below)))
  obtain ⟨f0, f1, f2, f3, fb⟩ := H.fill4 (b := w.heap.size + 2) (x := .int .i64 0) (y := .int .i64 0) (z := .int .i64 0) (u := .int .i64 0) (by simp) (by simp) (by simp) (by simp) (by omega) (.int .i64 1) (.int .i64 0) (.int .i64 0) (.int .i64 0)
  refine bodyPost_ret (results_four rfl _ _ (w.heap.size + 2) (.int .i64 1) (.int .i64 0) (.int .i64 0) (.int .i64 0) _ rfl f0 f1 f2 f3 Tryd.underlying30 rfl (by kernel_rfl)) rfl ?_
  exact ⟨rfl, fb⟩
end Go.Proofs.YthbbgkpkijlclaaDoor.num
namespace Go.Proofs.YthbbgkpkijlclaaDoor.num
open Go.ChangeShapes Go.WideShapes Go.ChangeAt Go.RowKit
set_option linter.unusedVariables false

set_option maxRecDepth 100000 in
set_option maxHeartbeats 4000000 in
theorem iMake_one (x y m t : Int) (k : rSome (x, y) = true) (h2 : qOk (m, t) = true) (z : ¬ m = 0) (lo hi : Int) (hlo : x + (t - x) % m = lo) (hhi : y - (y - t) % m = hi) (q : ¬ y < lo ∧ lo = hi) (w : World) (hN : Gn w) (hR : Gv w 1 none8) :
    Calls Tryd.prog 22 #[.agg #[.int .i64 x, .int .i64 y], .agg #[.int .i64 m, .int .i64 t]] w fun e w' => e = .returned (.agg #[.int .i64 (make10 (x, y) (m, t)).1, .int .i64 (make10 (x, y) (m, t)).2.1, .int .i64 (make10 (x, y) (m, t)).2.2.1, .int .i64 (make10 (x, y) (m, t)).2.2.2]) ∧ Below w.heap.size w w' := by
  obtain ⟨ho, hn⟩ := (rSome_iff _).1 k
  have hx := ok_some ho (by simp [hn])
  have hq := (qOk_iff _).1 h2
  simp only at hx hq
  have hm9 : 0 ≤ m ∧ m ≤ 65536 := by omega
  have m0 : 0 < m := by omega
  have m1 : m ≤ 65536 := hm9.2
  have ht : -2147483648 ≤ t ∧ t ≤ 2147483647 := by omega
  have hxb : -2147483648 ≤ x ∧ x ≤ 2147483647 := by omega
  have hyb : -2147483648 ≤ y ∧ y ≤ 2147483647 := by omega
  obtain ⟨l1, l2, l3⟩ := lo10_is (a := (x, y)) (b := (m, t)) m0
  have e1 : lo10 (x, y) (m, t) = lo := hlo
  rw [e1] at l1 l2
  simp only at l1 l2
  have hh : ((decide (x ≤ lo) && decide (lo ≤ y)) && hasQ m t lo) = true := by
    rw [hasQ_lo h2 z l2, Bool.and_true]
    rw [Bool.and_eq_true]; simp; omega
  have hF := fun w => from_some m t x m0 m1 ht hxb w
  have hT := fun w => upTo_some m t y m0 m1 ht hyb w
  rw [make10_eq1 k h2 z, hlo, hhi]
  rw [hlo] at hF
  rw [hhi] at hT
  rw [if_neg q.1, if_pos q.2]
  obtain ⟨q0, q⟩ := q
  subst q
  clear hlo hhi e1 l1 l2 l3 hx hq ht hxb hyb ho hn
  obtain ⟨W, hW, H⟩ : ∃ W, W = ((w.alloc (.cells #[.int .i64 x, .int .i64 y] 24)).alloc (.cells #[.int .i64 m, .int .i64 t] 26)).alloc (.cells #[.int .i64 0, .int .i64 0, .int .i64 0, .int .i64 0] 30) ∧ Hd w [(w.heap.size + 2, 0, .int .i64 0), (w.heap.size + 2, 1, .int .i64 0), (w.heap.size + 2, 2, .int .i64 0), (w.heap.size + 2, 3, .int .i64 0), (w.heap.size + 1, 0, .int .i64 m), (w.heap.size + 1, 1, .int .i64 t), (w.heap.size, 0, .int .i64 x), (w.heap.size, 1, .int .i64 y)] W := ⟨_, rfl, by
    have h := ((((Hd.start w).box (.int .i64 x) (.int .i64 y) 24).box (.int .i64 m) (.int .i64 t) 26).box4 (.int .i64 0) (.int .i64 0) (.int .i64 0) (.int .i64 0) 30)
    simp only [size_alloc1] at h
    exact h⟩
  go_enter Tryd.func22, Tryd.ntmps22
  go_wp2_with fail
  rw [← hW]
  clear hW
  have c0 := H.get (b := w.heap.size) (o := 0) (v := .int .i64 x) (by simp)
  have c1 := H.get (b := w.heap.size) (o := 1) (v := .int .i64 y) (by simp)
  have c2 := H.get (b := w.heap.size + 1) (o := 0) (v := .int .i64 m) (by simp)
  have c3 := H.get (b := w.heap.size + 1) (o := 1) (v := .int .i64 t) (by simp)
  have c4 := H.get (b := w.heap.size + 2) (o := 0) (v := .int .i64 0) (by simp)
  have c5 := H.get (b := w.heap.size + 2) (o := 1) (v := .int .i64 0) (by simp)
  have c6 := H.get (b := w.heap.size + 2) (o := 2) (v := .int .i64 0) (by simp)
  have c7 := H.get (b := w.heap.size + 2) (o := 3) (v := .int .i64 0) (by simp)
  have z0 := H.fz (b := w.heap.size + 2) (o := 0) (v := .int .i64 0) (by simp)
  have z1 := H.fz (b := w.heap.size + 2) (o := 1) (v := .int .i64 0) (by simp)
  have z2 := H.fz (b := w.heap.size + 2) (o := 2) (v := .int .i64 0) (by simp)
  have z3 := H.fz (b := w.heap.size + 2) (o := 3) (v := .int .i64 0) (by simp)
  obtain ⟨gs, n0, n1, n2, n3⟩ := Gn.all (hN.below H.below)
  go_wp2_with (first | (go_at_call 85; refine (some_xy _ _ _ (hR.below H.below)).mono ?_; rintro e w' ⟨rfl, hb⟩; (first | rw [k] | skip); replace H := H.call hb; clear hb; have c0 := H.get (b := w.heap.size) (o := 0) (v := .int .i64 x) (by simp); have c1 := H.get (b := w.heap.size) (o := 1) (v := .int .i64 y) (by simp); have c2 := H.get (b := w.heap.size + 1) (o := 0) (v := .int .i64 m) (by simp); have c3 := H.get (b := w.heap.size + 1) (o := 1) (v := .int .i64 t) (by simp); have c4 := H.get (b := w.heap.size + 2) (o := 0) (v := .int .i64 0) (by simp); have c5 := H.get (b := w.heap.size + 2) (o := 1) (v := .int .i64 0) (by simp); have c6 := H.get (b := w.heap.size + 2) (o := 2) (v := .int .i64 0) (by simp); have c7 := H.get (b := w.heap.size + 2) (o := 3) (v := .int .i64 0) (by simp); have z0 := H.fz (b := w.heap.size + 2) (o := 0) (v := .int .i64 0) (by simp); have z1 := H.fz (b := w.heap.size + 2) (o := 1) (v := .int .i64 0) (by simp); have z2 := H.fz (b := w.heap.size + 2) (o := 2) (v := .int .i64 0) (by simp); have z3 := H.fz (b := w.heap.size + 2) (o := 3) (v := .int .i64 0) (by simp); obtain ⟨gs, n0, n1, n2, n3⟩ := Gn.all (hN.below H.below)) | (go_at_call 77; refine (iRestOk_xy _ _ _).mono ?_; rintro e w' ⟨rfl, hb⟩; (first | rw [h2] | skip); replace H := H.call hb; clear hb; have c0 := H.get (b := w.heap.size) (o := 0) (v := .int .i64 x) (by simp); have c1 := H.get (b := w.heap.size) (o := 1) (v := .int .i64 y) (by simp); have c2 := H.get (b := w.heap.size + 1) (o := 0) (v := .int .i64 m) (by simp); have c3 := H.get (b := w.heap.size + 1) (o := 1) (v := .int .i64 t) (by simp); have c4 := H.get (b := w.heap.size + 2) (o := 0) (v := .int .i64 0) (by simp); have c5 := H.get (b := w.heap.size + 2) (o := 1) (v := .int .i64 0) (by simp); have c6 := H.get (b := w.heap.size + 2) (o := 2) (v := .int .i64 0) (by simp); have c7 := H.get (b := w.heap.size + 2) (o := 3) (v := .int .i64 0) (by simp); have z0 := H.fz (b := w.heap.size + 2) (o := 0) (v := .int .i64 0) (by simp); have z1 := H.fz (b := w.heap.size + 2) (o := 1) (v := .int .i64 0) (by simp); have z2 := H.fz (b := w.heap.size + 2) (o := 2) (v := .int .i64 0) (by simp); have z3 := H.fz (b := w.heap.size + 2) (o := 3) (v := .int .i64 0) (by simp); obtain ⟨gs, n0, n1, n2, n3⟩ := Gn.all (hN.below H.below)))
  have H2 := H.box4 (.int .i64 x) (.int .i64 y) (.int .i64 m) (.int .i64 t) 98
  have hlt := H.lt (b := w.heap.size + 2) (o := 0) (v := .int .i64 0) (by simp)
  generalize w'.alloc (.cells #[.int .i64 x, .int .i64 y, .int .i64 m, .int .i64 t] 98) = W2 at *
  generalize w'.heap.size = gp at *
  clear H c0 c1 c2 c3 c4 c5 c6 c7 z0 z1 z2 z3 gs n0 n1 n2 n3
  have H := H2
  clear H2
  have k0 := fun p : Over _ => H.over (b := gp) (o := 0) (v := .int .i64 x) (by simp) p
  have k1 := fun p : Over _ => H.over (b := gp) (o := 1) (v := .int .i64 y) (by simp) p
  have k2 := fun p : Over _ => H.over (b := gp) (o := 2) (v := .int .i64 m) (by simp) p
  have k3 := fun p : Over _ => H.over (b := gp) (o := 3) (v := .int .i64 t) (by simp) p
  refine wp_region_over (by kernel_rfl) (by kernel_rfl) ?_
  repeat (go_big_quiet_step (first | (go_at_call 86; rename_i p; refine (hF _).mono ?_; rintro e' w' ⟨rfl, hb1⟩; exact ⟨rfl, p.next hb1⟩) | (go_at_call 87; rename_i p; refine (hT _).mono ?_; rintro e' w' ⟨rfl, hb1⟩; exact ⟨rfl, p.next hb1⟩)))
  refine wpQuiet_nil ?_
  rintro _ ⟨p, rfl⟩
  replace H := H.call p.below
  clear k0 k1 k2 k3
  generalize p.w = w3 at *
  clear p
  have c0 := H.get (b := gp) (o := 0) (v := .int .i64 x) (by simp)
  have c1 := H.get (b := gp) (o := 1) (v := .int .i64 y) (by simp)
  have c2 := H.get (b := gp) (o := 2) (v := .int .i64 m) (by simp)
  have c3 := H.get (b := gp) (o := 3) (v := .int .i64 t) (by simp)
  have r0 := H.get (b := w.heap.size + 2) (o := 0) (v := .int .i64 0) (by simp)
  have r1 := H.get (b := w.heap.size + 2) (o := 1) (v := .int .i64 0) (by simp)
  have r2 := H.get (b := w.heap.size + 2) (o := 2) (v := .int .i64 0) (by simp)
  have r3 := H.get (b := w.heap.size + 2) (o := 3) (v := .int .i64 0) (by simp)
  have z0 := H.fz (b := w.heap.size + 2) (o := 0) (v := .int .i64 0) (by simp)
  have z1 := H.fz (b := w.heap.size + 2) (o := 1) (v := .int .i64 0) (by simp)
  have z2 := H.fz (b := w.heap.size + 2) (o := 2) (v := .int .i64 0) (by simp)
  have z3 := H.fz (b := w.heap.size + 2) (o := 3) (v := .int .i64 0) (by simp)
  obtain ⟨gs, n0, n1, n2, n3⟩ := Gn.all (hN.below H.below)
  go_wp2_with (first | (go_at_call 88; refine (phas_xy _ _ _ _ _ hm9 _).mono ?_; rintro e w' ⟨rfl, hb⟩; rw [hh]; replace H := H.call hb; clear hb; have c0 := H.get (b := gp) (o := 0) (v := .int .i64 x) (by simp); have c1 := H.get (b := gp) (o := 1) (v := .int .i64 y) (by simp); have c2 := H.get (b := gp) (o := 2) (v := .int .i64 m) (by simp); have c3 := H.get (b := gp) (o := 3) (v := .int .i64 t) (by simp); have r0 := H.get (b := w.heap.size + 2) (o := 0) (v := .int .i64 0) (by simp); have r1 := H.get (b := w.heap.size + 2) (o := 1) (v := .int .i64 0) (by simp); have r2 := H.get (b := w.heap.size + 2) (o := 2) (v := .int .i64 0) (by simp); have r3 := H.get (b := w.heap.size + 2) (o := 3) (v := .int .i64 0) (by simp); have z0 := H.fz (b := w.heap.size + 2) (o := 0) (v := .int .i64 0) (by simp); have z1 := H.fz (b := w.heap.size + 2) (o := 1) (v := .int .i64 0) (by simp); have z2 := H.fz (b := w.heap.size + 2) (o := 2) (v := .int .i64 0) (by simp); have z3 := H.fz (b := w.heap.size + 2) (o := 3) (v := .int .i64 0) (by simp); obtain ⟨gs, n0, n1, n2, n3⟩ := Gn.all (hN.below H.below)))
  obtain ⟨f0, f1, f2, f3, fb⟩ := H.fill4 (b := w.heap.size + 2) (x := .int .i64 0) (y := .int .i64 0) (z := .int .i64 0) (u := .int .i64 0) (by simp) (by simp) (by simp) (by simp) (by omega) (.int .i64 lo) (.int .i64 lo) (.int .i64 0) (.int .i64 lo)
  refine bodyPost_ret (results_four rfl _ _ (w.heap.size + 2) (.int .i64 lo) (.int .i64 lo) (.int .i64 0) (.int .i64 lo) _ rfl f0 f1 f2 f3 Tryd.underlying30 rfl (by kernel_rfl)) rfl ?_
  exact ⟨rfl, fb⟩
end Go.Proofs.YthbbgkpkijlclaaDoor.num
namespace Go.Proofs.YthbbgkpkijlclaaDoor.num
open Go.ChangeShapes Go.WideShapes Go.ChangeAt Go.RowKit
set_option linter.unusedVariables false

set_option maxRecDepth 100000 in
set_option maxHeartbeats 4000000 in
theorem iMake_two (x y m t : Int) (k : rSome (x, y) = true) (h2 : qOk (m, t) = true) (z : ¬ m = 0) (lo hi : Int) (hlo : x + (t - x) % m = lo) (hhi : y - (y - t) % m = hi) (q : ¬ y < lo ∧ ¬ lo = hi) (w : World) (hN : Gn w) (hR : Gv w 1 none8) :
    Calls Tryd.prog 22 #[.agg #[.int .i64 x, .int .i64 y], .agg #[.int .i64 m, .int .i64 t]] w fun e w' => e = .returned (.agg #[.int .i64 (make10 (x, y) (m, t)).1, .int .i64 (make10 (x, y) (m, t)).2.1, .int .i64 (make10 (x, y) (m, t)).2.2.1, .int .i64 (make10 (x, y) (m, t)).2.2.2]) ∧ Below w.heap.size w w' := by
  obtain ⟨ho, hn⟩ := (rSome_iff _).1 k
  have hx := ok_some ho (by simp [hn])
  have hq := (qOk_iff _).1 h2
  simp only at hx hq
  have hm9 : 0 ≤ m ∧ m ≤ 65536 := by omega
  have m0 : 0 < m := by omega
  have m1 : m ≤ 65536 := hm9.2
  have ht : -2147483648 ≤ t ∧ t ≤ 2147483647 := by omega
  have hxb : -2147483648 ≤ x ∧ x ≤ 2147483647 := by omega
  have hyb : -2147483648 ≤ y ∧ y ≤ 2147483647 := by omega
  obtain ⟨l1, l2, l3⟩ := lo10_is (a := (x, y)) (b := (m, t)) m0
  have e1 : lo10 (x, y) (m, t) = lo := hlo
  rw [e1] at l1 l2
  simp only at l1 l2
  have hh : ((decide (x ≤ lo) && decide (lo ≤ y)) && hasQ m t lo) = true := by
    rw [hasQ_lo h2 z l2, Bool.and_true]
    rw [Bool.and_eq_true]; simp; omega
  have hF := fun w => from_some m t x m0 m1 ht hxb w
  have hT := fun w => upTo_some m t y m0 m1 ht hyb w
  rw [make10_eq1 k h2 z, hlo, hhi]
  rw [hlo] at hF
  rw [hhi] at hT
  rw [if_neg q.1, if_neg q.2]
  have q2 := q.2
  have q3 : (lo == hi) = false := by simp [q2]
  clear hlo hhi e1 l1 l2 l3 hx hq ht hxb hyb ho hn
  obtain ⟨W, hW, H⟩ : ∃ W, W = ((w.alloc (.cells #[.int .i64 x, .int .i64 y] 24)).alloc (.cells #[.int .i64 m, .int .i64 t] 26)).alloc (.cells #[.int .i64 0, .int .i64 0, .int .i64 0, .int .i64 0] 30) ∧ Hd w [(w.heap.size + 2, 0, .int .i64 0), (w.heap.size + 2, 1, .int .i64 0), (w.heap.size + 2, 2, .int .i64 0), (w.heap.size + 2, 3, .int .i64 0), (w.heap.size + 1, 0, .int .i64 m), (w.heap.size + 1, 1, .int .i64 t), (w.heap.size, 0, .int .i64 x), (w.heap.size, 1, .int .i64 y)] W := ⟨_, rfl, by
    have h := ((((Hd.start w).box (.int .i64 x) (.int .i64 y) 24).box (.int .i64 m) (.int .i64 t) 26).box4 (.int .i64 0) (.int .i64 0) (.int .i64 0) (.int .i64 0) 30)
    simp only [size_alloc1] at h
    exact h⟩
  go_enter Tryd.func22, Tryd.ntmps22
  go_wp2_with fail
  rw [← hW]
  clear hW
  have c0 := H.get (b := w.heap.size) (o := 0) (v := .int .i64 x) (by simp)
  have c1 := H.get (b := w.heap.size) (o := 1) (v := .int .i64 y) (by simp)
  have c2 := H.get (b := w.heap.size + 1) (o := 0) (v := .int .i64 m) (by simp)
  have c3 := H.get (b := w.heap.size + 1) (o := 1) (v := .int .i64 t) (by simp)
  have c4 := H.get (b := w.heap.size + 2) (o := 0) (v := .int .i64 0) (by simp)
  have c5 := H.get (b := w.heap.size + 2) (o := 1) (v := .int .i64 0) (by simp)
  have c6 := H.get (b := w.heap.size + 2) (o := 2) (v := .int .i64 0) (by simp)
  have c7 := H.get (b := w.heap.size + 2) (o := 3) (v := .int .i64 0) (by simp)
  have z0 := H.fz (b := w.heap.size + 2) (o := 0) (v := .int .i64 0) (by simp)
  have z1 := H.fz (b := w.heap.size + 2) (o := 1) (v := .int .i64 0) (by simp)
  have z2 := H.fz (b := w.heap.size + 2) (o := 2) (v := .int .i64 0) (by simp)
  have z3 := H.fz (b := w.heap.size + 2) (o := 3) (v := .int .i64 0) (by simp)
  obtain ⟨gs, n0, n1, n2, n3⟩ := Gn.all (hN.below H.below)
  go_wp2_with (first | (go_at_call 85; refine (some_xy _ _ _ (hR.below H.below)).mono ?_; rintro e w' ⟨rfl, hb⟩; (first | rw [k] | skip); replace H := H.call hb; clear hb; have c0 := H.get (b := w.heap.size) (o := 0) (v := .int .i64 x) (by simp); have c1 := H.get (b := w.heap.size) (o := 1) (v := .int .i64 y) (by simp); have c2 := H.get (b := w.heap.size + 1) (o := 0) (v := .int .i64 m) (by simp); have c3 := H.get (b := w.heap.size + 1) (o := 1) (v := .int .i64 t) (by simp); have c4 := H.get (b := w.heap.size + 2) (o := 0) (v := .int .i64 0) (by simp); have c5 := H.get (b := w.heap.size + 2) (o := 1) (v := .int .i64 0) (by simp); have c6 := H.get (b := w.heap.size + 2) (o := 2) (v := .int .i64 0) (by simp); have c7 := H.get (b := w.heap.size + 2) (o := 3) (v := .int .i64 0) (by simp); have z0 := H.fz (b := w.heap.size + 2) (o := 0) (v := .int .i64 0) (by simp); have z1 := H.fz (b := w.heap.size + 2) (o := 1) (v := .int .i64 0) (by simp); have z2 := H.fz (b := w.heap.size + 2) (o := 2) (v := .int .i64 0) (by simp); have z3 := H.fz (b := w.heap.size + 2) (o := 3) (v := .int .i64 0) (by simp); obtain ⟨gs, n0, n1, n2, n3⟩ := Gn.all (hN.below H.below)) | (go_at_call 77; refine (iRestOk_xy _ _ _).mono ?_; rintro e w' ⟨rfl, hb⟩; (first | rw [h2] | skip); replace H := H.call hb; clear hb; have c0 := H.get (b := w.heap.size) (o := 0) (v := .int .i64 x) (by simp); have c1 := H.get (b := w.heap.size) (o := 1) (v := .int .i64 y) (by simp); have c2 := H.get (b := w.heap.size + 1) (o := 0) (v := .int .i64 m) (by simp); have c3 := H.get (b := w.heap.size + 1) (o := 1) (v := .int .i64 t) (by simp); have c4 := H.get (b := w.heap.size + 2) (o := 0) (v := .int .i64 0) (by simp); have c5 := H.get (b := w.heap.size + 2) (o := 1) (v := .int .i64 0) (by simp); have c6 := H.get (b := w.heap.size + 2) (o := 2) (v := .int .i64 0) (by simp); have c7 := H.get (b := w.heap.size + 2) (o := 3) (v := .int .i64 0) (by simp); have z0 := H.fz (b := w.heap.size + 2) (o := 0) (v := .int .i64 0) (by simp); have z1 := H.fz (b := w.heap.size + 2) (o := 1) (v := .int .i64 0) (by simp); have z2 := H.fz (b := w.heap.size + 2) (o := 2) (v := .int .i64 0) (by simp); have z3 := H.fz (b := w.heap.size + 2) (o := 3) (v := .int .i64 0) (by simp); obtain ⟨gs, n0, n1, n2, n3⟩ := Gn.all (hN.below H.below)))
  have H2 := H.box4 (.int .i64 x) (.int .i64 y) (.int .i64 m) (.int .i64 t) 98
  have hlt := H.lt (b := w.heap.size + 2) (o := 0) (v := .int .i64 0) (by simp)
  generalize w'.alloc (.cells #[.int .i64 x, .int .i64 y, .int .i64 m, .int .i64 t] 98) = W2 at *
  generalize w'.heap.size = gp at *
  clear H c0 c1 c2 c3 c4 c5 c6 c7 z0 z1 z2 z3 gs n0 n1 n2 n3
  have H := H2
  clear H2
  have k0 := fun p : Over _ => H.over (b := gp) (o := 0) (v := .int .i64 x) (by simp) p
  have k1 := fun p : Over _ => H.over (b := gp) (o := 1) (v := .int .i64 y) (by simp) p
  have k2 := fun p : Over _ => H.over (b := gp) (o := 2) (v := .int .i64 m) (by simp) p
  have k3 := fun p : Over _ => H.over (b := gp) (o := 3) (v := .int .i64 t) (by simp) p
  refine wp_region_over (by kernel_rfl) (by kernel_rfl) ?_
  repeat (go_big_quiet_step (first | (go_at_call 86; rename_i p; refine (hF _).mono ?_; rintro e' w' ⟨rfl, hb1⟩; exact ⟨rfl, p.next hb1⟩) | (go_at_call 87; rename_i p; refine (hT _).mono ?_; rintro e' w' ⟨rfl, hb1⟩; exact ⟨rfl, p.next hb1⟩)))
  refine wpQuiet_nil ?_
  rintro _ ⟨p, rfl⟩
  replace H := H.call p.below
  clear k0 k1 k2 k3
  generalize p.w = w3 at *
  clear p
  have c0 := H.get (b := gp) (o := 0) (v := .int .i64 x) (by simp)
  have c1 := H.get (b := gp) (o := 1) (v := .int .i64 y) (by simp)
  have c2 := H.get (b := gp) (o := 2) (v := .int .i64 m) (by simp)
  have c3 := H.get (b := gp) (o := 3) (v := .int .i64 t) (by simp)
  have r0 := H.get (b := w.heap.size + 2) (o := 0) (v := .int .i64 0) (by simp)
  have r1 := H.get (b := w.heap.size + 2) (o := 1) (v := .int .i64 0) (by simp)
  have r2 := H.get (b := w.heap.size + 2) (o := 2) (v := .int .i64 0) (by simp)
  have r3 := H.get (b := w.heap.size + 2) (o := 3) (v := .int .i64 0) (by simp)
  have z0 := H.fz (b := w.heap.size + 2) (o := 0) (v := .int .i64 0) (by simp)
  have z1 := H.fz (b := w.heap.size + 2) (o := 1) (v := .int .i64 0) (by simp)
  have z2 := H.fz (b := w.heap.size + 2) (o := 2) (v := .int .i64 0) (by simp)
  have z3 := H.fz (b := w.heap.size + 2) (o := 3) (v := .int .i64 0) (by simp)
  obtain ⟨gs, n0, n1, n2, n3⟩ := Gn.all (hN.below H.below)
  go_wp2_with (first | (go_at_call 88; refine (phas_xy _ _ _ _ _ hm9 _).mono ?_; rintro e w' ⟨rfl, hb⟩; rw [hh]; replace H := H.call hb; clear hb; have c0 := H.get (b := gp) (o := 0) (v := .int .i64 x) (by simp); have c1 := H.get (b := gp) (o := 1) (v := .int .i64 y) (by simp); have c2 := H.get (b := gp) (o := 2) (v := .int .i64 m) (by simp); have c3 := H.get (b := gp) (o := 3) (v := .int .i64 t) (by simp); have r0 := H.get (b := w.heap.size + 2) (o := 0) (v := .int .i64 0) (by simp); have r1 := H.get (b := w.heap.size + 2) (o := 1) (v := .int .i64 0) (by simp); have r2 := H.get (b := w.heap.size + 2) (o := 2) (v := .int .i64 0) (by simp); have r3 := H.get (b := w.heap.size + 2) (o := 3) (v := .int .i64 0) (by simp); have z0 := H.fz (b := w.heap.size + 2) (o := 0) (v := .int .i64 0) (by simp); have z1 := H.fz (b := w.heap.size + 2) (o := 1) (v := .int .i64 0) (by simp); have z2 := H.fz (b := w.heap.size + 2) (o := 2) (v := .int .i64 0) (by simp); have z3 := H.fz (b := w.heap.size + 2) (o := 3) (v := .int .i64 0) (by simp); obtain ⟨gs, n0, n1, n2, n3⟩ := Gn.all (hN.below H.below)))
  obtain ⟨f0, f1, f2, f3, fb⟩ := H.fill4 (b := w.heap.size + 2) (x := .int .i64 0) (y := .int .i64 0) (z := .int .i64 0) (u := .int .i64 0) (by simp) (by simp) (by simp) (by simp) (by omega) (.int .i64 lo) (.int .i64 hi) (.int .i64 m) (.int .i64 t)
  refine bodyPost_ret (results_four rfl _ _ (w.heap.size + 2) (.int .i64 lo) (.int .i64 hi) (.int .i64 m) (.int .i64 t) _ rfl f0 f1 f2 f3 Tryd.underlying30 rfl (by kernel_rfl)) rfl ?_
  exact ⟨rfl, fb⟩
end Go.Proofs.YthbbgkpkijlclaaDoor.num
namespace Go.Proofs.YthbbgkpkijlclaaDoor.num
open Go.ChangeShapes Go.WideShapes Go.ChangeAt Go.RowKit
set_option linter.unusedVariables false

theorem iMake_xy (x y m t : Int) (w : World) (hN : Gn w) (hR : Gv w 1 none8) :
    Calls Tryd.prog 22 #[.agg #[.int .i64 x, .int .i64 y], .agg #[.int .i64 m, .int .i64 t]] w fun e w' => e = .returned (.agg #[.int .i64 (make10 (x, y) (m, t)).1, .int .i64 (make10 (x, y) (m, t)).2.1, .int .i64 (make10 (x, y) (m, t)).2.2.1, .int .i64 (make10 (x, y) (m, t)).2.2.2]) ∧ Below w.heap.size w w' := by
  by_cases hb : rSome (x, y) = false ∨ qOk (m, t) = false
  · exact iMake_bad x y m t hb w hN hR
  · simp only [not_or, Bool.not_eq_false] at hb
    obtain ⟨k, h2⟩ := hb
    by_cases z : m = 0
    · subst z; exact iMake_zero x y t k h2 w hN hR
    · by_cases q : y < x + (t - x) % m
      · exact iMake_no x y m t k h2 z _ _ rfl rfl q w hN hR
      · by_cases q2 : x + (t - x) % m = y - (y - t) % m
        · exact iMake_one x y m t k h2 z _ _ rfl rfl ⟨q, q2⟩ w hN hR
        · exact iMake_two x y m t k h2 z _ _ rfl rfl ⟨q, q2⟩ w hN hR
end Go.Proofs.YthbbgkpkijlclaaDoor.num
namespace Go.Proofs.YthbbgkpkijlclaaDoor.num
open Go.ChangeShapes Go.WideShapes Go.ChangeAt Go.RowKit
set_option linter.unusedVariables false

theorem ok10_xy (x y m t : Int) : ok10 (x, y, m, t) = decide (make10 (x, y) (m, t) = (x, y, m, t)) := rfl
set_option maxRecDepth 100000 in
set_option maxHeartbeats 4000000 in
theorem iVOk_xy (x y m t : Int) (w : World) (hN : Gn w) (hR : Gv w 1 none8) :
    Calls Tryd.prog 24 #[.agg #[.int .i64 x, .int .i64 y, .int .i64 m, .int .i64 t]] w fun e w' => e = .returned (.bool (ok10 (x, y, m, t))) ∧ Below w.heap.size w w' := by
  rw [ok10_xy]
  have hM := fun w (hN : Gn w) (hR : Gv w 1 none8) => iMake_xy x y m t w hN hR
  generalize make10 (x, y) (m, t) = q at *
  obtain ⟨q1, q2, q3, q4⟩ := q
  simp only at hM
  by_cases e : (q1, q2, q3, q4) = (x, y, m, t)
  · simp only [Prod.mk.injEq] at e
    obtain ⟨rfl, rfl, rfl, rfl⟩ := e
    rw [decide_eq_true rfl]
    obtain ⟨W, hW, H⟩ : ∃ W, W = w.alloc (.cells #[.int .i64 q1, .int .i64 q2, .int .i64 q3, .int .i64 q4] 30) ∧ Hd w [(w.heap.size, 0, .int .i64 q1), (w.heap.size, 1, .int .i64 q2), (w.heap.size, 2, .int .i64 q3), (w.heap.size, 3, .int .i64 q4)] W := ⟨_, rfl, by
      have h := ((Hd.start w).box4 (.int .i64 q1) (.int .i64 q2) (.int .i64 q3) (.int .i64 q4) 30)
      exact h⟩
    go_enter Tryd.func24, Tryd.ntmps24
    go_wp2_with fail
    rw [← hW]
    clear hW
    have c0 := H.get (b := w.heap.size) (o := 0) (v := .int .i64 q1) (by simp)
    have c1 := H.get (b := w.heap.size) (o := 1) (v := .int .i64 q2) (by simp)
    have c2 := H.get (b := w.heap.size) (o := 2) (v := .int .i64 q3) (by simp)
    have c3 := H.get (b := w.heap.size) (o := 3) (v := .int .i64 q4) (by simp)
    go_wp2_with (first | (go_at_call 93; refine (parts_xy _ _ _ _ _).mono ?_; rintro e w' ⟨rfl, hb⟩; replace H := H.call hb; clear hb))
    have hlt := H.lt (b := w.heap.size) (o := 0) (v := .int .i64 q1) (by simp)
    have H2 := H.box4 (.int .i64 q1) (.int .i64 q2) (.int .i64 q3) (.int .i64 q4) 98
    generalize w'.alloc (.cells #[.int .i64 q1, .int .i64 q2, .int .i64 q3, .int .i64 q4] 98) = W2 at *
    generalize w'.heap.size = gp at *
    clear H c0 c1 c2 c3
    have H := H2
    clear H2
    replace hN := hN.below H.below
    replace hR := hR.below H.below
    have k0 := fun p : Over _ => H.over (b := gp) (o := 0) (v := .int .i64 q1) (by simp) p
    have k1 := fun p : Over _ => H.over (b := gp) (o := 1) (v := .int .i64 q2) (by simp) p
    have k2 := fun p : Over _ => H.over (b := gp) (o := 2) (v := .int .i64 q3) (by simp) p
    have k3 := fun p : Over _ => H.over (b := gp) (o := 3) (v := .int .i64 q4) (by simp) p
    have k4 := fun p : Over _ => H.over (b := w.heap.size) (o := 0) (v := .int .i64 q1) (by simp) p
    have k5 := fun p : Over _ => H.over (b := w.heap.size) (o := 1) (v := .int .i64 q2) (by simp) p
    have k6 := fun p : Over _ => H.over (b := w.heap.size) (o := 2) (v := .int .i64 q3) (by simp) p
    have k7 := fun p : Over _ => H.over (b := w.heap.size) (o := 3) (v := .int .i64 q4) (by simp) p
    refine wp_region_over (by kernel_rfl) (by kernel_rfl) ?_
    repeat (go_big_quiet_step (first | (go_at_call 22; rename_i p; refine (hM _ (hN.over p) (hR.over p)).mono ?_; rintro e' w' ⟨rfl, hb1⟩; exact ⟨rfl, p.next hb1⟩)))
    refine wpQuiet_nil ?_
    rintro _ ⟨p, rfl⟩
    replace H := H.call p.below
    clear k0 k1 k2 k3 k4 k5 k6 k7
    generalize p.w = w3 at *
    clear p
    go_wp2
    go_ret
    exact ⟨rfl, H.below⟩
  · rw [decide_eq_false e]
    have hq := @ne4_if q1 q2 q3 q4 x y m t e
    clear e
    obtain ⟨W, hW, H⟩ : ∃ W, W = w.alloc (.cells #[.int .i64 x, .int .i64 y, .int .i64 m, .int .i64 t] 30) ∧ Hd w [(w.heap.size, 0, .int .i64 x), (w.heap.size, 1, .int .i64 y), (w.heap.size, 2, .int .i64 m), (w.heap.size, 3, .int .i64 t)] W := ⟨_, rfl, by
      have h := ((Hd.start w).box4 (.int .i64 x) (.int .i64 y) (.int .i64 m) (.int .i64 t) 30)
      exact h⟩
    go_enter Tryd.func24, Tryd.ntmps24
    go_wp2_with fail
    rw [← hW]
    clear hW
    have c0 := H.get (b := w.heap.size) (o := 0) (v := .int .i64 x) (by simp)
    have c1 := H.get (b := w.heap.size) (o := 1) (v := .int .i64 y) (by simp)
    have c2 := H.get (b := w.heap.size) (o := 2) (v := .int .i64 m) (by simp)
    have c3 := H.get (b := w.heap.size) (o := 3) (v := .int .i64 t) (by simp)
    go_wp2_with (first | (go_at_call 93; refine (parts_xy _ _ _ _ _).mono ?_; rintro e w' ⟨rfl, hb⟩; replace H := H.call hb; clear hb))
    have hlt := H.lt (b := w.heap.size) (o := 0) (v := .int .i64 x) (by simp)
    have H2 := H.box4 (.int .i64 x) (.int .i64 y) (.int .i64 m) (.int .i64 t) 98
    generalize w'.alloc (.cells #[.int .i64 x, .int .i64 y, .int .i64 m, .int .i64 t] 98) = W2 at *
    generalize w'.heap.size = gp at *
    clear H c0 c1 c2 c3
    have H := H2
    clear H2
    replace hN := hN.below H.below
    replace hR := hR.below H.below
    have k0 := fun p : Over _ => H.over (b := gp) (o := 0) (v := .int .i64 x) (by simp) p
    have k1 := fun p : Over _ => H.over (b := gp) (o := 1) (v := .int .i64 y) (by simp) p
    have k2 := fun p : Over _ => H.over (b := gp) (o := 2) (v := .int .i64 m) (by simp) p
    have k3 := fun p : Over _ => H.over (b := gp) (o := 3) (v := .int .i64 t) (by simp) p
    have k4 := fun p : Over _ => H.over (b := w.heap.size) (o := 0) (v := .int .i64 x) (by simp) p
    have k5 := fun p : Over _ => H.over (b := w.heap.size) (o := 1) (v := .int .i64 y) (by simp) p
    have k6 := fun p : Over _ => H.over (b := w.heap.size) (o := 2) (v := .int .i64 m) (by simp) p
    have k7 := fun p : Over _ => H.over (b := w.heap.size) (o := 3) (v := .int .i64 t) (by simp) p
    refine wp_region_over (by kernel_rfl) (by kernel_rfl) ?_
    repeat (go_big_quiet_step (first | (go_at_call 22; rename_i p; refine (hM _ (hN.over p) (hR.over p)).mono ?_; rintro e' w' ⟨rfl, hb1⟩; exact ⟨rfl, p.next hb1⟩)))
    refine wpQuiet_nil ?_
    rintro _ ⟨p, rfl⟩
    replace H := H.call p.below
    clear k0 k1 k2 k3 k4 k5 k6 k7
    generalize p.w = w3 at *
    clear p
    go_wp2
    go_ret
    exact ⟨rfl, H.below⟩
set_option maxRecDepth 100000 in
set_option maxHeartbeats 4000000 in
theorem isome_xy (x y m t : Int) (w : World) (hN : Gn w) (hR : Gv w 1 none8) :
    Calls Tryd.prog 101 #[.agg #[.int .i64 x, .int .i64 y, .int .i64 m, .int .i64 t]] w fun e w' => e = .returned (.bool (some10 (x, y, m, t))) ∧ Below w.heap.size w w' := by
  cases h : ok10 (x, y, m, t)
  · have e : some10 (x, y, m, t) = false := by unfold some10; rw [h]; rfl
    rw [e]
    clear e
    obtain ⟨W, hW, H⟩ : ∃ W, W = w.alloc (.cells #[.int .i64 x, .int .i64 y, .int .i64 m, .int .i64 t] 30) ∧ Hd w [(w.heap.size, 0, .int .i64 x), (w.heap.size, 1, .int .i64 y), (w.heap.size, 2, .int .i64 m), (w.heap.size, 3, .int .i64 t)] W := ⟨_, rfl, by
      have h := ((Hd.start w).box4 (.int .i64 x) (.int .i64 y) (.int .i64 m) (.int .i64 t) 30)
      exact h⟩
    go_enter Tryd.func101, Tryd.ntmps101
    go_wp2_with fail
    rw [← hW]
    clear hW
    have c0 := H.get (b := w.heap.size) (o := 0) (v := .int .i64 x) (by simp)
    have c1 := H.get (b := w.heap.size) (o := 1) (v := .int .i64 y) (by simp)
    have c2 := H.get (b := w.heap.size) (o := 2) (v := .int .i64 m) (by simp)
    have c3 := H.get (b := w.heap.size) (o := 3) (v := .int .i64 t) (by simp)
    go_wp2_with (first | (go_at_call 24; refine (iVOk_xy _ _ _ _ _ (hN.below H.below) (hR.below H.below)).mono ?_; rintro e w' ⟨rfl, hb⟩; rw [h]; replace H := H.call hb; clear hb; have c0 := H.get (b := w.heap.size) (o := 0) (v := .int .i64 x) (by simp); have c1 := H.get (b := w.heap.size) (o := 1) (v := .int .i64 y) (by simp); have c2 := H.get (b := w.heap.size) (o := 2) (v := .int .i64 m) (by simp); have c3 := H.get (b := w.heap.size) (o := 3) (v := .int .i64 t) (by simp); obtain ⟨gs, n0, n1, n2, n3⟩ := Gn.all (hN.below H.below)))
    go_ret
    exact ⟨rfl, H.below⟩
  · rcases isN10 x y m t with e | e
    · simp only [none10, Prod.mk.injEq] at e
      obtain ⟨rfl, rfl, rfl, rfl⟩ := e
      have e : some10 (1, 0, 0, 0) = false := by decide
      rw [e]
      clear e
      obtain ⟨W, hW, H⟩ : ∃ W, W = w.alloc (.cells #[.int .i64 1, .int .i64 0, .int .i64 0, .int .i64 0] 30) ∧ Hd w [(w.heap.size, 0, .int .i64 1), (w.heap.size, 1, .int .i64 0), (w.heap.size, 2, .int .i64 0), (w.heap.size, 3, .int .i64 0)] W := ⟨_, rfl, by
        have h := ((Hd.start w).box4 (.int .i64 1) (.int .i64 0) (.int .i64 0) (.int .i64 0) 30)
        exact h⟩
      go_enter Tryd.func101, Tryd.ntmps101
      go_wp2_with fail
      rw [← hW]
      clear hW
      have c0 := H.get (b := w.heap.size) (o := 0) (v := .int .i64 1) (by simp)
      have c1 := H.get (b := w.heap.size) (o := 1) (v := .int .i64 0) (by simp)
      have c2 := H.get (b := w.heap.size) (o := 2) (v := .int .i64 0) (by simp)
      have c3 := H.get (b := w.heap.size) (o := 3) (v := .int .i64 0) (by simp)
      go_wp2_with (first | (go_at_call 24; refine (iVOk_xy _ _ _ _ _ (hN.below H.below) (hR.below H.below)).mono ?_; rintro e w' ⟨rfl, hb⟩; rw [h]; replace H := H.call hb; clear hb; have c0 := H.get (b := w.heap.size) (o := 0) (v := .int .i64 1) (by simp); have c1 := H.get (b := w.heap.size) (o := 1) (v := .int .i64 0) (by simp); have c2 := H.get (b := w.heap.size) (o := 2) (v := .int .i64 0) (by simp); have c3 := H.get (b := w.heap.size) (o := 3) (v := .int .i64 0) (by simp); obtain ⟨gs, n0, n1, n2, n3⟩ := Gn.all (hN.below H.below)))
      go_ret
      exact ⟨rfl, H.below⟩
    · have e2 : some10 (x, y, m, t) = true := (some10_iff _).2 ⟨h, e⟩
      rw [e2]
      clear e2
      have hq := @ne4_if x y m t 1 0 0 0 e
      clear e
      obtain ⟨W, hW, H⟩ : ∃ W, W = w.alloc (.cells #[.int .i64 x, .int .i64 y, .int .i64 m, .int .i64 t] 30) ∧ Hd w [(w.heap.size, 0, .int .i64 x), (w.heap.size, 1, .int .i64 y), (w.heap.size, 2, .int .i64 m), (w.heap.size, 3, .int .i64 t)] W := ⟨_, rfl, by
        have h := ((Hd.start w).box4 (.int .i64 x) (.int .i64 y) (.int .i64 m) (.int .i64 t) 30)
        exact h⟩
      go_enter Tryd.func101, Tryd.ntmps101
      go_wp2_with fail
      rw [← hW]
      clear hW
      have c0 := H.get (b := w.heap.size) (o := 0) (v := .int .i64 x) (by simp)
      have c1 := H.get (b := w.heap.size) (o := 1) (v := .int .i64 y) (by simp)
      have c2 := H.get (b := w.heap.size) (o := 2) (v := .int .i64 m) (by simp)
      have c3 := H.get (b := w.heap.size) (o := 3) (v := .int .i64 t) (by simp)
      go_wp2_with (first | (go_at_call 24; refine (iVOk_xy _ _ _ _ _ (hN.below H.below) (hR.below H.below)).mono ?_; rintro e w' ⟨rfl, hb⟩; rw [h]; replace H := H.call hb; clear hb; have c0 := H.get (b := w.heap.size) (o := 0) (v := .int .i64 x) (by simp); have c1 := H.get (b := w.heap.size) (o := 1) (v := .int .i64 y) (by simp); have c2 := H.get (b := w.heap.size) (o := 2) (v := .int .i64 m) (by simp); have c3 := H.get (b := w.heap.size) (o := 3) (v := .int .i64 t) (by simp); obtain ⟨gs, n0, n1, n2, n3⟩ := Gn.all (hN.below H.below)))
      go_ret
      exact ⟨rfl, H.below⟩
end Go.Proofs.YthbbgkpkijlclaaDoor.num
namespace Go.Proofs.YthbbgkpkijlclaaDoor.num
open Go.ChangeShapes Go.WideShapes Go.ChangeAt Go.RowKit
set_option linter.unusedVariables false

theorem ok10_m {x y m t : Int} (h : ok10 (x, y, m, t) = true) : 0 ≤ m ∧ m ≤ 65536 := by
  rcases isN10 x y m t with e | e
  · simp only [none10, Prod.mk.injEq] at e; omega
  · have p := (some10_parts ((some10_iff _).2 ⟨h, e⟩)).2.1
    have := (qOk_iff _).1 p
    simp only [rst] at this
    omega
theorem ok10_q {x y m t : Int} (h : ok10 (x, y, m, t) = true) : qOk (m, t) = true := by
  rcases isN10 x y m t with e | e
  · simp only [none10, Prod.mk.injEq] at e
    obtain ⟨rfl, rfl, rfl, rfl⟩ := e
    decide
  · exact (some10_parts ((some10_iff _).2 ⟨h, e⟩)).2.1
theorem has10_eq {x y m t : Int} (v : Int) (h : ok10 (x, y, m, t) = true) : has10 (x, y, m, t) v = ((decide (x ≤ v) && decide (v ≤ y)) && hasQ m t v) := by
  unfold has10
  rw [h, Bool.true_and]
  rcases isN10 x y m t with e | e
  · simp only [none10, Prod.mk.injEq] at e
    obtain ⟨rfl, rfl, rfl, rfl⟩ := e
    have h1 : rHas (rng (1, 0, 0, 0)) v = false := by rw [rHas_not]; simp only [rng]; omega
    have h2 : (decide ((1 : Int) ≤ v) && decide (v ≤ 0)) = false := by rw [Bool.and_eq_false_iff]; simp; omega
    rw [h1, h2, Bool.false_and, Bool.false_and]
  · have p := some10_parts ((some10_iff _).2 ⟨h, e⟩)
    have ho := ok_some p.1 p.2.2.1
    simp only [rng] at ho
    have h1 : rHas (rng (x, y, m, t)) v = (decide (x ≤ v) && decide (v ≤ y)) := by
      rw [Bool.eq_iff_iff, rHas_iff]; simp [rng]; omega
    rw [h1]
    cases hc : (decide (x ≤ v) && decide (v ≤ y))
    · rfl
    · have hb : okB v = true := by rw [okB_iff]; simp at hc; omega
      rw [show rst (x, y, m, t) = (m, t) from rfl, hasQ_eq p.2.1 hb]
theorem in10_eq {x y m t x2 y2 m2 t2 : Int} (h : ok10 (x, y, m, t) = true) (h2 : ok10 (x2, y2, m2, t2) = true) (e : ((x, y, m, t) : V10) ≠ (1, 0, 0, 0)) :
    in10 (x, y, m, t) (x2, y2, m2, t2) = (rIn (x, y) (x2, y2) && in9 (m, t) (m2, t2)) := by
  have p := some10_parts ((some10_iff _).2 ⟨h, e⟩)
  have e' : decide (((x, y, m, t) : V10) = none10) = false := decide_eq_false e
  unfold in10
  rw [h, h2, e']
  rcases isN10 x2 y2 m2 t2 with k | k
  · have hi : rIn (x, y) (x2, y2) = false := by
      simp only [none10, Prod.mk.injEq] at k
      rw [← Bool.not_eq_true, rIn_iff]
      have n := p.2.2.1
      rw [isN_iff] at n
      have l := p.2.2.2.2.2.1
      simp only [rng] at n l ⊢
      omega
    rw [hi, decide_eq_true k]
    rfl
  · have k' : decide (((x2, y2, m2, t2) : V10) = none10) = false := decide_eq_false k
    rw [k']
    rfl
set_option maxRecDepth 100000 in
set_option maxHeartbeats 4000000 in
theorem iVHas_xy (x y m t v : Int) (w : World) (hN : Gn w) (hR : Gv w 1 none8) :
    Calls Tryd.prog 25 #[.agg #[.int .i64 x, .int .i64 y, .int .i64 m, .int .i64 t], .int .i64 v] w fun e w' => e = .returned (.bool (has10 (x, y, m, t) v)) ∧ Below w.heap.size w w' := by
  cases h : ok10 (x, y, m, t)
  · have e : has10 (x, y, m, t) v = false := by unfold has10; rw [h]; rfl
    rw [e]
    clear e
    obtain ⟨W, hW, H⟩ : ∃ W, W = w.alloc (.cells #[.int .i64 x, .int .i64 y, .int .i64 m, .int .i64 t] 30) ∧ Hd w [(w.heap.size, 0, .int .i64 x), (w.heap.size, 1, .int .i64 y), (w.heap.size, 2, .int .i64 m), (w.heap.size, 3, .int .i64 t)] W := ⟨_, rfl, by
      have h := ((Hd.start w).box4 (.int .i64 x) (.int .i64 y) (.int .i64 m) (.int .i64 t) 30)
      exact h⟩
    replace hN := hN.below H.below
    replace hR := hR.below H.below
    go_enter Tryd.func25, Tryd.ntmps25
    go_wp2_with fail
    rw [← hW]
    clear hW
    have c0 := H.get (b := w.heap.size) (o := 0) (v := .int .i64 x) (by simp)
    have c1 := H.get (b := w.heap.size) (o := 1) (v := .int .i64 y) (by simp)
    have c2 := H.get (b := w.heap.size) (o := 2) (v := .int .i64 m) (by simp)
    have c3 := H.get (b := w.heap.size) (o := 3) (v := .int .i64 t) (by simp)
    go_wp2_with (first | (go_at_call 24; refine (iVOk_xy _ _ _ _ _ hN hR).mono ?_; rintro e w' ⟨rfl, hb⟩; rw [h]; replace H := H.call hb; clear hb; have c0 := H.get (b := w.heap.size) (o := 0) (v := .int .i64 x) (by simp); have c1 := H.get (b := w.heap.size) (o := 1) (v := .int .i64 y) (by simp); have c2 := H.get (b := w.heap.size) (o := 2) (v := .int .i64 m) (by simp); have c3 := H.get (b := w.heap.size) (o := 3) (v := .int .i64 t) (by simp)) | (go_at_call 93; refine (parts_xy _ _ _ _ _).mono ?_; rintro e w' ⟨rfl, hb⟩; replace H := H.call hb; clear hb) | (go_at_call 88; refine (phas_xy _ _ _ _ _ hm9 _).mono ?_; rintro e w' ⟨rfl, hb⟩; replace H := H.call hb; clear hb))
    go_ret
    exact ⟨rfl, H.below⟩
  · have hm9 := ok10_m h
    rw [has10_eq v h]
    obtain ⟨W, hW, H⟩ : ∃ W, W = w.alloc (.cells #[.int .i64 x, .int .i64 y, .int .i64 m, .int .i64 t] 30) ∧ Hd w [(w.heap.size, 0, .int .i64 x), (w.heap.size, 1, .int .i64 y), (w.heap.size, 2, .int .i64 m), (w.heap.size, 3, .int .i64 t)] W := ⟨_, rfl, by
      have h := ((Hd.start w).box4 (.int .i64 x) (.int .i64 y) (.int .i64 m) (.int .i64 t) 30)
      exact h⟩
    replace hN := hN.below H.below
    replace hR := hR.below H.below
    go_enter Tryd.func25, Tryd.ntmps25
    go_wp2_with fail
    rw [← hW]
    clear hW
    have c0 := H.get (b := w.heap.size) (o := 0) (v := .int .i64 x) (by simp)
    have c1 := H.get (b := w.heap.size) (o := 1) (v := .int .i64 y) (by simp)
    have c2 := H.get (b := w.heap.size) (o := 2) (v := .int .i64 m) (by simp)
    have c3 := H.get (b := w.heap.size) (o := 3) (v := .int .i64 t) (by simp)
    go_wp2_with (first | (go_at_call 24; refine (iVOk_xy _ _ _ _ _ hN hR).mono ?_; rintro e w' ⟨rfl, hb⟩; rw [h]; replace H := H.call hb; clear hb; have c0 := H.get (b := w.heap.size) (o := 0) (v := .int .i64 x) (by simp); have c1 := H.get (b := w.heap.size) (o := 1) (v := .int .i64 y) (by simp); have c2 := H.get (b := w.heap.size) (o := 2) (v := .int .i64 m) (by simp); have c3 := H.get (b := w.heap.size) (o := 3) (v := .int .i64 t) (by simp)) | (go_at_call 93; refine (parts_xy _ _ _ _ _).mono ?_; rintro e w' ⟨rfl, hb⟩; replace H := H.call hb; clear hb) | (go_at_call 88; refine (phas_xy _ _ _ _ _ hm9 _).mono ?_; rintro e w' ⟨rfl, hb⟩; replace H := H.call hb; clear hb))
    go_ret
    exact ⟨rfl, H.below⟩
set_option maxRecDepth 100000 in
set_option maxHeartbeats 4000000 in
theorem iVIn_xy (x y m t x2 y2 m2 t2 : Int) (w : World) (hN : Gn w) (hR : Gv w 1 none8) :
    Calls Tryd.prog 38 #[.agg #[.int .i64 x, .int .i64 y, .int .i64 m, .int .i64 t], .agg #[.int .i64 x2, .int .i64 y2, .int .i64 m2, .int .i64 t2]] w fun e w' => e = .returned (.bool (in10 (x, y, m, t) (x2, y2, m2, t2))) ∧ Below w.heap.size w w' := by
  cases h : ok10 (x, y, m, t)
  · have e : in10 (x, y, m, t) (x2, y2, m2, t2) = false := by unfold in10; rw [h]; rfl
    rw [e]
    clear e
    obtain ⟨W, hW, H⟩ : ∃ W, W = (w.alloc (.cells #[.int .i64 x, .int .i64 y, .int .i64 m, .int .i64 t] 30)).alloc (.cells #[.int .i64 x2, .int .i64 y2, .int .i64 m2, .int .i64 t2] 30) ∧ Hd w [(w.heap.size + 1, 0, .int .i64 x2), (w.heap.size + 1, 1, .int .i64 y2), (w.heap.size + 1, 2, .int .i64 m2), (w.heap.size + 1, 3, .int .i64 t2), (w.heap.size, 0, .int .i64 x), (w.heap.size, 1, .int .i64 y), (w.heap.size, 2, .int .i64 m), (w.heap.size, 3, .int .i64 t)] W := ⟨_, rfl, by
      have h := (((Hd.start w).box4 (.int .i64 x) (.int .i64 y) (.int .i64 m) (.int .i64 t) 30).box4 (.int .i64 x2) (.int .i64 y2) (.int .i64 m2) (.int .i64 t2) 30)
      simp only [size_alloc1] at h
      exact h⟩
    have hN0 := hN.below H.below
    have hR0 := hR.below H.below
    go_enter Tryd.func38, Tryd.ntmps38
    go_wp2_with fail
    rw [← hW]
    clear hW
    have c0 := H.get (b := w.heap.size) (o := 0) (v := .int .i64 x) (by simp)
    have c1 := H.get (b := w.heap.size) (o := 1) (v := .int .i64 y) (by simp)
    have c2 := H.get (b := w.heap.size) (o := 2) (v := .int .i64 m) (by simp)
    have c3 := H.get (b := w.heap.size) (o := 3) (v := .int .i64 t) (by simp)
    have c4 := H.get (b := w.heap.size + 1) (o := 0) (v := .int .i64 x2) (by simp)
    have c5 := H.get (b := w.heap.size + 1) (o := 1) (v := .int .i64 y2) (by simp)
    have c6 := H.get (b := w.heap.size + 1) (o := 2) (v := .int .i64 m2) (by simp)
    have c7 := H.get (b := w.heap.size + 1) (o := 3) (v := .int .i64 t2) (by simp)
    go_wp2_with (first | (go_at_call 24; refine (iVOk_xy _ _ _ _ _ (hN.below H.below) (hR.below H.below)).mono ?_; rintro e w' ⟨rfl, hb⟩; (first | rw [h] | rw [h2]); replace H := H.call hb; clear hb; have c0 := H.get (b := w.heap.size) (o := 0) (v := .int .i64 x) (by simp); have c1 := H.get (b := w.heap.size) (o := 1) (v := .int .i64 y) (by simp); have c2 := H.get (b := w.heap.size) (o := 2) (v := .int .i64 m) (by simp); have c3 := H.get (b := w.heap.size) (o := 3) (v := .int .i64 t) (by simp); have c4 := H.get (b := w.heap.size + 1) (o := 0) (v := .int .i64 x2) (by simp); have c5 := H.get (b := w.heap.size + 1) (o := 1) (v := .int .i64 y2) (by simp); have c6 := H.get (b := w.heap.size + 1) (o := 2) (v := .int .i64 m2) (by simp); have c7 := H.get (b := w.heap.size + 1) (o := 3) (v := .int .i64 t2) (by simp)))
    go_ret
    exact ⟨rfl, H.below⟩
  cases h2 : ok10 (x2, y2, m2, t2)
  · have e : in10 (x, y, m, t) (x2, y2, m2, t2) = false := by unfold in10; rw [h, h2]; rfl
    rw [e]
    clear e
    obtain ⟨W, hW, H⟩ : ∃ W, W = (w.alloc (.cells #[.int .i64 x, .int .i64 y, .int .i64 m, .int .i64 t] 30)).alloc (.cells #[.int .i64 x2, .int .i64 y2, .int .i64 m2, .int .i64 t2] 30) ∧ Hd w [(w.heap.size + 1, 0, .int .i64 x2), (w.heap.size + 1, 1, .int .i64 y2), (w.heap.size + 1, 2, .int .i64 m2), (w.heap.size + 1, 3, .int .i64 t2), (w.heap.size, 0, .int .i64 x), (w.heap.size, 1, .int .i64 y), (w.heap.size, 2, .int .i64 m), (w.heap.size, 3, .int .i64 t)] W := ⟨_, rfl, by
      have h := (((Hd.start w).box4 (.int .i64 x) (.int .i64 y) (.int .i64 m) (.int .i64 t) 30).box4 (.int .i64 x2) (.int .i64 y2) (.int .i64 m2) (.int .i64 t2) 30)
      simp only [size_alloc1] at h
      exact h⟩
    have hN0 := hN.below H.below
    have hR0 := hR.below H.below
    go_enter Tryd.func38, Tryd.ntmps38
    go_wp2_with fail
    rw [← hW]
    clear hW
    have c0 := H.get (b := w.heap.size) (o := 0) (v := .int .i64 x) (by simp)
    have c1 := H.get (b := w.heap.size) (o := 1) (v := .int .i64 y) (by simp)
    have c2 := H.get (b := w.heap.size) (o := 2) (v := .int .i64 m) (by simp)
    have c3 := H.get (b := w.heap.size) (o := 3) (v := .int .i64 t) (by simp)
    have c4 := H.get (b := w.heap.size + 1) (o := 0) (v := .int .i64 x2) (by simp)
    have c5 := H.get (b := w.heap.size + 1) (o := 1) (v := .int .i64 y2) (by simp)
    have c6 := H.get (b := w.heap.size + 1) (o := 2) (v := .int .i64 m2) (by simp)
    have c7 := H.get (b := w.heap.size + 1) (o := 3) (v := .int .i64 t2) (by simp)
    go_wp2_with (first | (go_at_call 24; refine (iVOk_xy _ _ _ _ _ (hN.below H.below) (hR.below H.below)).mono ?_; rintro e w' ⟨rfl, hb⟩; (first | rw [h] | rw [h2]); replace H := H.call hb; clear hb; have c0 := H.get (b := w.heap.size) (o := 0) (v := .int .i64 x) (by simp); have c1 := H.get (b := w.heap.size) (o := 1) (v := .int .i64 y) (by simp); have c2 := H.get (b := w.heap.size) (o := 2) (v := .int .i64 m) (by simp); have c3 := H.get (b := w.heap.size) (o := 3) (v := .int .i64 t) (by simp); have c4 := H.get (b := w.heap.size + 1) (o := 0) (v := .int .i64 x2) (by simp); have c5 := H.get (b := w.heap.size + 1) (o := 1) (v := .int .i64 y2) (by simp); have c6 := H.get (b := w.heap.size + 1) (o := 2) (v := .int .i64 m2) (by simp); have c7 := H.get (b := w.heap.size + 1) (o := 3) (v := .int .i64 t2) (by simp)))
    go_ret
    exact ⟨rfl, H.below⟩
  rcases isN10 x y m t with e | e
  · simp only [none10, Prod.mk.injEq] at e
    obtain ⟨rfl, rfl, rfl, rfl⟩ := e
    have e : in10 (1, 0, 0, 0) (x2, y2, m2, t2) = true := in10_none h2
    rw [e]
    clear e
    obtain ⟨W, hW, H⟩ : ∃ W, W = (w.alloc (.cells #[.int .i64 1, .int .i64 0, .int .i64 0, .int .i64 0] 30)).alloc (.cells #[.int .i64 x2, .int .i64 y2, .int .i64 m2, .int .i64 t2] 30) ∧ Hd w [(w.heap.size + 1, 0, .int .i64 x2), (w.heap.size + 1, 1, .int .i64 y2), (w.heap.size + 1, 2, .int .i64 m2), (w.heap.size + 1, 3, .int .i64 t2), (w.heap.size, 0, .int .i64 1), (w.heap.size, 1, .int .i64 0), (w.heap.size, 2, .int .i64 0), (w.heap.size, 3, .int .i64 0)] W := ⟨_, rfl, by
      have h := (((Hd.start w).box4 (.int .i64 1) (.int .i64 0) (.int .i64 0) (.int .i64 0) 30).box4 (.int .i64 x2) (.int .i64 y2) (.int .i64 m2) (.int .i64 t2) 30)
      simp only [size_alloc1] at h
      exact h⟩
    have hN0 := hN.below H.below
    have hR0 := hR.below H.below
    go_enter Tryd.func38, Tryd.ntmps38
    go_wp2_with fail
    rw [← hW]
    clear hW
    have c0 := H.get (b := w.heap.size) (o := 0) (v := .int .i64 1) (by simp)
    have c1 := H.get (b := w.heap.size) (o := 1) (v := .int .i64 0) (by simp)
    have c2 := H.get (b := w.heap.size) (o := 2) (v := .int .i64 0) (by simp)
    have c3 := H.get (b := w.heap.size) (o := 3) (v := .int .i64 0) (by simp)
    have c4 := H.get (b := w.heap.size + 1) (o := 0) (v := .int .i64 x2) (by simp)
    have c5 := H.get (b := w.heap.size + 1) (o := 1) (v := .int .i64 y2) (by simp)
    have c6 := H.get (b := w.heap.size + 1) (o := 2) (v := .int .i64 m2) (by simp)
    have c7 := H.get (b := w.heap.size + 1) (o := 3) (v := .int .i64 t2) (by simp)
    go_wp2_with (first | (go_at_call 24; refine (iVOk_xy _ _ _ _ _ (hN.below H.below) (hR.below H.below)).mono ?_; rintro e w' ⟨rfl, hb⟩; (first | rw [h] | rw [h2]); replace H := H.call hb; clear hb; have c0 := H.get (b := w.heap.size) (o := 0) (v := .int .i64 1) (by simp); have c1 := H.get (b := w.heap.size) (o := 1) (v := .int .i64 0) (by simp); have c2 := H.get (b := w.heap.size) (o := 2) (v := .int .i64 0) (by simp); have c3 := H.get (b := w.heap.size) (o := 3) (v := .int .i64 0) (by simp); have c4 := H.get (b := w.heap.size + 1) (o := 0) (v := .int .i64 x2) (by simp); have c5 := H.get (b := w.heap.size + 1) (o := 1) (v := .int .i64 y2) (by simp); have c6 := H.get (b := w.heap.size + 1) (o := 2) (v := .int .i64 m2) (by simp); have c7 := H.get (b := w.heap.size + 1) (o := 3) (v := .int .i64 t2) (by simp)))
    have hN1 := hN.below H.below
    have hR1 := hR.below H.below
    have g0 := fun p : Over _ => (hN1.over p).2.1
    have g1 := fun p : Over _ => (hN1.over p).2.2.1
    have g2 := fun p : Over _ => (hN1.over p).2.2.2.1
    have g3 := fun p : Over _ => (hN1.over p).2.2.2.2
    have k0 := fun p : Over _ => H.over (b := w.heap.size) (o := 0) (v := .int .i64 1) (by simp) p
    have k1 := fun p : Over _ => H.over (b := w.heap.size) (o := 1) (v := .int .i64 0) (by simp) p
    have k2 := fun p : Over _ => H.over (b := w.heap.size) (o := 2) (v := .int .i64 0) (by simp) p
    have k3 := fun p : Over _ => H.over (b := w.heap.size) (o := 3) (v := .int .i64 0) (by simp) p
    have k4 := fun p : Over _ => H.over (b := w.heap.size + 1) (o := 0) (v := .int .i64 x2) (by simp) p
    have k5 := fun p : Over _ => H.over (b := w.heap.size + 1) (o := 1) (v := .int .i64 y2) (by simp) p
    have k6 := fun p : Over _ => H.over (b := w.heap.size + 1) (o := 2) (v := .int .i64 m2) (by simp) p
    have k7 := fun p : Over _ => H.over (b := w.heap.size + 1) (o := 3) (v := .int .i64 t2) (by simp) p
    refine wp_region_over (by kernel_rfl) (by kernel_rfl) ?_
    repeat (go_big_quiet_step (first | (go_at_call 93; rename_i p; refine (parts_xy _ _ _ _ _).mono ?_; rintro e' w' ⟨rfl, hb1⟩; exact ⟨rfl, p.next hb1⟩) | (go_at_call 108; rename_i p; refine (pin_xy _ _ _ _ _ _ _ _ (ok10_q h) (ok10_q h2) _ (hR1.over p)).mono ?_; rintro e' w' ⟨rfl, hb1⟩; exact ⟨rfl, p.next hb1⟩)))
    refine wpQuiet_nil ?_
    rintro _ ⟨p, rfl⟩
    replace H := H.call p.below
    clear k0 k1 k2 k3 k4 k5 k6 k7
    generalize p.w = w3 at *
    clear p
    go_wp2
    go_ret
    exact ⟨rfl, H.below⟩
  · rw [in10_eq h h2 e]
    have hq := @ne4_if x y m t 1 0 0 0 e
    clear e
    obtain ⟨W, hW, H⟩ : ∃ W, W = (w.alloc (.cells #[.int .i64 x, .int .i64 y, .int .i64 m, .int .i64 t] 30)).alloc (.cells #[.int .i64 x2, .int .i64 y2, .int .i64 m2, .int .i64 t2] 30) ∧ Hd w [(w.heap.size + 1, 0, .int .i64 x2), (w.heap.size + 1, 1, .int .i64 y2), (w.heap.size + 1, 2, .int .i64 m2), (w.heap.size + 1, 3, .int .i64 t2), (w.heap.size, 0, .int .i64 x), (w.heap.size, 1, .int .i64 y), (w.heap.size, 2, .int .i64 m), (w.heap.size, 3, .int .i64 t)] W := ⟨_, rfl, by
      have h := (((Hd.start w).box4 (.int .i64 x) (.int .i64 y) (.int .i64 m) (.int .i64 t) 30).box4 (.int .i64 x2) (.int .i64 y2) (.int .i64 m2) (.int .i64 t2) 30)
      simp only [size_alloc1] at h
      exact h⟩
    have hN0 := hN.below H.below
    have hR0 := hR.below H.below
    go_enter Tryd.func38, Tryd.ntmps38
    go_wp2_with fail
    rw [← hW]
    clear hW
    have c0 := H.get (b := w.heap.size) (o := 0) (v := .int .i64 x) (by simp)
    have c1 := H.get (b := w.heap.size) (o := 1) (v := .int .i64 y) (by simp)
    have c2 := H.get (b := w.heap.size) (o := 2) (v := .int .i64 m) (by simp)
    have c3 := H.get (b := w.heap.size) (o := 3) (v := .int .i64 t) (by simp)
    have c4 := H.get (b := w.heap.size + 1) (o := 0) (v := .int .i64 x2) (by simp)
    have c5 := H.get (b := w.heap.size + 1) (o := 1) (v := .int .i64 y2) (by simp)
    have c6 := H.get (b := w.heap.size + 1) (o := 2) (v := .int .i64 m2) (by simp)
    have c7 := H.get (b := w.heap.size + 1) (o := 3) (v := .int .i64 t2) (by simp)
    go_wp2_with (first | (go_at_call 24; refine (iVOk_xy _ _ _ _ _ (hN.below H.below) (hR.below H.below)).mono ?_; rintro e w' ⟨rfl, hb⟩; (first | rw [h] | rw [h2]); replace H := H.call hb; clear hb; have c0 := H.get (b := w.heap.size) (o := 0) (v := .int .i64 x) (by simp); have c1 := H.get (b := w.heap.size) (o := 1) (v := .int .i64 y) (by simp); have c2 := H.get (b := w.heap.size) (o := 2) (v := .int .i64 m) (by simp); have c3 := H.get (b := w.heap.size) (o := 3) (v := .int .i64 t) (by simp); have c4 := H.get (b := w.heap.size + 1) (o := 0) (v := .int .i64 x2) (by simp); have c5 := H.get (b := w.heap.size + 1) (o := 1) (v := .int .i64 y2) (by simp); have c6 := H.get (b := w.heap.size + 1) (o := 2) (v := .int .i64 m2) (by simp); have c7 := H.get (b := w.heap.size + 1) (o := 3) (v := .int .i64 t2) (by simp)))
    have hN1 := hN.below H.below
    have hR1 := hR.below H.below
    have g0 := fun p : Over _ => (hN1.over p).2.1
    have g1 := fun p : Over _ => (hN1.over p).2.2.1
    have g2 := fun p : Over _ => (hN1.over p).2.2.2.1
    have g3 := fun p : Over _ => (hN1.over p).2.2.2.2
    have k0 := fun p : Over _ => H.over (b := w.heap.size) (o := 0) (v := .int .i64 x) (by simp) p
    have k1 := fun p : Over _ => H.over (b := w.heap.size) (o := 1) (v := .int .i64 y) (by simp) p
    have k2 := fun p : Over _ => H.over (b := w.heap.size) (o := 2) (v := .int .i64 m) (by simp) p
    have k3 := fun p : Over _ => H.over (b := w.heap.size) (o := 3) (v := .int .i64 t) (by simp) p
    have k4 := fun p : Over _ => H.over (b := w.heap.size + 1) (o := 0) (v := .int .i64 x2) (by simp) p
    have k5 := fun p : Over _ => H.over (b := w.heap.size + 1) (o := 1) (v := .int .i64 y2) (by simp) p
    have k6 := fun p : Over _ => H.over (b := w.heap.size + 1) (o := 2) (v := .int .i64 m2) (by simp) p
    have k7 := fun p : Over _ => H.over (b := w.heap.size + 1) (o := 3) (v := .int .i64 t2) (by simp) p
    refine wp_region_over (by kernel_rfl) (by kernel_rfl) ?_
    repeat (go_big_quiet_step (first | (go_at_call 93; rename_i p; refine (parts_xy _ _ _ _ _).mono ?_; rintro e' w' ⟨rfl, hb1⟩; exact ⟨rfl, p.next hb1⟩) | (go_at_call 108; rename_i p; refine (pin_xy _ _ _ _ _ _ _ _ (ok10_q h) (ok10_q h2) _ (hR1.over p)).mono ?_; rintro e' w' ⟨rfl, hb1⟩; exact ⟨rfl, p.next hb1⟩)))
    refine wpQuiet_nil ?_
    rintro _ ⟨p, rfl⟩
    replace H := H.call p.below
    clear k0 k1 k2 k3 k4 k5 k6 k7
    generalize p.w = w3 at *
    clear p
    go_wp2
    go_ret
    exact ⟨rfl, H.below⟩
end Go.Proofs.YthbbgkpkijlclaaDoor.num
namespace Go.Proofs.YthbbgkpkijlclaaDoor.num
open Go.ChangeShapes Go.WideShapes Go.ChangeAt Go.RowKit
set_option linter.unusedVariables false

set_option maxRecDepth 100000 in
set_option maxHeartbeats 4000000 in
theorem iVJoin_bad (x y m t x2 y2 m2 t2 : Int) (hb : ok10 (x, y, m, t) = false ∨ ok10 (x2, y2, m2, t2) = false ∨ ((x, y, m, t) : V10) = none10 ∨ ((x2, y2, m2, t2) : V10) = none10) (w : World) (hN : Gn w) (hR : Gv w 1 none8) :
    Calls Tryd.prog 31 #[.agg #[.int .i64 x, .int .i64 y, .int .i64 m, .int .i64 t], .agg #[.int .i64 x2, .int .i64 y2, .int .i64 m2, .int .i64 t2]] w fun e w' => e = .returned (.agg #[.int .i64 (join10 (x, y, m, t) (x2, y2, m2, t2)).1, .int .i64 (join10 (x, y, m, t) (x2, y2, m2, t2)).2.1, .int .i64 (join10 (x, y, m, t) (x2, y2, m2, t2)).2.2.1, .int .i64 (join10 (x, y, m, t) (x2, y2, m2, t2)).2.2.2]) ∧ Below w.heap.size w w' := by
  cases h : ok10 (x, y, m, t)
  · have e : join10 (x, y, m, t) (x2, y2, m2, t2) = none10 := by unfold join10; rw [if_pos (.inl h)]
    rw [e]
    clear e hb
    obtain ⟨W, hW, H⟩ : ∃ W, W = ((w.alloc (.cells #[.int .i64 x, .int .i64 y, .int .i64 m, .int .i64 t] 30)).alloc (.cells #[.int .i64 x2, .int .i64 y2, .int .i64 m2, .int .i64 t2] 30)).alloc (.cells #[.int .i64 0, .int .i64 0, .int .i64 0, .int .i64 0] 30) ∧ Hd w [(w.heap.size + 2, 0, .int .i64 0), (w.heap.size + 2, 1, .int .i64 0), (w.heap.size + 2, 2, .int .i64 0), (w.heap.size + 2, 3, .int .i64 0), (w.heap.size + 1, 0, .int .i64 x2), (w.heap.size + 1, 1, .int .i64 y2), (w.heap.size + 1, 2, .int .i64 m2), (w.heap.size + 1, 3, .int .i64 t2), (w.heap.size, 0, .int .i64 x), (w.heap.size, 1, .int .i64 y), (w.heap.size, 2, .int .i64 m), (w.heap.size, 3, .int .i64 t)] W := ⟨_, rfl, by
      have h := ((((Hd.start w).box4 (.int .i64 x) (.int .i64 y) (.int .i64 m) (.int .i64 t) 30).box4 (.int .i64 x2) (.int .i64 y2) (.int .i64 m2) (.int .i64 t2) 30).box4 (.int .i64 0) (.int .i64 0) (.int .i64 0) (.int .i64 0) 30)
      simp only [size_alloc1] at h
      exact h⟩
    go_enter Tryd.func31, Tryd.ntmps31
    go_wp2_with fail
    rw [← hW]
    clear hW
    have c0 := H.get (b := w.heap.size) (o := 0) (v := .int .i64 x) (by simp)
    have c1 := H.get (b := w.heap.size) (o := 1) (v := .int .i64 y) (by simp)
    have c2 := H.get (b := w.heap.size) (o := 2) (v := .int .i64 m) (by simp)
    have c3 := H.get (b := w.heap.size) (o := 3) (v := .int .i64 t) (by simp)
    have c4 := H.get (b := w.heap.size + 1) (o := 0) (v := .int .i64 x2) (by simp)
    have c5 := H.get (b := w.heap.size + 1) (o := 1) (v := .int .i64 y2) (by simp)
    have c6 := H.get (b := w.heap.size + 1) (o := 2) (v := .int .i64 m2) (by simp)
    have c7 := H.get (b := w.heap.size + 1) (o := 3) (v := .int .i64 t2) (by simp)
    have c8 := H.get (b := w.heap.size + 2) (o := 0) (v := .int .i64 0) (by simp)
    have c9 := H.get (b := w.heap.size + 2) (o := 1) (v := .int .i64 0) (by simp)
    have c10 := H.get (b := w.heap.size + 2) (o := 2) (v := .int .i64 0) (by simp)
    have c11 := H.get (b := w.heap.size + 2) (o := 3) (v := .int .i64 0) (by simp)
    have z0 := H.fz (b := w.heap.size + 2) (o := 0) (v := .int .i64 0) (by simp)
    have z1 := H.fz (b := w.heap.size + 2) (o := 1) (v := .int .i64 0) (by simp)
    have z2 := H.fz (b := w.heap.size + 2) (o := 2) (v := .int .i64 0) (by simp)
    have z3 := H.fz (b := w.heap.size + 2) (o := 3) (v := .int .i64 0) (by simp)
    obtain ⟨gs, n0, n1, n2, n3⟩ := Gn.all (hN.below H.below)
    go_wp2_with (first | (go_at_call 24; refine (iVOk_xy _ _ _ _ _ (hN.below H.below) (hR.below H.below)).mono ?_; rintro e w' ⟨rfl, hb⟩; (first | rw [h]); replace H := H.call hb; clear hb; have c0 := H.get (b := w.heap.size) (o := 0) (v := .int .i64 x) (by simp); have c1 := H.get (b := w.heap.size) (o := 1) (v := .int .i64 y) (by simp); have c2 := H.get (b := w.heap.size) (o := 2) (v := .int .i64 m) (by simp); have c3 := H.get (b := w.heap.size) (o := 3) (v := .int .i64 t) (by simp); have c4 := H.get (b := w.heap.size + 1) (o := 0) (v := .int .i64 x2) (by simp); have c5 := H.get (b := w.heap.size + 1) (o := 1) (v := .int .i64 y2) (by simp); have c6 := H.get (b := w.heap.size + 1) (o := 2) (v := .int .i64 m2) (by simp); have c7 := H.get (b := w.heap.size + 1) (o := 3) (v := .int .i64 t2) (by simp); have c8 := H.get (b := w.heap.size + 2) (o := 0) (v := .int .i64 0) (by simp); have c9 := H.get (b := w.heap.size + 2) (o := 1) (v := .int .i64 0) (by simp); have c10 := H.get (b := w.heap.size + 2) (o := 2) (v := .int .i64 0) (by simp); have c11 := H.get (b := w.heap.size + 2) (o := 3) (v := .int .i64 0) (by simp); have z0 := H.fz (b := w.heap.size + 2) (o := 0) (v := .int .i64 0) (by simp); have z1 := H.fz (b := w.heap.size + 2) (o := 1) (v := .int .i64 0) (by simp); have z2 := H.fz (b := w.heap.size + 2) (o := 2) (v := .int .i64 0) (by simp); have z3 := H.fz (b := w.heap.size + 2) (o := 3) (v := .int .i64 0) (by simp); obtain ⟨gs, n0, n1, n2, n3⟩ := Gn.all (hN.below H.below)))
    obtain ⟨f0, f1, f2, f3, fb⟩ := H.fill4 (b := w.heap.size + 2) (x := .int .i64 0) (y := .int .i64 0) (z := .int .i64 0) (u := .int .i64 0) (by simp) (by simp) (by simp) (by simp) (by omega) (.int .i64 1) (.int .i64 0) (.int .i64 0) (.int .i64 0)
    refine bodyPost_ret (results_four rfl _ _ (w.heap.size + 2) (.int .i64 1) (.int .i64 0) (.int .i64 0) (.int .i64 0) _ rfl f0 f1 f2 f3 Tryd.underlying30 rfl (by kernel_rfl)) rfl ?_
    exact ⟨rfl, fb⟩
  cases h2 : ok10 (x2, y2, m2, t2)
  · have e : join10 (x, y, m, t) (x2, y2, m2, t2) = none10 := by unfold join10; rw [if_pos (.inr h2)]
    rw [e]
    clear e hb
    obtain ⟨W, hW, H⟩ : ∃ W, W = ((w.alloc (.cells #[.int .i64 x, .int .i64 y, .int .i64 m, .int .i64 t] 30)).alloc (.cells #[.int .i64 x2, .int .i64 y2, .int .i64 m2, .int .i64 t2] 30)).alloc (.cells #[.int .i64 0, .int .i64 0, .int .i64 0, .int .i64 0] 30) ∧ Hd w [(w.heap.size + 2, 0, .int .i64 0), (w.heap.size + 2, 1, .int .i64 0), (w.heap.size + 2, 2, .int .i64 0), (w.heap.size + 2, 3, .int .i64 0), (w.heap.size + 1, 0, .int .i64 x2), (w.heap.size + 1, 1, .int .i64 y2), (w.heap.size + 1, 2, .int .i64 m2), (w.heap.size + 1, 3, .int .i64 t2), (w.heap.size, 0, .int .i64 x), (w.heap.size, 1, .int .i64 y), (w.heap.size, 2, .int .i64 m), (w.heap.size, 3, .int .i64 t)] W := ⟨_, rfl, by
      have h := ((((Hd.start w).box4 (.int .i64 x) (.int .i64 y) (.int .i64 m) (.int .i64 t) 30).box4 (.int .i64 x2) (.int .i64 y2) (.int .i64 m2) (.int .i64 t2) 30).box4 (.int .i64 0) (.int .i64 0) (.int .i64 0) (.int .i64 0) 30)
      simp only [size_alloc1] at h
      exact h⟩
    go_enter Tryd.func31, Tryd.ntmps31
    go_wp2_with fail
    rw [← hW]
    clear hW
    have c0 := H.get (b := w.heap.size) (o := 0) (v := .int .i64 x) (by simp)
    have c1 := H.get (b := w.heap.size) (o := 1) (v := .int .i64 y) (by simp)
    have c2 := H.get (b := w.heap.size) (o := 2) (v := .int .i64 m) (by simp)
    have c3 := H.get (b := w.heap.size) (o := 3) (v := .int .i64 t) (by simp)
    have c4 := H.get (b := w.heap.size + 1) (o := 0) (v := .int .i64 x2) (by simp)
    have c5 := H.get (b := w.heap.size + 1) (o := 1) (v := .int .i64 y2) (by simp)
    have c6 := H.get (b := w.heap.size + 1) (o := 2) (v := .int .i64 m2) (by simp)
    have c7 := H.get (b := w.heap.size + 1) (o := 3) (v := .int .i64 t2) (by simp)
    have c8 := H.get (b := w.heap.size + 2) (o := 0) (v := .int .i64 0) (by simp)
    have c9 := H.get (b := w.heap.size + 2) (o := 1) (v := .int .i64 0) (by simp)
    have c10 := H.get (b := w.heap.size + 2) (o := 2) (v := .int .i64 0) (by simp)
    have c11 := H.get (b := w.heap.size + 2) (o := 3) (v := .int .i64 0) (by simp)
    have z0 := H.fz (b := w.heap.size + 2) (o := 0) (v := .int .i64 0) (by simp)
    have z1 := H.fz (b := w.heap.size + 2) (o := 1) (v := .int .i64 0) (by simp)
    have z2 := H.fz (b := w.heap.size + 2) (o := 2) (v := .int .i64 0) (by simp)
    have z3 := H.fz (b := w.heap.size + 2) (o := 3) (v := .int .i64 0) (by simp)
    obtain ⟨gs, n0, n1, n2, n3⟩ := Gn.all (hN.below H.below)
    go_wp2_with (first | (go_at_call 24; refine (iVOk_xy _ _ _ _ _ (hN.below H.below) (hR.below H.below)).mono ?_; rintro e w' ⟨rfl, hb⟩; (first | rw [h] | rw [h2]); replace H := H.call hb; clear hb; have c0 := H.get (b := w.heap.size) (o := 0) (v := .int .i64 x) (by simp); have c1 := H.get (b := w.heap.size) (o := 1) (v := .int .i64 y) (by simp); have c2 := H.get (b := w.heap.size) (o := 2) (v := .int .i64 m) (by simp); have c3 := H.get (b := w.heap.size) (o := 3) (v := .int .i64 t) (by simp); have c4 := H.get (b := w.heap.size + 1) (o := 0) (v := .int .i64 x2) (by simp); have c5 := H.get (b := w.heap.size + 1) (o := 1) (v := .int .i64 y2) (by simp); have c6 := H.get (b := w.heap.size + 1) (o := 2) (v := .int .i64 m2) (by simp); have c7 := H.get (b := w.heap.size + 1) (o := 3) (v := .int .i64 t2) (by simp); have c8 := H.get (b := w.heap.size + 2) (o := 0) (v := .int .i64 0) (by simp); have c9 := H.get (b := w.heap.size + 2) (o := 1) (v := .int .i64 0) (by simp); have c10 := H.get (b := w.heap.size + 2) (o := 2) (v := .int .i64 0) (by simp); have c11 := H.get (b := w.heap.size + 2) (o := 3) (v := .int .i64 0) (by simp); have z0 := H.fz (b := w.heap.size + 2) (o := 0) (v := .int .i64 0) (by simp); have z1 := H.fz (b := w.heap.size + 2) (o := 1) (v := .int .i64 0) (by simp); have z2 := H.fz (b := w.heap.size + 2) (o := 2) (v := .int .i64 0) (by simp); have z3 := H.fz (b := w.heap.size + 2) (o := 3) (v := .int .i64 0) (by simp); obtain ⟨gs, n0, n1, n2, n3⟩ := Gn.all (hN.below H.below)))
    obtain ⟨f0, f1, f2, f3, fb⟩ := H.fill4 (b := w.heap.size + 2) (x := .int .i64 0) (y := .int .i64 0) (z := .int .i64 0) (u := .int .i64 0) (by simp) (by simp) (by simp) (by simp) (by omega) (.int .i64 1) (.int .i64 0) (.int .i64 0) (.int .i64 0)
    refine bodyPost_ret (results_four rfl _ _ (w.heap.size + 2) (.int .i64 1) (.int .i64 0) (.int .i64 0) (.int .i64 0) _ rfl f0 f1 f2 f3 Tryd.underlying30 rfl (by kernel_rfl)) rfl ?_
    exact ⟨rfl, fb⟩
  rcases isN10 x y m t with e1 | e1
  · have e : join10 (x, y, m, t) (x2, y2, m2, t2) = (x2, y2, m2, t2) := by unfold join10; rw [if_neg (by simp [h, h2]), if_pos e1]
    rw [e]
    clear e hb
    simp only [none10, Prod.mk.injEq] at e1
    obtain ⟨rfl, rfl, rfl, rfl⟩ := e1
    obtain ⟨W, hW, H⟩ : ∃ W, W = ((w.alloc (.cells #[.int .i64 1, .int .i64 0, .int .i64 0, .int .i64 0] 30)).alloc (.cells #[.int .i64 x2, .int .i64 y2, .int .i64 m2, .int .i64 t2] 30)).alloc (.cells #[.int .i64 0, .int .i64 0, .int .i64 0, .int .i64 0] 30) ∧ Hd w [(w.heap.size + 2, 0, .int .i64 0), (w.heap.size + 2, 1, .int .i64 0), (w.heap.size + 2, 2, .int .i64 0), (w.heap.size + 2, 3, .int .i64 0), (w.heap.size + 1, 0, .int .i64 x2), (w.heap.size + 1, 1, .int .i64 y2), (w.heap.size + 1, 2, .int .i64 m2), (w.heap.size + 1, 3, .int .i64 t2), (w.heap.size, 0, .int .i64 1), (w.heap.size, 1, .int .i64 0), (w.heap.size, 2, .int .i64 0), (w.heap.size, 3, .int .i64 0)] W := ⟨_, rfl, by
      have h := ((((Hd.start w).box4 (.int .i64 1) (.int .i64 0) (.int .i64 0) (.int .i64 0) 30).box4 (.int .i64 x2) (.int .i64 y2) (.int .i64 m2) (.int .i64 t2) 30).box4 (.int .i64 0) (.int .i64 0) (.int .i64 0) (.int .i64 0) 30)
      simp only [size_alloc1] at h
      exact h⟩
    go_enter Tryd.func31, Tryd.ntmps31
    go_wp2_with fail
    rw [← hW]
    clear hW
    have c0 := H.get (b := w.heap.size) (o := 0) (v := .int .i64 1) (by simp)
    have c1 := H.get (b := w.heap.size) (o := 1) (v := .int .i64 0) (by simp)
    have c2 := H.get (b := w.heap.size) (o := 2) (v := .int .i64 0) (by simp)
    have c3 := H.get (b := w.heap.size) (o := 3) (v := .int .i64 0) (by simp)
    have c4 := H.get (b := w.heap.size + 1) (o := 0) (v := .int .i64 x2) (by simp)
    have c5 := H.get (b := w.heap.size + 1) (o := 1) (v := .int .i64 y2) (by simp)
    have c6 := H.get (b := w.heap.size + 1) (o := 2) (v := .int .i64 m2) (by simp)
    have c7 := H.get (b := w.heap.size + 1) (o := 3) (v := .int .i64 t2) (by simp)
    have c8 := H.get (b := w.heap.size + 2) (o := 0) (v := .int .i64 0) (by simp)
    have c9 := H.get (b := w.heap.size + 2) (o := 1) (v := .int .i64 0) (by simp)
    have c10 := H.get (b := w.heap.size + 2) (o := 2) (v := .int .i64 0) (by simp)
    have c11 := H.get (b := w.heap.size + 2) (o := 3) (v := .int .i64 0) (by simp)
    have z0 := H.fz (b := w.heap.size + 2) (o := 0) (v := .int .i64 0) (by simp)
    have z1 := H.fz (b := w.heap.size + 2) (o := 1) (v := .int .i64 0) (by simp)
    have z2 := H.fz (b := w.heap.size + 2) (o := 2) (v := .int .i64 0) (by simp)
    have z3 := H.fz (b := w.heap.size + 2) (o := 3) (v := .int .i64 0) (by simp)
    obtain ⟨gs, n0, n1, n2, n3⟩ := Gn.all (hN.below H.below)
    go_wp2_with (first | (go_at_call 24; refine (iVOk_xy _ _ _ _ _ (hN.below H.below) (hR.below H.below)).mono ?_; rintro e w' ⟨rfl, hb⟩; (first | rw [h] | rw [h2]); replace H := H.call hb; clear hb; have c0 := H.get (b := w.heap.size) (o := 0) (v := .int .i64 1) (by simp); have c1 := H.get (b := w.heap.size) (o := 1) (v := .int .i64 0) (by simp); have c2 := H.get (b := w.heap.size) (o := 2) (v := .int .i64 0) (by simp); have c3 := H.get (b := w.heap.size) (o := 3) (v := .int .i64 0) (by simp); have c4 := H.get (b := w.heap.size + 1) (o := 0) (v := .int .i64 x2) (by simp); have c5 := H.get (b := w.heap.size + 1) (o := 1) (v := .int .i64 y2) (by simp); have c6 := H.get (b := w.heap.size + 1) (o := 2) (v := .int .i64 m2) (by simp); have c7 := H.get (b := w.heap.size + 1) (o := 3) (v := .int .i64 t2) (by simp); have c8 := H.get (b := w.heap.size + 2) (o := 0) (v := .int .i64 0) (by simp); have c9 := H.get (b := w.heap.size + 2) (o := 1) (v := .int .i64 0) (by simp); have c10 := H.get (b := w.heap.size + 2) (o := 2) (v := .int .i64 0) (by simp); have c11 := H.get (b := w.heap.size + 2) (o := 3) (v := .int .i64 0) (by simp); have z0 := H.fz (b := w.heap.size + 2) (o := 0) (v := .int .i64 0) (by simp); have z1 := H.fz (b := w.heap.size + 2) (o := 1) (v := .int .i64 0) (by simp); have z2 := H.fz (b := w.heap.size + 2) (o := 2) (v := .int .i64 0) (by simp); have z3 := H.fz (b := w.heap.size + 2) (o := 3) (v := .int .i64 0) (by simp); obtain ⟨gs, n0, n1, n2, n3⟩ := Gn.all (hN.below H.below)))
    obtain ⟨f0, f1, f2, f3, fb⟩ := H.fill4 (b := w.heap.size + 2) (x := .int .i64 0) (y := .int .i64 0) (z := .int .i64 0) (u := .int .i64 0) (by simp) (by simp) (by simp) (by simp) (by omega) (.int .i64 x2) (.int .i64 y2) (.int .i64 m2) (.int .i64 t2)
    refine bodyPost_ret (results_four rfl _ _ (w.heap.size + 2) (.int .i64 x2) (.int .i64 y2) (.int .i64 m2) (.int .i64 t2) _ rfl f0 f1 f2 f3 Tryd.underlying30 rfl (by kernel_rfl)) rfl ?_
    exact ⟨rfl, fb⟩
  · have hq1 := @ne4_if x y m t 1 0 0 0 e1
    have e2 : ((x2, y2, m2, t2) : V10) = none10 := by
      rw [h, h2] at hb
      rcases hb with hb | hb | hb | hb
      · cases hb
      · cases hb
      · exact absurd hb e1
      · exact hb
    have e : join10 (x, y, m, t) (x2, y2, m2, t2) = (x, y, m, t) := by unfold join10; rw [if_neg (by simp [h, h2]), if_neg (show ¬ ((x, y, m, t) : V10) = none10 from e1), if_pos e2]
    rw [e]
    clear e hb e1
    simp only [none10, Prod.mk.injEq] at e2
    obtain ⟨rfl, rfl, rfl, rfl⟩ := e2
    obtain ⟨W, hW, H⟩ : ∃ W, W = ((w.alloc (.cells #[.int .i64 x, .int .i64 y, .int .i64 m, .int .i64 t] 30)).alloc (.cells #[.int .i64 1, .int .i64 0, .int .i64 0, .int .i64 0] 30)).alloc (.cells #[.int .i64 0, .int .i64 0, .int .i64 0, .int .i64 0] 30) ∧ Hd w [(w.heap.size + 2, 0, .int .i64 0), (w.heap.size + 2, 1, .int .i64 0), (w.heap.size + 2, 2, .int .i64 0), (w.heap.size + 2, 3, .int .i64 0), (w.heap.size + 1, 0, .int .i64 1), (w.heap.size + 1, 1, .int .i64 0), (w.heap.size + 1, 2, .int .i64 0), (w.heap.size + 1, 3, .int .i64 0), (w.heap.size, 0, .int .i64 x), (w.heap.size, 1, .int .i64 y), (w.heap.size, 2, .int .i64 m), (w.heap.size, 3, .int .i64 t)] W := ⟨_, rfl, by
      have h := ((((Hd.start w).box4 (.int .i64 x) (.int .i64 y) (.int .i64 m) (.int .i64 t) 30).box4 (.int .i64 1) (.int .i64 0) (.int .i64 0) (.int .i64 0) 30).box4 (.int .i64 0) (.int .i64 0) (.int .i64 0) (.int .i64 0) 30)
      simp only [size_alloc1] at h
      exact h⟩
    go_enter Tryd.func31, Tryd.ntmps31
    go_wp2_with fail
    rw [← hW]
    clear hW
    have c0 := H.get (b := w.heap.size) (o := 0) (v := .int .i64 x) (by simp)
    have c1 := H.get (b := w.heap.size) (o := 1) (v := .int .i64 y) (by simp)
    have c2 := H.get (b := w.heap.size) (o := 2) (v := .int .i64 m) (by simp)
    have c3 := H.get (b := w.heap.size) (o := 3) (v := .int .i64 t) (by simp)
    have c4 := H.get (b := w.heap.size + 1) (o := 0) (v := .int .i64 1) (by simp)
    have c5 := H.get (b := w.heap.size + 1) (o := 1) (v := .int .i64 0) (by simp)
    have c6 := H.get (b := w.heap.size + 1) (o := 2) (v := .int .i64 0) (by simp)
    have c7 := H.get (b := w.heap.size + 1) (o := 3) (v := .int .i64 0) (by simp)
    have c8 := H.get (b := w.heap.size + 2) (o := 0) (v := .int .i64 0) (by simp)
    have c9 := H.get (b := w.heap.size + 2) (o := 1) (v := .int .i64 0) (by simp)
    have c10 := H.get (b := w.heap.size + 2) (o := 2) (v := .int .i64 0) (by simp)
    have c11 := H.get (b := w.heap.size + 2) (o := 3) (v := .int .i64 0) (by simp)
    have z0 := H.fz (b := w.heap.size + 2) (o := 0) (v := .int .i64 0) (by simp)
    have z1 := H.fz (b := w.heap.size + 2) (o := 1) (v := .int .i64 0) (by simp)
    have z2 := H.fz (b := w.heap.size + 2) (o := 2) (v := .int .i64 0) (by simp)
    have z3 := H.fz (b := w.heap.size + 2) (o := 3) (v := .int .i64 0) (by simp)
    obtain ⟨gs, n0, n1, n2, n3⟩ := Gn.all (hN.below H.below)
    go_wp2_with (first | (go_at_call 24; refine (iVOk_xy _ _ _ _ _ (hN.below H.below) (hR.below H.below)).mono ?_; rintro e w' ⟨rfl, hb⟩; (first | rw [h] | rw [h2]); replace H := H.call hb; clear hb; have c0 := H.get (b := w.heap.size) (o := 0) (v := .int .i64 x) (by simp); have c1 := H.get (b := w.heap.size) (o := 1) (v := .int .i64 y) (by simp); have c2 := H.get (b := w.heap.size) (o := 2) (v := .int .i64 m) (by simp); have c3 := H.get (b := w.heap.size) (o := 3) (v := .int .i64 t) (by simp); have c4 := H.get (b := w.heap.size + 1) (o := 0) (v := .int .i64 1) (by simp); have c5 := H.get (b := w.heap.size + 1) (o := 1) (v := .int .i64 0) (by simp); have c6 := H.get (b := w.heap.size + 1) (o := 2) (v := .int .i64 0) (by simp); have c7 := H.get (b := w.heap.size + 1) (o := 3) (v := .int .i64 0) (by simp); have c8 := H.get (b := w.heap.size + 2) (o := 0) (v := .int .i64 0) (by simp); have c9 := H.get (b := w.heap.size + 2) (o := 1) (v := .int .i64 0) (by simp); have c10 := H.get (b := w.heap.size + 2) (o := 2) (v := .int .i64 0) (by simp); have c11 := H.get (b := w.heap.size + 2) (o := 3) (v := .int .i64 0) (by simp); have z0 := H.fz (b := w.heap.size + 2) (o := 0) (v := .int .i64 0) (by simp); have z1 := H.fz (b := w.heap.size + 2) (o := 1) (v := .int .i64 0) (by simp); have z2 := H.fz (b := w.heap.size + 2) (o := 2) (v := .int .i64 0) (by simp); have z3 := H.fz (b := w.heap.size + 2) (o := 3) (v := .int .i64 0) (by simp); obtain ⟨gs, n0, n1, n2, n3⟩ := Gn.all (hN.below H.below)))
    obtain ⟨f0, f1, f2, f3, fb⟩ := H.fill4 (b := w.heap.size + 2) (x := .int .i64 0) (y := .int .i64 0) (z := .int .i64 0) (u := .int .i64 0) (by simp) (by simp) (by simp) (by simp) (by omega) (.int .i64 x) (.int .i64 y) (.int .i64 m) (.int .i64 t)
    refine bodyPost_ret (results_four rfl _ _ (w.heap.size + 2) (.int .i64 x) (.int .i64 y) (.int .i64 m) (.int .i64 t) _ rfl f0 f1 f2 f3 Tryd.underlying30 rfl (by kernel_rfl)) rfl ?_
    exact ⟨rfl, fb⟩
set_option maxRecDepth 100000 in
set_option maxHeartbeats 4000000 in
theorem iVJoin_some (x y m t x2 y2 m2 t2 : Int) (h : ok10 (x, y, m, t) = true) (h2 : ok10 (x2, y2, m2, t2) = true) (e1 : ((x, y, m, t) : V10) ≠ (1, 0, 0, 0)) (e2 : ((x2, y2, m2, t2) : V10) ≠ (1, 0, 0, 0)) (w : World) (hN : Gn w) (hR : Gv w 1 none8) (hQ : Gq w) :
    Calls Tryd.prog 31 #[.agg #[.int .i64 x, .int .i64 y, .int .i64 m, .int .i64 t], .agg #[.int .i64 x2, .int .i64 y2, .int .i64 m2, .int .i64 t2]] w fun e w' => e = .returned (.agg #[.int .i64 (join10 (x, y, m, t) (x2, y2, m2, t2)).1, .int .i64 (join10 (x, y, m, t) (x2, y2, m2, t2)).2.1, .int .i64 (join10 (x, y, m, t) (x2, y2, m2, t2)).2.2.1, .int .i64 (join10 (x, y, m, t) (x2, y2, m2, t2)).2.2.2]) ∧ Below w.heap.size w w' := by
  have hq1 := @ne4_if x y m t 1 0 0 0 e1
  have hq2 := @ne4_if x2 y2 m2 t2 1 0 0 0 e2
  have e : join10 (x, y, m, t) (x2, y2, m2, t2) = make10 (join8 (x, y) (x2, y2)) (join9 (m, t) (m2, t2)) := join10_some ((some10_iff _).2 ⟨h, e1⟩) ((some10_iff _).2 ⟨h2, e2⟩)
  rw [e]
  clear e e1 e2
  have hJ := fun w (hR : Gv w 1 none8) => iJoin_xy x y x2 y2 w hR
  have hK := fun w (hQ : Gq w) => iRestJoin_xy m t m2 t2 w hQ
  generalize join8 (x, y) (x2, y2) = j at *
  generalize join9 (m, t) (m2, t2) = k at *
  obtain ⟨j1, j2⟩ := j
  obtain ⟨r1, r2⟩ := k
  have hM := fun w (hN : Gn w) (hR : Gv w 1 none8) => iMake_xy j1 j2 r1 r2 w hN hR
  generalize make10 (j1, j2) (r1, r2) = q at *
  obtain ⟨W, hW, H⟩ : ∃ W, W = ((w.alloc (.cells #[.int .i64 x, .int .i64 y, .int .i64 m, .int .i64 t] 30)).alloc (.cells #[.int .i64 x2, .int .i64 y2, .int .i64 m2, .int .i64 t2] 30)).alloc (.cells #[.int .i64 0, .int .i64 0, .int .i64 0, .int .i64 0] 30) ∧ Hd w [(w.heap.size + 2, 0, .int .i64 0), (w.heap.size + 2, 1, .int .i64 0), (w.heap.size + 2, 2, .int .i64 0), (w.heap.size + 2, 3, .int .i64 0), (w.heap.size + 1, 0, .int .i64 x2), (w.heap.size + 1, 1, .int .i64 y2), (w.heap.size + 1, 2, .int .i64 m2), (w.heap.size + 1, 3, .int .i64 t2), (w.heap.size, 0, .int .i64 x), (w.heap.size, 1, .int .i64 y), (w.heap.size, 2, .int .i64 m), (w.heap.size, 3, .int .i64 t)] W := ⟨_, rfl, by
    have h := ((((Hd.start w).box4 (.int .i64 x) (.int .i64 y) (.int .i64 m) (.int .i64 t) 30).box4 (.int .i64 x2) (.int .i64 y2) (.int .i64 m2) (.int .i64 t2) 30).box4 (.int .i64 0) (.int .i64 0) (.int .i64 0) (.int .i64 0) 30)
    simp only [size_alloc1] at h
    exact h⟩
  go_enter Tryd.func31, Tryd.ntmps31
  go_wp2_with fail
  rw [← hW]
  clear hW
  have c0 := H.get (b := w.heap.size) (o := 0) (v := .int .i64 x) (by simp)
  have c1 := H.get (b := w.heap.size) (o := 1) (v := .int .i64 y) (by simp)
  have c2 := H.get (b := w.heap.size) (o := 2) (v := .int .i64 m) (by simp)
  have c3 := H.get (b := w.heap.size) (o := 3) (v := .int .i64 t) (by simp)
  have c4 := H.get (b := w.heap.size + 1) (o := 0) (v := .int .i64 x2) (by simp)
  have c5 := H.get (b := w.heap.size + 1) (o := 1) (v := .int .i64 y2) (by simp)
  have c6 := H.get (b := w.heap.size + 1) (o := 2) (v := .int .i64 m2) (by simp)
  have c7 := H.get (b := w.heap.size + 1) (o := 3) (v := .int .i64 t2) (by simp)
  have c8 := H.get (b := w.heap.size + 2) (o := 0) (v := .int .i64 0) (by simp)
  have c9 := H.get (b := w.heap.size + 2) (o := 1) (v := .int .i64 0) (by simp)
  have c10 := H.get (b := w.heap.size + 2) (o := 2) (v := .int .i64 0) (by simp)
  have c11 := H.get (b := w.heap.size + 2) (o := 3) (v := .int .i64 0) (by simp)
  have z0 := H.fz (b := w.heap.size + 2) (o := 0) (v := .int .i64 0) (by simp)
  have z1 := H.fz (b := w.heap.size + 2) (o := 1) (v := .int .i64 0) (by simp)
  have z2 := H.fz (b := w.heap.size + 2) (o := 2) (v := .int .i64 0) (by simp)
  have z3 := H.fz (b := w.heap.size + 2) (o := 3) (v := .int .i64 0) (by simp)
  obtain ⟨gs, n0, n1, n2, n3⟩ := Gn.all (hN.below H.below)
  go_wp2_with (first | (go_at_call 24; refine (iVOk_xy _ _ _ _ _ (hN.below H.below) (hR.below H.below)).mono ?_; rintro e w' ⟨rfl, hb⟩; (first | rw [h] | rw [h2]); replace H := H.call hb; clear hb; have c0 := H.get (b := w.heap.size) (o := 0) (v := .int .i64 x) (by simp); have c1 := H.get (b := w.heap.size) (o := 1) (v := .int .i64 y) (by simp); have c2 := H.get (b := w.heap.size) (o := 2) (v := .int .i64 m) (by simp); have c3 := H.get (b := w.heap.size) (o := 3) (v := .int .i64 t) (by simp); have c4 := H.get (b := w.heap.size + 1) (o := 0) (v := .int .i64 x2) (by simp); have c5 := H.get (b := w.heap.size + 1) (o := 1) (v := .int .i64 y2) (by simp); have c6 := H.get (b := w.heap.size + 1) (o := 2) (v := .int .i64 m2) (by simp); have c7 := H.get (b := w.heap.size + 1) (o := 3) (v := .int .i64 t2) (by simp); have c8 := H.get (b := w.heap.size + 2) (o := 0) (v := .int .i64 0) (by simp); have c9 := H.get (b := w.heap.size + 2) (o := 1) (v := .int .i64 0) (by simp); have c10 := H.get (b := w.heap.size + 2) (o := 2) (v := .int .i64 0) (by simp); have c11 := H.get (b := w.heap.size + 2) (o := 3) (v := .int .i64 0) (by simp); have z0 := H.fz (b := w.heap.size + 2) (o := 0) (v := .int .i64 0) (by simp); have z1 := H.fz (b := w.heap.size + 2) (o := 1) (v := .int .i64 0) (by simp); have z2 := H.fz (b := w.heap.size + 2) (o := 2) (v := .int .i64 0) (by simp); have z3 := H.fz (b := w.heap.size + 2) (o := 3) (v := .int .i64 0) (by simp); obtain ⟨gs, n0, n1, n2, n3⟩ := Gn.all (hN.below H.below)))
  apply wp_region_free2 6 4 5 5 6 (.cells #[.int .i64 0, .int .i64 0, .int .i64 0, .int .i64 0] 98) (.cells #[.int .i64 0, .int .i64 0, .int .i64 0, .int .i64 0] 98) (by decide) (by decide) (Nat.le_of_ble_eq_true rfl) (by kernel_rfl) (by kernel_rfl) (by kernel_rfl) (by kernel_rfl) (by intro o ho; have ho' := Option.some.inj ho; subst ho'; intro a w; kernel_rfl) (by intro o ho; have ho' := Option.some.inj ho; subst ho'; intro a w; kernel_rfl)
  case hq =>
    intro W hWB
    replace H := H.call hWB
    have k0 := fun p : Over _ => H.over (b := w.heap.size) (o := 0) (v := .int .i64 x) (by simp) p
    have k1 := fun p : Over _ => H.over (b := w.heap.size) (o := 1) (v := .int .i64 y) (by simp) p
    have k2 := fun p : Over _ => H.over (b := w.heap.size) (o := 2) (v := .int .i64 m) (by simp) p
    have k3 := fun p : Over _ => H.over (b := w.heap.size) (o := 3) (v := .int .i64 t) (by simp) p
    have k4 := fun p : Over _ => H.over (b := w.heap.size + 1) (o := 0) (v := .int .i64 x2) (by simp) p
    have k5 := fun p : Over _ => H.over (b := w.heap.size + 1) (o := 1) (v := .int .i64 y2) (by simp) p
    have k6 := fun p : Over _ => H.over (b := w.heap.size + 1) (o := 2) (v := .int .i64 m2) (by simp) p
    have k7 := fun p : Over _ => H.over (b := w.heap.size + 1) (o := 3) (v := .int .i64 t2) (by simp) p
    simp only [rep, List.take_succ_cons, List.take_zero, List.contains_cons, List.contains_nil, Nat.reduceBEq, Bool.or_false, Bool.or_true, Bool.false_eq_true, ↓reduceIte, Nat.reduceAdd, Nat.zero_add, tv, tw, Bool.or_self, beq_self_eq_true]
    repeat (go_big_quiet_step (first | (go_at_call 93; rename_i p; refine (parts_xy _ _ _ _ _).mono ?_; rintro e' w' ⟨rfl, hb1⟩; exact ⟨rfl, p.next hb1⟩)))
    exact wpQuiet_nil rfl
  case hk =>
    intro w4 g g2 hb hg0 hg1 hg hg3 hg4 hg5 hne
    simp only [List.drop_succ_cons, List.drop_zero, Act.put, ptr0, List.setIfInBounds_toArray, List.set_cons_succ, List.set_cons_zero]
    have hl0 := H.lt (b := w.heap.size + 2) (o := 0) (v := .int .i64 0) (by simp)
    have H1 := ((H.call hb).new4 hg1 hg).new4 hg4 hg5
    have dc0 := H1.get (b := g) (o := 0) (v := .int .i64 0) (by simp)
    have dc1 := H1.get (b := g) (o := 1) (v := .int .i64 0) (by simp)
    have dc2 := H1.get (b := g) (o := 2) (v := .int .i64 0) (by simp)
    have dc3 := H1.get (b := g) (o := 3) (v := .int .i64 0) (by simp)
    have dc4 := H1.get (b := g2) (o := 0) (v := .int .i64 0) (by simp)
    have dc5 := H1.get (b := g2) (o := 1) (v := .int .i64 0) (by simp)
    have dc6 := H1.get (b := g2) (o := 2) (v := .int .i64 0) (by simp)
    have dc7 := H1.get (b := g2) (o := 3) (v := .int .i64 0) (by simp)
    have dz0 := H1.fz (b := g) (o := 0) (v := .int .i64 0) (by simp)
    have dz1 := H1.fz (b := g) (o := 1) (v := .int .i64 0) (by simp)
    have dz2 := H1.fz (b := g) (o := 2) (v := .int .i64 0) (by simp)
    have dz3 := H1.fz (b := g) (o := 3) (v := .int .i64 0) (by simp)
    have dz4 := H1.fz (b := g2) (o := 0) (v := .int .i64 0) (by simp)
    have dz5 := H1.fz (b := g2) (o := 1) (v := .int .i64 0) (by simp)
    have dz6 := H1.fz (b := g2) (o := 2) (v := .int .i64 0) (by simp)
    have dz7 := H1.fz (b := g2) (o := 3) (v := .int .i64 0) (by simp)
    obtain ⟨w5, hw5, H5⟩ : ∃ W5, W5 = ((((((((w4.setCell ⟨g, 0, none⟩ (.int .i64 x)).setCell ⟨g, 1, none⟩ (.int .i64 y)).setCell ⟨g, 2, none⟩ (.int .i64 m)).setCell ⟨g, 3, none⟩ (.int .i64 t)).setCell ⟨g2, 0, none⟩ (.int .i64 x2)).setCell ⟨g2, 1, none⟩ (.int .i64 y2)).setCell ⟨g2, 2, none⟩ (.int .i64 m2)).setCell ⟨g2, 3, none⟩ (.int .i64 t2)) ∧ Hd w [(g2, 0, .int .i64 x2), (g2, 1, .int .i64 y2), (g2, 2, .int .i64 m2), (g2, 3, .int .i64 t2), (g, 0, .int .i64 x), (g, 1, .int .i64 y), (g, 2, .int .i64 m), (g, 3, .int .i64 t), (w.heap.size + 2, 0, .int .i64 0), (w.heap.size + 2, 1, .int .i64 0), (w.heap.size + 2, 2, .int .i64 0), (w.heap.size + 2, 3, .int .i64 0), (w.heap.size + 1, 0, .int .i64 x2), (w.heap.size + 1, 1, .int .i64 y2), (w.heap.size + 1, 2, .int .i64 m2), (w.heap.size + 1, 3, .int .i64 t2), (w.heap.size, 0, .int .i64 x), (w.heap.size, 1, .int .i64 y), (w.heap.size, 2, .int .i64 m), (w.heap.size, 3, .int .i64 t)] W5 := ⟨_, rfl, by
      have k1 : Hd w [(g, 0, .int .i64 0), (g, 1, .int .i64 0), (g, 2, .int .i64 0), (g, 3, .int .i64 0), (g2, 0, .int .i64 0), (g2, 1, .int .i64 0), (g2, 2, .int .i64 0), (g2, 3, .int .i64 0), (w.heap.size + 2, 0, .int .i64 0), (w.heap.size + 2, 1, .int .i64 0), (w.heap.size + 2, 2, .int .i64 0), (w.heap.size + 2, 3, .int .i64 0), (w.heap.size + 1, 0, .int .i64 x2), (w.heap.size + 1, 1, .int .i64 y2), (w.heap.size + 1, 2, .int .i64 m2), (w.heap.size + 1, 3, .int .i64 t2), (w.heap.size, 0, .int .i64 x), (w.heap.size, 1, .int .i64 y), (w.heap.size, 2, .int .i64 m), (w.heap.size, 3, .int .i64 t)] w4 := H1.weak (by simp; try grind)
      have k2 := Hd.setF k1 (by omega) (by simp; omega) (.int .i64 x) (.int .i64 y) (.int .i64 m) (.int .i64 t)
      have k3 : Hd w [(g2, 0, .int .i64 0), (g2, 1, .int .i64 0), (g2, 2, .int .i64 0), (g2, 3, .int .i64 0), (g, 0, .int .i64 x), (g, 1, .int .i64 y), (g, 2, .int .i64 m), (g, 3, .int .i64 t), (w.heap.size + 2, 0, .int .i64 0), (w.heap.size + 2, 1, .int .i64 0), (w.heap.size + 2, 2, .int .i64 0), (w.heap.size + 2, 3, .int .i64 0), (w.heap.size + 1, 0, .int .i64 x2), (w.heap.size + 1, 1, .int .i64 y2), (w.heap.size + 1, 2, .int .i64 m2), (w.heap.size + 1, 3, .int .i64 t2), (w.heap.size, 0, .int .i64 x), (w.heap.size, 1, .int .i64 y), (w.heap.size, 2, .int .i64 m), (w.heap.size, 3, .int .i64 t)] _ := k2.weak (by simp; try grind)
      exact Hd.setF k3 (by omega) (by simp; omega) (.int .i64 x2) (.int .i64 y2) (.int .i64 m2) (.int .i64 t2)⟩
    go_simp
    go_wp2
    rw [← hw5]
    clear hw5 H H1 hb
    have H := H5
    clear H5
    replace hN := hN.below H.below
    replace hR := hR.below H.below
    replace hQ := Gv.below hQ H.below
    clear c0 c1 c2 c3 c4 c5 c6 c7 c8 c9 c10 c11 z0 z1 z2 z3 gs n0 n1 n2 n3 dc0 dc1 dc2 dc3 dc4 dc5 dc6 dc7 dz0 dz1 dz2 dz3 dz4 dz5 dz6 dz7
    have k0 := fun p : Over _ => H.over (b := g) (o := 0) (v := .int .i64 x) (by simp) p
    have k1 := fun p : Over _ => H.over (b := g) (o := 1) (v := .int .i64 y) (by simp) p
    have k2 := fun p : Over _ => H.over (b := g) (o := 2) (v := .int .i64 m) (by simp) p
    have k3 := fun p : Over _ => H.over (b := g) (o := 3) (v := .int .i64 t) (by simp) p
    have k4 := fun p : Over _ => H.over (b := g2) (o := 0) (v := .int .i64 x2) (by simp) p
    have k5 := fun p : Over _ => H.over (b := g2) (o := 1) (v := .int .i64 y2) (by simp) p
    have k6 := fun p : Over _ => H.over (b := g2) (o := 2) (v := .int .i64 m2) (by simp) p
    have k7 := fun p : Over _ => H.over (b := g2) (o := 3) (v := .int .i64 t2) (by simp) p
    refine wp_region_tail_over rfl rfl rfl rfl (by kernel_rfl) (by kernel_rfl) (by kernel_rfl) ?_
    simp only [List.dropLast, tv, List.cons_append, List.nil_append]
    repeat (go_big_quiet_step (first | (go_at_call 100; rename_i p; refine (hJ _ (hR.over p)).mono ?_; rintro e' w' ⟨rfl, hb1⟩; exact ⟨rfl, p.next hb1⟩) | (go_at_call 71; rename_i p; refine (hK _ (Gv.over hQ p)).mono ?_; rintro e' w' ⟨rfl, hb1⟩; exact ⟨rfl, p.next hb1⟩) | (go_at_call 22; rename_i p; refine (hM _ (hN.over p) (hR.over p)).mono ?_; rintro e' w' ⟨rfl, hb1⟩; exact ⟨rfl, p.next hb1⟩)))
    refine wpQuiet_nil ?_
    rintro _ ⟨p, rfl⟩
    replace H := H.call p.below
    clear k0 k1 k2 k3 k4 k5 k6 k7
    generalize p.w = w6 at *
    clear p
    have rc0 := H.get (b := w.heap.size + 2) (o := 0) (v := .int .i64 0) (by simp)
    have rc1 := H.get (b := w.heap.size + 2) (o := 1) (v := .int .i64 0) (by simp)
    have rc2 := H.get (b := w.heap.size + 2) (o := 2) (v := .int .i64 0) (by simp)
    have rc3 := H.get (b := w.heap.size + 2) (o := 3) (v := .int .i64 0) (by simp)
    have rz0 := H.fz (b := w.heap.size + 2) (o := 0) (v := .int .i64 0) (by simp)
    have rz1 := H.fz (b := w.heap.size + 2) (o := 1) (v := .int .i64 0) (by simp)
    have rz2 := H.fz (b := w.heap.size + 2) (o := 2) (v := .int .i64 0) (by simp)
    have rz3 := H.fz (b := w.heap.size + 2) (o := 3) (v := .int .i64 0) (by simp)
    go_simp
    go_wp2
    obtain ⟨f0, f1, f2, f3, fb⟩ := H.fill4 (b := w.heap.size + 2) (x := .int .i64 0) (y := .int .i64 0) (z := .int .i64 0) (u := .int .i64 0) (by simp) (by simp) (by simp) (by simp) (by omega) (.int .i64 q.1) (.int .i64 q.2.1) (.int .i64 q.2.2.1) (.int .i64 q.2.2.2)
    refine bodyPost_ret (results_four rfl _ _ (w.heap.size + 2) (.int .i64 q.1) (.int .i64 q.2.1) (.int .i64 q.2.2.1) (.int .i64 q.2.2.2) _ rfl f0 f1 f2 f3 Tryd.underlying30 rfl (by kernel_rfl)) rfl ?_
    exact ⟨rfl, fb⟩
theorem iVJoin_xy (x y m t x2 y2 m2 t2 : Int) (w : World) (hN : Gn w) (hR : Gv w 1 none8) (hQ : Gq w) :
    Calls Tryd.prog 31 #[.agg #[.int .i64 x, .int .i64 y, .int .i64 m, .int .i64 t], .agg #[.int .i64 x2, .int .i64 y2, .int .i64 m2, .int .i64 t2]] w fun e w' => e = .returned (.agg #[.int .i64 (join10 (x, y, m, t) (x2, y2, m2, t2)).1, .int .i64 (join10 (x, y, m, t) (x2, y2, m2, t2)).2.1, .int .i64 (join10 (x, y, m, t) (x2, y2, m2, t2)).2.2.1, .int .i64 (join10 (x, y, m, t) (x2, y2, m2, t2)).2.2.2]) ∧ Below w.heap.size w w' := by
  by_cases hb : ok10 (x, y, m, t) = false ∨ ok10 (x2, y2, m2, t2) = false ∨ ((x, y, m, t) : V10) = none10 ∨ ((x2, y2, m2, t2) : V10) = none10
  · exact iVJoin_bad x y m t x2 y2 m2 t2 hb w hN hR
  · simp only [not_or, Bool.not_eq_false] at hb
    exact iVJoin_some x y m t x2 y2 m2 t2 hb.1 hb.2.1 hb.2.2.1 hb.2.2.2 w hN hR hQ
end Go.Proofs.YthbbgkpkijlclaaDoor.num
