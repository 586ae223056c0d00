/-
  What a name stands for: the model's answer as a plain function of the table.
-/
import Derived.Test.YtkfikpapgmamdaaB
namespace Go.Proofs.Ytkfikpapgmamdaa.nk
open Go.RowKit Go.Proofs.Ytkfikpapgmamdaa.num
set_option linter.unusedVariables false

/-- What a name stands for in the whole program. -/
noncomputable def outer (t : Tb) (name : ByteArray) : Int × Int :=
  match pos (t.arrays.map (·.name)) name with
  | some n => (1, n)
  | none => match pos t.globals name with
    | some n => (2, n)
    | none => match pos (t.funcs.map (·.name)) name with
      | some n => (5, n)
      | none => (0, 0)
/-- What it stands for within a function. -/
noncomputable def inner (u : Fu) (name : ByteArray) : Int × Int :=
  match pos u.ints name with
  | some n => (3, n)
  | none => match pos u.refs name with
    | some n => (4, n)
    | none => (0, 0)
noncomputable def kindOf (t : Tb) (fn name : ByteArray) : Int × Int :=
  match (pos (t.funcs.map (·.name)) fn).bind (fun f => t.funcs[f]?) with
  | none => outer t name
  | some u => if (inner u name).1 = 0 then outer t name else inner u name

theorem cell_of {w : World} {b i : Nat} {cs : Array Value} {t : TypeId} {fr : Nat × Nat} {v : Value} (h : w.heap[b]? = some (.cells cs t fr)) (hi : cs[i]? = some v) : w.cell? ⟨b, i, none⟩ = some v := by simp [World.cell?, h, hi]

variable {base : Nat}
/-- What the walk keeps: the table, its box. -/
structure K5 (base : Nat) (w : World) (B : Nat) (va vg vf : Value) (t : Tb) (wx : World) : Prop where
  tb : TbAt base wx va vg vf t
  c0 : wx.cell? ⟨B, 0, none⟩ = some va
  c1 : wx.cell? ⟨B, 1, none⟩ = some vg
  c2 : wx.cell? ⟨B, 2, none⟩ = some vf
  lt : B < wx.heap.size
  bel : Below w.heap.size w wx
theorem K5.next {w : World} {B : Nat} {va vg vf : Value} {t : Tb} {wx wy : World} (h : K5 base w B va vg vf t wx) (hb : Below wx.heap.size wx wy) : K5 base w B va vg vf t wy :=
  ⟨h.tb.below hb, by rw [hb.cell (by exact h.lt)]; exact h.c0, by rw [hb.cell (by exact h.lt)]; exact h.c1, by rw [hb.cell (by exact h.lt)]; exact h.c2, Nat.lt_of_lt_of_le h.lt hb.size, h.bel.trans (hb.mono h.bel.size)⟩
/-- .. and the function that was found. -/
structure K6 (base : Nat) (b off f : Nat) (vi vr : Value) (u : Fu) (wx : World) : Prop where
  c2 : wx.cell? ⟨b, off + f * 5 + 2, none⟩ = some vi
  c3 : wx.cell? ⟨b, off + f * 5 + 3, none⟩ = some vr
  lt : b < wx.heap.size
  si : Strs base wx vi u.ints
  sr : Strs base wx vr u.refs
theorem K6.next {b off f : Nat} {vi vr : Value} {u : Fu} {wx wy : World} (h : K6 base b off f vi vr u wx) (hb : Below wx.heap.size wx wy) : K6 base b off f vi vr u wy :=
  ⟨by rw [hb.cell (by exact h.lt)]; exact h.c2, by rw [hb.cell (by exact h.lt)]; exact h.c3, Nat.lt_of_lt_of_le h.lt hb.size, h.si.sbelow hb, h.sr.sbelow hb⟩
theorem K5.start {w : World} {va vg vf : Value} {t : Tb} (h : TbAt base w va vg vf t) : K5 base w w.heap.size va vg vf t (w.alloc (.cells #[va, vg, vf] 33)) := by
  have hb : Below w.heap.size w (w.alloc (.cells #[va, vg, vf] 33)) := (Below.refl _ _).alloc (Nat.le_refl _) _
  exact ⟨h.below hb, cell_of (MapKept.heap_alloc w _).1 rfl, cell_of (MapKept.heap_alloc w _).1 rfl, cell_of (MapKept.heap_alloc w _).1 rfl, by simp, hb⟩

theorem ret2 {a b : Int} {p : Int × Int} (h : p = (a, b)) : Ending.returned (.tuple #[.int .i64 a, .int .i64 b]) = .returned (.tuple #[.int .i64 p.1, .int .i64 p.2]) := by rw [h]

set_option maxHeartbeats 4000000 in
set_option maxRecDepth 100000 in
theorem sk_0A (t : Tb) (fn name : ByteArray) (va vg vf : Value) (w : World) (n : Nat) (h : TbAt base w va vg vf t) (hf : pos (t.funcs.map (·.name)) fn = none) (ha : pos (t.arrays.map (·.name)) name = some n) :
    Calls Try.prog 5 #[.agg #[va, vg, vf], .string fn, .string name] w fun e w' => e = .returned (.tuple #[.int .i64 ((1, (n : Int)) : Int × Int).1, .int .i64 ((1, (n : Int)) : Int × Int).2]) ∧ Below w.heap.size w w' := by
  have h5 := K5.start h
  have c0 := h5.c0
  have c1 := h5.c1
  have c2 := h5.c2
  have wl := h5.lt
  have pf := posI_none hf
  have pa := posI_some ha
  clear h ha hf
  go_enter Try.func5, Try.ntmps5
  go_wp2_with (first | (go_at_call 12; refine (func_any _ _ _ _ _ _ h5.tb.funcs).mono ?_; rintro e w1 ⟨rfl, hb⟩; replace h5 := h5.next hb; have c0 := h5.c0; have c1 := h5.c1; have c2 := h5.c2; have wl := h5.lt; clear hb) | (go_at_call 14; refine (array_any _ _ _ _ _ _ h5.tb.arrays).mono ?_; rintro e w1 ⟨rfl, hb⟩; replace h5 := h5.next hb; have c0 := h5.c0; have c1 := h5.c1; have c2 := h5.c2; have wl := h5.lt; clear hb) | (go_at_call 13; refine (texts_any _ _ _ _ h5.tb.globals).mono ?_; rintro e w1 ⟨rfl, rfl⟩))
  go_ret2
  exact ⟨rfl, h5.bel⟩

set_option maxHeartbeats 4000000 in
set_option maxRecDepth 100000 in
theorem sk_0G (t : Tb) (fn name : ByteArray) (va vg vf : Value) (w : World) (n : Nat) (h : TbAt base w va vg vf t) (hf : pos (t.funcs.map (·.name)) fn = none) (ha : pos (t.arrays.map (·.name)) name = none ∧ pos t.globals name = some n) :
    Calls Try.prog 5 #[.agg #[va, vg, vf], .string fn, .string name] w fun e w' => e = .returned (.tuple #[.int .i64 ((2, (n : Int)) : Int × Int).1, .int .i64 ((2, (n : Int)) : Int × Int).2]) ∧ Below w.heap.size w w' := by
  have h5 := K5.start h
  have c0 := h5.c0
  have c1 := h5.c1
  have c2 := h5.c2
  have wl := h5.lt
  have pf := posI_none hf
  have pa := posI_none ha.1
  have pg := posI_some ha.2
  clear h ha hf
  go_enter Try.func5, Try.ntmps5
  go_wp2_with (first | (go_at_call 12; refine (func_any _ _ _ _ _ _ h5.tb.funcs).mono ?_; rintro e w1 ⟨rfl, hb⟩; replace h5 := h5.next hb; have c0 := h5.c0; have c1 := h5.c1; have c2 := h5.c2; have wl := h5.lt; clear hb) | (go_at_call 14; refine (array_any _ _ _ _ _ _ h5.tb.arrays).mono ?_; rintro e w1 ⟨rfl, hb⟩; replace h5 := h5.next hb; have c0 := h5.c0; have c1 := h5.c1; have c2 := h5.c2; have wl := h5.lt; clear hb) | (go_at_call 13; refine (texts_any _ _ _ _ h5.tb.globals).mono ?_; rintro e w1 ⟨rfl, rfl⟩))
  go_ret2
  exact ⟨rfl, h5.bel⟩

set_option maxHeartbeats 4000000 in
set_option maxRecDepth 100000 in
theorem sk_0F (t : Tb) (fn name : ByteArray) (va vg vf : Value) (w : World) (n : Nat) (h : TbAt base w va vg vf t) (hf : pos (t.funcs.map (·.name)) fn = none) (ha : pos (t.arrays.map (·.name)) name = none ∧ pos t.globals name = none ∧ pos (t.funcs.map (·.name)) name = some n) :
    Calls Try.prog 5 #[.agg #[va, vg, vf], .string fn, .string name] w fun e w' => e = .returned (.tuple #[.int .i64 ((5, (n : Int)) : Int × Int).1, .int .i64 ((5, (n : Int)) : Int × Int).2]) ∧ Below w.heap.size w w' := by
  have h5 := K5.start h
  have c0 := h5.c0
  have c1 := h5.c1
  have c2 := h5.c2
  have wl := h5.lt
  have pf := posI_none hf
  have pa := posI_none ha.1
  have pg := posI_none ha.2.1
  have pf2 := posI_some ha.2.2
  clear h ha hf
  go_enter Try.func5, Try.ntmps5
  go_wp2_with (first | (go_at_call 12; refine (func_any _ _ _ _ _ _ h5.tb.funcs).mono ?_; rintro e w1 ⟨rfl, hb⟩; replace h5 := h5.next hb; have c0 := h5.c0; have c1 := h5.c1; have c2 := h5.c2; have wl := h5.lt; clear hb) | (go_at_call 14; refine (array_any _ _ _ _ _ _ h5.tb.arrays).mono ?_; rintro e w1 ⟨rfl, hb⟩; replace h5 := h5.next hb; have c0 := h5.c0; have c1 := h5.c1; have c2 := h5.c2; have wl := h5.lt; clear hb) | (go_at_call 13; refine (texts_any _ _ _ _ h5.tb.globals).mono ?_; rintro e w1 ⟨rfl, rfl⟩))
  go_ret2
  exact ⟨rfl, h5.bel⟩

set_option maxHeartbeats 4000000 in
set_option maxRecDepth 100000 in
theorem sk_0N (t : Tb) (fn name : ByteArray) (va vg vf : Value) (w : World) (n : Nat) (h : TbAt base w va vg vf t) (hf : pos (t.funcs.map (·.name)) fn = none) (ha : pos (t.arrays.map (·.name)) name = none ∧ pos t.globals name = none ∧ pos (t.funcs.map (·.name)) name = none) :
    Calls Try.prog 5 #[.agg #[va, vg, vf], .string fn, .string name] w fun e w' => e = .returned (.tuple #[.int .i64 ((0, 0) : Int × Int).1, .int .i64 ((0, 0) : Int × Int).2]) ∧ Below w.heap.size w w' := by
  have h5 := K5.start h
  have c0 := h5.c0
  have c1 := h5.c1
  have c2 := h5.c2
  have wl := h5.lt
  have pf := posI_none hf
  have pa := posI_none ha.1
  have pg := posI_none ha.2.1
  have pf2 := posI_none ha.2.2
  clear h ha hf
  go_enter Try.func5, Try.ntmps5
  go_wp2_with (first | (go_at_call 12; refine (func_any _ _ _ _ _ _ h5.tb.funcs).mono ?_; rintro e w1 ⟨rfl, hb⟩; replace h5 := h5.next hb; have c0 := h5.c0; have c1 := h5.c1; have c2 := h5.c2; have wl := h5.lt; clear hb) | (go_at_call 14; refine (array_any _ _ _ _ _ _ h5.tb.arrays).mono ?_; rintro e w1 ⟨rfl, hb⟩; replace h5 := h5.next hb; have c0 := h5.c0; have c1 := h5.c1; have c2 := h5.c2; have wl := h5.lt; clear hb) | (go_at_call 13; refine (texts_any _ _ _ _ h5.tb.globals).mono ?_; rintro e w1 ⟨rfl, rfl⟩))
  go_ret2
  exact ⟨rfl, h5.bel⟩

set_option maxHeartbeats 4000000 in
set_option maxRecDepth 100000 in
theorem sk_I (t : Tb) (fn name : ByteArray) (va vg vf : Value) (w : World) (n : Nat) (h : TbAt base w va vg vf t) (f : Nat) (u : Fu) (hf : pos (t.funcs.map (·.name)) fn = some f) (hu : t.funcs[f]? = some u) (ha : pos u.ints name = some n) :
    Calls Try.prog 5 #[.agg #[va, vg, vf], .string fn, .string name] w fun e w' => e = .returned (.tuple #[.int .i64 ((3, (n : Int)) : Int × Int).1, .int .i64 ((3, (n : Int)) : Int × Int).2]) ∧ Below w.heap.size w w' := by
  have h5 := K5.start h
  have c0 := h5.c0
  have c1 := h5.c1
  have c2 := h5.c2
  have wl := h5.lt
  have pf := posI_some hf
  have hfl : f < t.funcs.length := (List.getElem?_eq_some_iff.1 hu).1
  obtain ⟨af, capf, rfl, fc1, fc2, -⟩ := id h.funcs
  obtain ⟨b, off, vi, vr, rfl, hb0, -, -, d2, d3, -, -, si, sr⟩ := h5.tb.funcs.fget hu
  have h6 : K6 base b off f vi vr u _ := ⟨d2, d3, hb0, si, sr⟩
  clear si sr
  unfold maxLen at fc2
  have pi := posI_some ha
  clear h ha hf hu
  go_enter Try.func5, Try.ntmps5
  go_wp2_with (first | (go_at_call 12; refine (func_any _ _ _ _ _ _ h5.tb.funcs).mono ?_; rintro e w1 ⟨rfl, hb⟩; replace h5 := h5.next hb; replace h6 := h6.next hb; have c0 := h5.c0; have c1 := h5.c1; have c2 := h5.c2; have wl := h5.lt; have d2 := h6.c2; have d3 := h6.c3; have dl := h6.lt; clear hb) | (go_at_call 14; refine (array_any _ _ _ _ _ _ h5.tb.arrays).mono ?_; rintro e w1 ⟨rfl, hb⟩; replace h5 := h5.next hb; replace h6 := h6.next hb; have c0 := h5.c0; have c1 := h5.c1; have c2 := h5.c2; have wl := h5.lt; have d2 := h6.c2; have d3 := h6.c3; have dl := h6.lt; clear hb) | (go_at_call 13; refine (texts_any _ _ _ _ (by first | exact h6.si | exact h6.sr | exact h5.tb.globals)).mono ?_; rintro e w1 ⟨rfl, rfl⟩))
  go_ret2
  exact ⟨rfl, h5.bel⟩

set_option maxHeartbeats 4000000 in
set_option maxRecDepth 100000 in
theorem sk_R (t : Tb) (fn name : ByteArray) (va vg vf : Value) (w : World) (n : Nat) (h : TbAt base w va vg vf t) (f : Nat) (u : Fu) (hf : pos (t.funcs.map (·.name)) fn = some f) (hu : t.funcs[f]? = some u) (ha : pos u.ints name = none ∧ pos u.refs name = some n) :
    Calls Try.prog 5 #[.agg #[va, vg, vf], .string fn, .string name] w fun e w' => e = .returned (.tuple #[.int .i64 ((4, (n : Int)) : Int × Int).1, .int .i64 ((4, (n : Int)) : Int × Int).2]) ∧ Below w.heap.size w w' := by
  have h5 := K5.start h
  have c0 := h5.c0
  have c1 := h5.c1
  have c2 := h5.c2
  have wl := h5.lt
  have pf := posI_some hf
  have hfl : f < t.funcs.length := (List.getElem?_eq_some_iff.1 hu).1
  obtain ⟨af, capf, rfl, fc1, fc2, -⟩ := id h.funcs
  obtain ⟨b, off, vi, vr, rfl, hb0, -, -, d2, d3, -, -, si, sr⟩ := h5.tb.funcs.fget hu
  have h6 : K6 base b off f vi vr u _ := ⟨d2, d3, hb0, si, sr⟩
  clear si sr
  unfold maxLen at fc2
  have pi := posI_none ha.1
  have pr := posI_some ha.2
  clear h ha hf hu
  go_enter Try.func5, Try.ntmps5
  go_wp2_with (first | (go_at_call 12; refine (func_any _ _ _ _ _ _ h5.tb.funcs).mono ?_; rintro e w1 ⟨rfl, hb⟩; replace h5 := h5.next hb; replace h6 := h6.next hb; have c0 := h5.c0; have c1 := h5.c1; have c2 := h5.c2; have wl := h5.lt; have d2 := h6.c2; have d3 := h6.c3; have dl := h6.lt; clear hb) | (go_at_call 14; refine (array_any _ _ _ _ _ _ h5.tb.arrays).mono ?_; rintro e w1 ⟨rfl, hb⟩; replace h5 := h5.next hb; replace h6 := h6.next hb; have c0 := h5.c0; have c1 := h5.c1; have c2 := h5.c2; have wl := h5.lt; have d2 := h6.c2; have d3 := h6.c3; have dl := h6.lt; clear hb) | (go_at_call 13; refine (texts_any _ _ _ _ (by first | exact h6.si | exact h6.sr | exact h5.tb.globals)).mono ?_; rintro e w1 ⟨rfl, rfl⟩))
  go_ret2
  exact ⟨rfl, h5.bel⟩

set_option maxHeartbeats 4000000 in
set_option maxRecDepth 100000 in
theorem sk_1A (t : Tb) (fn name : ByteArray) (va vg vf : Value) (w : World) (n : Nat) (h : TbAt base w va vg vf t) (f : Nat) (u : Fu) (hf : pos (t.funcs.map (·.name)) fn = some f) (hu : t.funcs[f]? = some u) (ha : pos u.ints name = none ∧ pos u.refs name = none ∧ (pos (t.arrays.map (·.name)) name = some n)) :
    Calls Try.prog 5 #[.agg #[va, vg, vf], .string fn, .string name] w fun e w' => e = .returned (.tuple #[.int .i64 ((1, (n : Int)) : Int × Int).1, .int .i64 ((1, (n : Int)) : Int × Int).2]) ∧ Below w.heap.size w w' := by
  have h5 := K5.start h
  have c0 := h5.c0
  have c1 := h5.c1
  have c2 := h5.c2
  have wl := h5.lt
  have pf := posI_some hf
  have hfl : f < t.funcs.length := (List.getElem?_eq_some_iff.1 hu).1
  obtain ⟨af, capf, rfl, fc1, fc2, -⟩ := id h.funcs
  obtain ⟨b, off, vi, vr, rfl, hb0, -, -, d2, d3, -, -, si, sr⟩ := h5.tb.funcs.fget hu
  have h6 : K6 base b off f vi vr u _ := ⟨d2, d3, hb0, si, sr⟩
  clear si sr
  unfold maxLen at fc2
  have pi := posI_none ha.1
  have pr := posI_none ha.2.1
  have pa := posI_some ha.2.2
  clear h ha hf hu
  go_enter Try.func5, Try.ntmps5
  go_wp2_with (first | (go_at_call 12; refine (func_any _ _ _ _ _ _ h5.tb.funcs).mono ?_; rintro e w1 ⟨rfl, hb⟩; replace h5 := h5.next hb; replace h6 := h6.next hb; have c0 := h5.c0; have c1 := h5.c1; have c2 := h5.c2; have wl := h5.lt; have d2 := h6.c2; have d3 := h6.c3; have dl := h6.lt; clear hb) | (go_at_call 14; refine (array_any _ _ _ _ _ _ h5.tb.arrays).mono ?_; rintro e w1 ⟨rfl, hb⟩; replace h5 := h5.next hb; replace h6 := h6.next hb; have c0 := h5.c0; have c1 := h5.c1; have c2 := h5.c2; have wl := h5.lt; have d2 := h6.c2; have d3 := h6.c3; have dl := h6.lt; clear hb) | (go_at_call 13; refine (texts_any _ _ _ _ (by first | exact h6.si | exact h6.sr | exact h5.tb.globals)).mono ?_; rintro e w1 ⟨rfl, rfl⟩))
  go_ret2
  exact ⟨rfl, h5.bel⟩

set_option maxHeartbeats 4000000 in
set_option maxRecDepth 100000 in
theorem sk_1G (t : Tb) (fn name : ByteArray) (va vg vf : Value) (w : World) (n : Nat) (h : TbAt base w va vg vf t) (f : Nat) (u : Fu) (hf : pos (t.funcs.map (·.name)) fn = some f) (hu : t.funcs[f]? = some u) (ha : pos u.ints name = none ∧ pos u.refs name = none ∧ (pos (t.arrays.map (·.name)) name = none ∧ pos t.globals name = some n)) :
    Calls Try.prog 5 #[.agg #[va, vg, vf], .string fn, .string name] w fun e w' => e = .returned (.tuple #[.int .i64 ((2, (n : Int)) : Int × Int).1, .int .i64 ((2, (n : Int)) : Int × Int).2]) ∧ Below w.heap.size w w' := by
  have h5 := K5.start h
  have c0 := h5.c0
  have c1 := h5.c1
  have c2 := h5.c2
  have wl := h5.lt
  have pf := posI_some hf
  have hfl : f < t.funcs.length := (List.getElem?_eq_some_iff.1 hu).1
  obtain ⟨af, capf, rfl, fc1, fc2, -⟩ := id h.funcs
  obtain ⟨b, off, vi, vr, rfl, hb0, -, -, d2, d3, -, -, si, sr⟩ := h5.tb.funcs.fget hu
  have h6 : K6 base b off f vi vr u _ := ⟨d2, d3, hb0, si, sr⟩
  clear si sr
  unfold maxLen at fc2
  have pi := posI_none ha.1
  have pr := posI_none ha.2.1
  have pa := posI_none ha.2.2.1
  have pg := posI_some ha.2.2.2
  clear h ha hf hu
  go_enter Try.func5, Try.ntmps5
  go_wp2_with (first | (go_at_call 12; refine (func_any _ _ _ _ _ _ h5.tb.funcs).mono ?_; rintro e w1 ⟨rfl, hb⟩; replace h5 := h5.next hb; replace h6 := h6.next hb; have c0 := h5.c0; have c1 := h5.c1; have c2 := h5.c2; have wl := h5.lt; have d2 := h6.c2; have d3 := h6.c3; have dl := h6.lt; clear hb) | (go_at_call 14; refine (array_any _ _ _ _ _ _ h5.tb.arrays).mono ?_; rintro e w1 ⟨rfl, hb⟩; replace h5 := h5.next hb; replace h6 := h6.next hb; have c0 := h5.c0; have c1 := h5.c1; have c2 := h5.c2; have wl := h5.lt; have d2 := h6.c2; have d3 := h6.c3; have dl := h6.lt; clear hb) | (go_at_call 13; refine (texts_any _ _ _ _ (by first | exact h6.si | exact h6.sr | exact h5.tb.globals)).mono ?_; rintro e w1 ⟨rfl, rfl⟩))
  go_ret2
  exact ⟨rfl, h5.bel⟩

set_option maxHeartbeats 4000000 in
set_option maxRecDepth 100000 in
theorem sk_1F (t : Tb) (fn name : ByteArray) (va vg vf : Value) (w : World) (n : Nat) (h : TbAt base w va vg vf t) (f : Nat) (u : Fu) (hf : pos (t.funcs.map (·.name)) fn = some f) (hu : t.funcs[f]? = some u) (ha : pos u.ints name = none ∧ pos u.refs name = none ∧ (pos (t.arrays.map (·.name)) name = none ∧ pos t.globals name = none ∧ pos (t.funcs.map (·.name)) name = some n)) :
    Calls Try.prog 5 #[.agg #[va, vg, vf], .string fn, .string name] w fun e w' => e = .returned (.tuple #[.int .i64 ((5, (n : Int)) : Int × Int).1, .int .i64 ((5, (n : Int)) : Int × Int).2]) ∧ Below w.heap.size w w' := by
  have h5 := K5.start h
  have c0 := h5.c0
  have c1 := h5.c1
  have c2 := h5.c2
  have wl := h5.lt
  have pf := posI_some hf
  have hfl : f < t.funcs.length := (List.getElem?_eq_some_iff.1 hu).1
  obtain ⟨af, capf, rfl, fc1, fc2, -⟩ := id h.funcs
  obtain ⟨b, off, vi, vr, rfl, hb0, -, -, d2, d3, -, -, si, sr⟩ := h5.tb.funcs.fget hu
  have h6 : K6 base b off f vi vr u _ := ⟨d2, d3, hb0, si, sr⟩
  clear si sr
  unfold maxLen at fc2
  have pi := posI_none ha.1
  have pr := posI_none ha.2.1
  have pa := posI_none ha.2.2.1
  have pg := posI_none ha.2.2.2.1
  have pf2 := posI_some ha.2.2.2.2
  clear h ha hf hu
  go_enter Try.func5, Try.ntmps5
  go_wp2_with (first | (go_at_call 12; refine (func_any _ _ _ _ _ _ h5.tb.funcs).mono ?_; rintro e w1 ⟨rfl, hb⟩; replace h5 := h5.next hb; replace h6 := h6.next hb; have c0 := h5.c0; have c1 := h5.c1; have c2 := h5.c2; have wl := h5.lt; have d2 := h6.c2; have d3 := h6.c3; have dl := h6.lt; clear hb) | (go_at_call 14; refine (array_any _ _ _ _ _ _ h5.tb.arrays).mono ?_; rintro e w1 ⟨rfl, hb⟩; replace h5 := h5.next hb; replace h6 := h6.next hb; have c0 := h5.c0; have c1 := h5.c1; have c2 := h5.c2; have wl := h5.lt; have d2 := h6.c2; have d3 := h6.c3; have dl := h6.lt; clear hb) | (go_at_call 13; refine (texts_any _ _ _ _ (by first | exact h6.si | exact h6.sr | exact h5.tb.globals)).mono ?_; rintro e w1 ⟨rfl, rfl⟩))
  go_ret2
  exact ⟨rfl, h5.bel⟩

set_option maxHeartbeats 4000000 in
set_option maxRecDepth 100000 in
theorem sk_1N (t : Tb) (fn name : ByteArray) (va vg vf : Value) (w : World) (n : Nat) (h : TbAt base w va vg vf t) (f : Nat) (u : Fu) (hf : pos (t.funcs.map (·.name)) fn = some f) (hu : t.funcs[f]? = some u) (ha : pos u.ints name = none ∧ pos u.refs name = none ∧ (pos (t.arrays.map (·.name)) name = none ∧ pos t.globals name = none ∧ pos (t.funcs.map (·.name)) name = none)) :
    Calls Try.prog 5 #[.agg #[va, vg, vf], .string fn, .string name] w fun e w' => e = .returned (.tuple #[.int .i64 ((0, 0) : Int × Int).1, .int .i64 ((0, 0) : Int × Int).2]) ∧ Below w.heap.size w w' := by
  have h5 := K5.start h
  have c0 := h5.c0
  have c1 := h5.c1
  have c2 := h5.c2
  have wl := h5.lt
  have pf := posI_some hf
  have hfl : f < t.funcs.length := (List.getElem?_eq_some_iff.1 hu).1
  obtain ⟨af, capf, rfl, fc1, fc2, -⟩ := id h.funcs
  obtain ⟨b, off, vi, vr, rfl, hb0, -, -, d2, d3, -, -, si, sr⟩ := h5.tb.funcs.fget hu
  have h6 : K6 base b off f vi vr u _ := ⟨d2, d3, hb0, si, sr⟩
  clear si sr
  unfold maxLen at fc2
  have pi := posI_none ha.1
  have pr := posI_none ha.2.1
  have pa := posI_none ha.2.2.1
  have pg := posI_none ha.2.2.2.1
  have pf2 := posI_none ha.2.2.2.2
  clear h ha hf hu
  go_enter Try.func5, Try.ntmps5
  go_wp2_with (first | (go_at_call 12; refine (func_any _ _ _ _ _ _ h5.tb.funcs).mono ?_; rintro e w1 ⟨rfl, hb⟩; replace h5 := h5.next hb; replace h6 := h6.next hb; have c0 := h5.c0; have c1 := h5.c1; have c2 := h5.c2; have wl := h5.lt; have d2 := h6.c2; have d3 := h6.c3; have dl := h6.lt; clear hb) | (go_at_call 14; refine (array_any _ _ _ _ _ _ h5.tb.arrays).mono ?_; rintro e w1 ⟨rfl, hb⟩; replace h5 := h5.next hb; replace h6 := h6.next hb; have c0 := h5.c0; have c1 := h5.c1; have c2 := h5.c2; have wl := h5.lt; have d2 := h6.c2; have d3 := h6.c3; have dl := h6.lt; clear hb) | (go_at_call 13; refine (texts_any _ _ _ _ (by first | exact h6.si | exact h6.sr | exact h5.tb.globals)).mono ?_; rintro e w1 ⟨rfl, rfl⟩))
  go_ret2
  exact ⟨rfl, h5.bel⟩

theorem specKind_any (t : Tb) (fn name : ByteArray) (va vg vf : Value) (w : World) (h : TbAt base w va vg vf t) :
    Calls Try.prog 5 #[.agg #[va, vg, vf], .string fn, .string name] w fun e w' => e = .returned (.tuple #[.int .i64 (kindOf t fn name).1, .int .i64 (kindOf t fn name).2]) ∧ Below w.heap.size w w' := by
  cases hf : pos (t.funcs.map (·.name)) fn with
  | none =>
    have hk : kindOf t fn name = outer t name := by simp [kindOf, hf]
    rw [hk]
    cases ha : pos (t.arrays.map (·.name)) name with
    | some n => rw [show outer t name = (1, (n : Int)) by simp [outer, ha]]; exact sk_0A t fn name va vg vf w n h hf ha
    | none =>
      cases hg : pos t.globals name with
      | some n => rw [show outer t name = (2, (n : Int)) by simp [outer, ha, hg]]; exact sk_0G t fn name va vg vf w n h hf ⟨ha, hg⟩
      | none =>
        cases hq : pos (t.funcs.map (·.name)) name with
        | some n => rw [show outer t name = (5, (n : Int)) by simp [outer, ha, hg, hq]]; exact sk_0F t fn name va vg vf w n h hf ⟨ha, hg, hq⟩
        | none => rw [show outer t name = (0, 0) by simp [outer, ha, hg, hq]]; exact sk_0N t fn name va vg vf w 0 h hf ⟨ha, hg, hq⟩
  | some f =>
    obtain ⟨u, hu⟩ : ∃ u, t.funcs[f]? = some u := by
      have := pos_some hf
      rw [List.getElem?_map] at this
      cases e : t.funcs[f]? with
      | none => simp [e] at this
      | some u => exact ⟨u, rfl⟩
    cases hi : pos u.ints name with
    | some n => rw [show kindOf t fn name = (3, (n : Int)) by simp [kindOf, hf, hu, inner, hi]]; exact sk_I t fn name va vg vf w n h f u hf hu hi
    | none =>
      cases hr : pos u.refs name with
      | some n => rw [show kindOf t fn name = (4, (n : Int)) by simp [kindOf, hf, hu, inner, hi, hr]]; exact sk_R t fn name va vg vf w n h f u hf hu ⟨hi, hr⟩
      | none =>
        have hk : kindOf t fn name = outer t name := by simp [kindOf, hf, hu, inner, hi, hr]
        rw [hk]
        cases ha : pos (t.arrays.map (·.name)) name with
        | some n => rw [show outer t name = (1, (n : Int)) by simp [outer, ha]]; exact sk_1A t fn name va vg vf w n h f u hf hu ⟨hi, hr, ha⟩
        | none =>
          cases hg : pos t.globals name with
          | some n => rw [show outer t name = (2, (n : Int)) by simp [outer, ha, hg]]; exact sk_1G t fn name va vg vf w n h f u hf hu ⟨hi, hr, ha, hg⟩
          | none =>
            cases hq : pos (t.funcs.map (·.name)) name with
            | some n => rw [show outer t name = (5, (n : Int)) by simp [outer, ha, hg, hq]]; exact sk_1F t fn name va vg vf w n h f u hf hu ⟨hi, hr, ha, hg, hq⟩
            | none => rw [show outer t name = (0, 0) by simp [outer, ha, hg, hq]]; exact sk_1N t fn name va vg vf w 0 h f u hf hu ⟨hi, hr, ha, hg, hq⟩
end Go.Proofs.Ytkfikpapgmamdaa.nk
