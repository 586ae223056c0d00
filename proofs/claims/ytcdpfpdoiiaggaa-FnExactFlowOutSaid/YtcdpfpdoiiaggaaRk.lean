/-
  A flow that came in: what it reads as.
-/
import Derived.Test.YtcdpfpdoiiaggaaRj
import Derived.Lib.SmallJoins
namespace Go.Proofs.Ytcdpfpdoiiaggaa.rws
open Go.Deep Go.RowKit Go.ChangeShapes Go.WideShapes Go.Joins Go.Proofs.Ytcdpfpdoiiaggaa.num
set_option linter.unusedVariables false

theorem cellsInt : Try.prog.cellsOf 3 = 1 := by kernel_rfl
theorem cellsBool : Try.prog.cellsOf 4 = 1 := by kernel_rfl
theorem cellsEdge : Try.prog.cellsOf 51 = 5 := by kernel_rfl
theorem cellsFlow : Try.prog.cellsOf 26 = 4 := by kernel_rfl

section
variable {H : Type} {enc : TypeId × Value → H} {W : World} {sp : Nat → Bool} {held : Bool}
/-- A row whose elements read as their cells. -/
theorem seq_of {α : Type} [Inhabited α] {T e k : Nat} {cells : α → List Value} {ok : α → Prop} {fuel : Nat} {v : Value} {x : DataW H × List MemPlace} (hT : Try.prog.underlying T = some (.slice e)) (hk : Try.prog.cellsOf e = k) (hk0 : 0 < k)
    (hE : ∀ n cs y, DataW.trod enc Try.prog W 0 sp held n e cs = some y → cs.length = k → ∃ t, cs = cells t ∧ ok t)
    (h : DataW.trod enc Try.prog W 0 sp held fuel T [v] = some x) : ∃ z : List α, Seq k cells ok 0 W v z := by
  rcases open_slice hT h with ⟨hcs, _⟩ | ⟨a, len, cap, m, n, Dx, Pl, hcs, hb, hl, hm, hmm, _, hx⟩
  · simp at hcs
    exact ⟨[], none, 0, hcs, Nat.le_refl _, Nat.zero_le _, .inl rfl⟩
  · simp at hcs
    have each : ∀ i, i < len → ∃ t : α, ok t ∧ (cells t).length = k ∧ ∀ j u, (cells t)[j]? = some u → W.cell? (a.add (i * k + j)) = some u := by
      intro i hi
      obtain ⟨cs', h1, h2⟩ := hx i (by rw [hmm]; split <;> omega)
      rw [hk] at h1
      obtain ⟨_, hlen, hcell⟩ := World.cells?_some h1
      obtain ⟨t, rfl, ht⟩ := hE n cs' _ h2 hlen
      refine ⟨t, ht, hlen, fun j u hu => ?_⟩
      have hj : j < k := by rw [← hlen]; exact (List.getElem?_eq_some_iff.1 hu).1
      have e0 := hcell j hj
      rw [add_add, hu] at e0
      exact e0
    obtain ⟨f, hfa⟩ := choose_lt each
    refine ⟨(List.range len).map f, some a, cap, by simpa using hcs, by simpa using hl, hm, ?_⟩
    by_cases h0 : len = 0
    · exact .inl (by simpa using h0)
    · right
      obtain ⟨-, hcl, hz⟩ := hfa 0 (by omega)
      obtain ⟨u, hu⟩ : ∃ u, (cells (f 0))[0]? = some u := ⟨_, List.getElem?_eq_getElem (by omega)⟩
      have hz0 := hz 0 u hu
      obtain ⟨b, off, spot⟩ := a
      have hspot : spot = none := by simpa [Addr.add] using World.cell?_spot hz0
      subst hspot
      have hlt : b < W.heap.size := World.block_lt_of_cell? W ⟨b, off + (0 * k + 0), none⟩ (by rw [← Go.WideShapes.add_plain]; exact hz0)
      refine ⟨b, off, rfl, Nat.zero_le _, hlt, fun j t ht => ?_⟩
      have hj : j < len := by
        have := (List.getElem?_eq_some_iff.1 ht).1
        simpa using this
      have htj : f j = t := by
        rw [List.getElem?_map, List.getElem?_range hj] at ht
        exact Option.some.inj ht
      obtain ⟨q1, q2, q3⟩ := hfa j hj
      rw [htj] at q1 q2 q3
      refine ⟨q1, q2, fun i u hu => ?_⟩
      have := q3 i u hu
      rw [Go.WideShapes.add_plain, ← Nat.add_assoc] at this
      exact this

theorem ints_of {fuel : Nat} {v : Value} {x : DataW H × List MemPlace} (h : DataW.trod enc Try.prog W 0 sp held fuel 22 [v] = some x) : ∃ z, Ints 0 W v z :=
  seq_of (cells := ci) Try.underlying22 cellsInt (by omega) (fun n cs y hy _ => by
    obtain ⟨s, e1, _, e3⟩ := DataW.trod_int Try.underlying3 hy
    exact ⟨s, e1, e3⟩) h
theorem bools_of {fuel : Nat} {v : Value} {x : DataW H × List MemPlace} (h : DataW.trod enc Try.prog W 0 sp held fuel 23 [v] = some x) : ∃ z, Bools 0 W v z :=
  seq_of (cells := cb) Try.underlying23 cellsBool (by omega) (fun n cs y hy _ => by
    obtain ⟨s, e1, _⟩ := DataW.trod_bool Try.underlying4 hy
    exact ⟨s, e1, trivial⟩) h
instance : Inhabited Ed := ⟨⟨0, 0, 0, 0, 0⟩⟩
theorem fieldsE : ∃ f0 f1 f2 f3 f4 : Field, Try.prog.underlying 51 = some (.struct #[f0, f1, f2, f3, f4]) ∧ f0.offset = 0 ∧ f1.offset = 1 ∧ f2.offset = 2 ∧ f3.offset = 3 ∧ f4.offset = 4 ∧ f0.type = 3 ∧ f1.type = 3 ∧ f2.type = 3 ∧ f3.type = 3 ∧ f4.type = 3 :=
  ⟨_, _, _, _, _, Try.underlying51, rfl, rfl, rfl, rfl, rfl, rfl, rfl, rfl, rfl, rfl⟩
theorem eds_of {fuel : Nat} {v : Value} {x : DataW H × List MemPlace} (h : DataW.trod enc Try.prog W 0 sp held fuel 24 [v] = some x) : ∃ z, Eds 0 W v z :=
  seq_of (cells := ce) Try.underlying24 cellsEdge (by omega) (fun n cs y hy hlen => by
    obtain ⟨f0, f1, f2, f3, f4, hs, o0, o1, o2, o3, o4, t0, t1, t2, t3, t4⟩ := fieldsE
    obtain ⟨xs, k, hk, hxy, _, hxl, hfl⟩ := DataW.trod_struct hs hy
    match xs, hxl, cs, hlen with
    | [y0, y1, y2, y3, y4], _, [v0, v1, v2, v3, v4], _ =>
      have g0 := hfl 0 f0 rfl
      have g1 := hfl 1 f1 rfl
      have g2 := hfl 2 f2 rfl
      have g3 := hfl 3 f3 rfl
      have g4 := hfl 4 f4 rfl
      simp [o0, o1, o2, o3, o4, t0, t1, t2, t3, t4, cellsInt] at g0 g1 g2 g3 g4
      obtain ⟨n0, q0, _, w0⟩ := DataW.trod_int Try.underlying3 g0
      obtain ⟨n1, q1, _, _⟩ := DataW.trod_int Try.underlying3 g1
      obtain ⟨n2, q2, _, _⟩ := DataW.trod_int Try.underlying3 g2
      obtain ⟨n3, q3, _, _⟩ := DataW.trod_int Try.underlying3 g3
      obtain ⟨n4, q4, _, _⟩ := DataW.trod_int Try.underlying3 g4
      simp at q0 q1 q2 q3 q4
      subst q0 q1 q2 q3 q4
      exact ⟨⟨n0, n1, n2, n3, n4⟩, rfl, w0⟩) h
theorem fieldsF : ∃ f0 f1 f2 f3 : Field, Try.prog.underlying 26 = some (.struct #[f0, f1, f2, f3]) ∧ oneCellFields Try.prog #[f0, f1, f2, f3] = true ∧ f0.type = 22 ∧ f1.type = 22 ∧ f2.type = 23 ∧ f3.type = 24 :=
  ⟨_, _, _, _, Try.underlying26, by kernel_rfl, rfl, rfl, rfl, rfl⟩
theorem flow_of {r : Reach} {b0 : Nat} {v : Value} {d : DataW H} {p : List MemPlace} (hv : Value.okWide Try.prog W r b0 26 v) (h : DataW.Trod enc Try.prog W 0 sp held 26 v d p) :
    ∃ v0 v1 v2 v3 f, v = .agg #[v0, v1, v2, v3] ∧ FlAt 0 W v0 v1 v2 v3 f := by
  obtain ⟨f0, f1, f2, f3, hs, hone, t0, t1, t2, t3⟩ := fieldsF
  obtain ⟨v0, v1, v2, v3, y0, y1, y2, y3, n, rfl, -, -, h0, h1, h2, h3⟩ := open_agg4 hs hone cellsFlow hv h
  rw [t0] at h0
  rw [t1] at h1
  rw [t2] at h2
  rw [t3] at h3
  obtain ⟨l0, q0⟩ := ints_of h0
  obtain ⟨l1, q1⟩ := ints_of h1
  obtain ⟨l2, q2⟩ := bools_of h2
  obtain ⟨l3, q3⟩ := eds_of h3
  exact ⟨v0, v1, v2, v3, ⟨l0, l1, l2, l3⟩, rfl, q0, q1, q2, q3⟩
end
end Go.Proofs.Ytcdpfpdoiiaggaa.rws
