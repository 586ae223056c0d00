/-
  A table that came in: what it reads as.
-/
import Derived.Test.YtkfikpapgmamdaaT
import Derived.Lib.SmallJoins
namespace Go.Proofs.Ytkfikpapgmamdaa.nk
open Go.Deep Go.RowKit Go.ChangeShapes Go.WideShapes Go.Joins Go.Proofs.Ytkfikpapgmamdaa.num
set_option linter.unusedVariables false

theorem cells3 : Try.prog.cellsOf 3 = 1 := by kernel_rfl
theorem cells9 : Try.prog.cellsOf 9 = 1 := by kernel_rfl
theorem cells23 : Try.prog.cellsOf 23 = 1 := by kernel_rfl
theorem cells58 : Try.prog.cellsOf 58 = 2 := by kernel_rfl
theorem cells60 : Try.prog.cellsOf 60 = 5 := by kernel_rfl
theorem cells26 : Try.prog.cellsOf 26 = 3 := by kernel_rfl

section
variable {H : Type} {enc : TypeId × Value → H} {W : World} {sp : Nat → Bool} {held : Bool}
/-- A row whose elements read as E tells. -/
theorem seq_of {α : Type} [Inhabited α] {T e k : Nat} {E : World → α → List Value → Prop} {fuel : Nat} {v : Value} {x : DataW H × List MemPlace} (hT : Try.prog.underlying T = some (.slice e)) (hk : Try.prog.cellsOf e = k) (hk0 : 0 < k)
    (hE : ∀ n cs y, DataW.trod enc Try.prog W 0 sp held n e cs = some y → cs.length = k → ∃ t, E W t cs)
    (h : DataW.trod enc Try.prog W 0 sp held fuel T [v] = some x) : ∃ z : List α, Seq k E 0 W v z := by
  rcases open_slice hT h with ⟨hcs, _⟩ | ⟨a, len, cap, m, n, Dx, Pl, hcs, hb, hl, hm, hmm, _, hx⟩
  · simp at hcs
    exact ⟨[], none, 0, hcs, Nat.le_refl _, Nat.zero_le _, .inl rfl⟩
  · simp at hcs
    have each : ∀ i, i < len → ∃ t : α, ∃ cs, E W t cs ∧ cs.length = k ∧ ∀ j u, cs[j]? = some u → W.cell? (a.add (i * k + j)) = some u := by
      intro i hi
      obtain ⟨cs', h1, h2⟩ := hx i (by rw [hmm]; split <;> omega)
      rw [hk] at h1
      obtain ⟨_, hlen, hcell⟩ := World.cells?_some h1
      obtain ⟨t, ht⟩ := hE n cs' _ h2 hlen
      refine ⟨t, cs', ht, hlen, fun j u hu => ?_⟩
      have hj : j < k := by rw [← hlen]; exact (List.getElem?_eq_some_iff.1 hu).1
      have e0 := hcell j hj
      rw [add_add, hu] at e0
      exact e0
    obtain ⟨f, hfa⟩ := choose_lt each
    refine ⟨(List.range len).map f, some a, cap, by simpa using hcs, by simpa using hl, hm, ?_⟩
    by_cases h0 : len = 0
    · exact .inl (by simpa using h0)
    · right
      obtain ⟨cs, -, hcl, hz⟩ := hfa 0 (by omega)
      obtain ⟨u, hu⟩ : ∃ u, cs[0]? = some u := ⟨_, List.getElem?_eq_getElem (by omega)⟩
      have hz0 := hz 0 u hu
      obtain ⟨b, off, spot⟩ := a
      have hspot : spot = none := by simpa [Addr.add] using World.cell?_spot hz0
      subst hspot
      have hlt : b < W.heap.size := World.block_lt_of_cell? W ⟨b, off + (0 * k + 0), none⟩ (by rw [← Go.WideShapes.add_plain]; exact hz0)
      refine ⟨b, off, rfl, Nat.zero_le _, hlt, fun j t ht => ?_⟩
      have hj : j < len := by
        have := (List.getElem?_eq_some_iff.1 ht).1
        simpa using this
      have htj : f j = t := by
        rw [List.getElem?_map, List.getElem?_range hj] at ht
        exact Option.some.inj ht
      obtain ⟨cs, q1, q2, q3⟩ := hfa j hj
      rw [htj] at q1
      refine ⟨cs, q1, q2, fun i u hu => ?_⟩
      have := q3 i u hu
      rw [Go.WideShapes.add_plain, ← Nat.add_assoc] at this
      exact this

instance : Inhabited Ar := ⟨⟨⟨#[]⟩, 0⟩⟩
instance : Inhabited Fu := ⟨⟨⟨#[]⟩, 0, [], [], 0⟩⟩
theorem strs_of {fuel : Nat} {v : Value} {x : DataW H × List MemPlace} (h : DataW.trod enc Try.prog W 0 sp held fuel 23 [v] = some x) : ∃ z, Strs 0 W v z :=
  seq_of (E := ES) Try.underlying23 cells9 (by omega) (fun n cs y hy _ => by
    obtain ⟨s, e1, _, e3⟩ := DataW.trod_string Try.underlying9 hy
    exact ⟨s, e1, e3⟩) h
theorem fields58 : ∃ f0 f1 : Field, Try.prog.underlying 58 = some (.struct #[f0, f1]) ∧ f0.offset = 0 ∧ f1.offset = 1 ∧ f0.type = 9 ∧ f1.type = 3 :=
  ⟨_, _, Try.underlying58, rfl, rfl, rfl, rfl⟩
theorem arrs_of {fuel : Nat} {v : Value} {x : DataW H × List MemPlace} (h : DataW.trod enc Try.prog W 0 sp held fuel 22 [v] = some x) : ∃ z, Arrs 0 W v z :=
  seq_of (E := EA) Try.underlying22 cells58 (by omega) (fun n cs y hy hlen => by
    obtain ⟨f0, f1, hs, o0, o1, t0, t1⟩ := fields58
    obtain ⟨xs, k, hk, hxy, _, hxl, hfl⟩ := DataW.trod_struct hs hy
    match xs, hxl, cs, hlen with
    | [y0, y1], _, [v0, v1], _ =>
      have g0 := hfl 0 f0 rfl
      have g1 := hfl 1 f1 rfl
      simp [o0, o1, t0, t1, cells3, cells9] at g0 g1
      obtain ⟨s0, q0, _, ws⟩ := DataW.trod_string Try.underlying9 g0
      obtain ⟨n1, q1, _, _⟩ := DataW.trod_int Try.underlying3 g1
      simp at q0 q1
      subst q0 q1
      exact ⟨⟨s0, n1⟩, rfl, ws⟩) h
theorem fields60 : ∃ f0 f1 f2 f3 f4 : Field, Try.prog.underlying 60 = some (.struct #[f0, f1, f2, f3, f4]) ∧ f0.offset = 0 ∧ f1.offset = 1 ∧ f2.offset = 2 ∧ f3.offset = 3 ∧ f4.offset = 4 ∧ f0.type = 9 ∧ f1.type = 3 ∧ f2.type = 23 ∧ f3.type = 23 ∧ f4.type = 3 :=
  ⟨_, _, _, _, _, Try.underlying60, rfl, rfl, rfl, rfl, rfl, rfl, rfl, rfl, rfl, rfl⟩
theorem funs_of {fuel : Nat} {v : Value} {x : DataW H × List MemPlace} (h : DataW.trod enc Try.prog W 0 sp held fuel 24 [v] = some x) : ∃ z, Funs 0 W v z :=
  seq_of (E := EF 0) Try.underlying24 cells60 (by omega) (fun n cs y hy hlen => by
    obtain ⟨f0, f1, f2, f3, f4, hs, o0, o1, o2, o3, o4, t0, t1, t2, t3, t4⟩ := fields60
    obtain ⟨xs, k, hk, hxy, _, hxl, hfl⟩ := DataW.trod_struct hs hy
    match xs, hxl, cs, hlen with
    | [y0, y1, y2, y3, y4], _, [v0, v1, v2, v3, v4], _ =>
      have g0 := hfl 0 f0 rfl
      have g1 := hfl 1 f1 rfl
      have g2 := hfl 2 f2 rfl
      have g3 := hfl 3 f3 rfl
      have g4 := hfl 4 f4 rfl
      simp [o0, o1, o2, o3, o4, t0, t1, t2, t3, t4, cells3, cells9, cells23] at g0 g1 g2 g3 g4
      obtain ⟨s0, q0, _, ws⟩ := DataW.trod_string Try.underlying9 g0
      obtain ⟨n1, q1, _, _⟩ := DataW.trod_int Try.underlying3 g1
      obtain ⟨n4, q4, _, _⟩ := DataW.trod_int Try.underlying3 g4
      obtain ⟨l2, h2⟩ := strs_of g2
      obtain ⟨l3, h3⟩ := strs_of g3
      simp at q0 q1 q4
      subst q0 q1 q4
      exact ⟨⟨s0, n1, l2, l3, n4⟩, v2, v3, rfl, ws, h2, h3⟩) h
theorem fields26 : ∃ f0 f1 f2 : Field, Try.prog.underlying 26 = some (.struct #[f0, f1, f2]) ∧ oneCellFields Try.prog #[f0, f1, f2] = true ∧ f0.type = 22 ∧ f1.type = 23 ∧ f2.type = 24 :=
  ⟨_, _, _, Try.underlying26, by kernel_rfl, rfl, rfl, rfl⟩
theorem table_of {r : Reach} {b0 : Nat} {v : Value} {d : DataW H} {p : List MemPlace} (hv : Value.okWide Try.prog W r b0 26 v) (h : DataW.Trod enc Try.prog W 0 sp held 26 v d p) :
    ∃ va vg vf t, v = .agg #[va, vg, vf] ∧ TbAt 0 W va vg vf t := by
  obtain ⟨f0, f1, f2, hs, hone, t0, t1, t2⟩ := fields26
  obtain ⟨va, vg, vf, y0, y1, y2, n, rfl, -, -, h0, h1, h2⟩ := open_agg3 hs hone cells26 hv h
  rw [t0] at h0
  rw [t1] at h1
  rw [t2] at h2
  obtain ⟨la, ha⟩ := arrs_of h0
  obtain ⟨lg, hg⟩ := strs_of h1
  obtain ⟨lf, hf⟩ := funs_of h2
  exact ⟨va, vg, vf, ⟨la, lg, lf⟩, rfl, ha, hg, hf⟩
end
end Go.Proofs.Ytkfikpapgmamdaa.nk
