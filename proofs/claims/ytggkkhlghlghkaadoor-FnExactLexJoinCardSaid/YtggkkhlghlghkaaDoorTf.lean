/-
  Tokens that came in.
-/
import Derived.Test.YtggkkhlghlghkaaDoorLx
import Derived.Test.YtggkkhlghlghkaaDoorOp
import Derived.Deep.Slices
import Derived.ChangeArms
namespace Go.Proofs.YtggkkhlghlghkaaDoor.lex
open Go.Deep Go.RowKit Go.ChangeShapes Go.WideShapes Go.Proofs.YtggkkhlghlghkaaDoor.num
set_option linter.unusedVariables false

/-- A row of tokens that came in: its elements' cells. -/
def Toks (w : World) (a : Option Addr) (len : Nat) (z : List Tok) : Prop :=
  z.length = len ∧ (∀ t ∈ z, t.text.size ≤ maxLen) ∧ (len = 0 ∨ ∃ b off, a = some ⟨b, off, none⟩ ∧ b < w.heap.size ∧ ∀ j t, z[j]? = some t →
    w.cell? ⟨b, off + j * 4, none⟩ = some (.int .i64 t.kind) ∧ w.cell? ⟨b, off + j * 4 + 1, none⟩ = some (.int .i64 t.pos) ∧ w.cell? ⟨b, off + j * 4 + 2, none⟩ = some (.string t.text) ∧ w.cell? ⟨b, off + j * 4 + 3, none⟩ = some (.int .i64 t.num))
theorem Toks.below {w w' : World} {a : Option Addr} {len : Nat} {z : List Tok} (h : Toks w a len z) (hb : Below w.heap.size w w') : Toks w' a len z := by
  obtain ⟨h1, h2, h3⟩ := h
  refine ⟨h1, h2, ?_⟩
  rcases h3 with h0 | ⟨b, off, ha, hlt, hc⟩
  · exact .inl h0
  · refine .inr ⟨b, off, ha, Nat.lt_of_lt_of_le hlt hb.size, fun j t ht => ?_⟩
    obtain ⟨c0, c1, c2, c3⟩ := hc j t ht
    exact ⟨by rw [hb.cell (by exact hlt)]; exact c0, by rw [hb.cell (by exact hlt)]; exact c1, by rw [hb.cell (by exact hlt)]; exact c2, by rw [hb.cell (by exact hlt)]; exact c3⟩

instance : Inhabited Tok := ⟨⟨0, 0, ⟨#[]⟩, 0⟩⟩
theorem cells64 : Tryd.prog.cellsOf 64 = 4 := by kernel_rfl
theorem fields64 : ∃ f0 f1 f2 f3 : Field, Tryd.prog.underlying 64 = some (.struct #[f0, f1, f2, f3]) ∧ f0.offset = 0 ∧ f1.offset = 1 ∧ f2.offset = 2 ∧ f3.offset = 3 ∧ f0.type = 3 ∧ f1.type = 3 ∧ f2.type = 9 ∧ f3.type = 3 :=
  ⟨_, _, _, _, Tryd.underlying64, rfl, rfl, rfl, rfl, rfl, rfl, rfl, rfl⟩
theorem cells3 : Tryd.prog.cellsOf 3 = 1 := by kernel_rfl
theorem cells9 : Tryd.prog.cellsOf 9 = 1 := by kernel_rfl

theorem toks_of {H : Type} {enc : TypeId × Value → H} {W : World} {sp : Nat → Bool} {held : Bool} {a : Option Addr} {len cap : Nat} {d : DataW H} {p : List MemPlace}
    (h : DataW.Trod enc Tryd.prog W 0 sp held 41 (.slice a len cap) d p) : ∃ z : List Tok, Toks W a len z ∧ len ≤ cap ∧ cap ≤ maxLen := by
  obtain ⟨fuel, hf⟩ := h
  rcases open_slice Tryd.underlying41 hf with ⟨hcs, _⟩ | ⟨x, l, c, m, n, Dx, Pl, hcs, hb, hl, hm, hmm, _, hx⟩
  · simp [Value.cells] at hcs
    obtain ⟨rfl, rfl, rfl⟩ := hcs
    exact ⟨[], ⟨rfl, by simp, .inl rfl⟩, Nat.le_refl _, Nat.zero_le _⟩
  · simp [Value.cells] at hcs
    obtain ⟨rfl, rfl, rfl⟩ := hcs
    obtain ⟨f0, f1, f2, f3, hs, o0, o1, o2, o3, t0, t1, t2, t3⟩ := fields64
    have each : ∀ i, i < len → ∃ t : Tok, W.cell? (x.add (i * 4)) = some (.int .i64 t.kind) ∧ W.cell? (x.add (i * 4 + 1)) = some (.int .i64 t.pos) ∧ W.cell? (x.add (i * 4 + 2)) = some (.string t.text) ∧ W.cell? (x.add (i * 4 + 3)) = some (.int .i64 t.num) ∧ t.text.size ≤ maxLen := by
      intro i hi
      obtain ⟨cs', h1, h2⟩ := hx i (by rw [hmm]; split <;> omega)
      rw [cells64] at h1
      obtain ⟨_, hlen, hcell⟩ := World.cells?_some h1
      obtain ⟨xs, k, hk, hxy, _, hxl, hfl⟩ := DataW.trod_struct hs h2
      match xs, hxl, cs', hlen with
      | [y0, y1, y2, y3], _, [v0, v1, v2, v3], _ =>
        have g0 := hfl 0 f0 rfl
        have g1 := hfl 1 f1 rfl
        have g2 := hfl 2 f2 rfl
        have g3 := hfl 3 f3 rfl
        simp [o0, o1, o2, o3, t0, t1, t2, t3, cells3, cells9] at g0 g1 g2 g3
        have e0 := hcell 0 (by omega)
        have e1 := hcell 1 (by omega)
        have e2 := hcell 2 (by omega)
        have e3 := hcell 3 (by omega)
        rw [add_add] at e0 e1 e2 e3
        obtain ⟨n0, q0, _, _⟩ := DataW.trod_int Tryd.underlying3 g0
        obtain ⟨n1, q1, _, _⟩ := DataW.trod_int Tryd.underlying3 g1
        obtain ⟨s2, q2, _, ws⟩ := DataW.trod_string Tryd.underlying9 g2
        obtain ⟨n3, q3, _, _⟩ := DataW.trod_int Tryd.underlying3 g3
        simp at q0 q1 q2 q3
        subst q0 q1 q2 q3
        exact ⟨⟨n0, n1, s2, n3⟩, by simpa using e0, by simpa using e1, by simpa using e2, by simpa using e3, ws⟩
    obtain ⟨f, hfa⟩ := choose_lt each
    refine ⟨(List.range len).map f, ⟨by simp, ?_, ?_⟩, hl, hm⟩
    · intro t ht
      simp only [List.mem_map, List.mem_range] at ht
      obtain ⟨i, hi, rfl⟩ := ht
      exact (hfa i hi).2.2.2.2
    · by_cases h0 : len = 0
      · exact .inl h0
      · right
        have hz := (hfa 0 (by omega)).1
        obtain ⟨b, off, spot⟩ := x
        have hspot : spot = none := by simpa [Addr.add] using World.cell?_spot hz
        subst hspot
        have hlt : b < W.heap.size := World.block_lt_of_cell? W ⟨b, off + 0 * 4, none⟩ (by rw [← Go.WideShapes.add_plain]; exact hz)
        refine ⟨b, off, rfl, hlt, fun j t ht => ?_⟩
        have hj : j < len := by
          have := (List.getElem?_eq_some_iff.1 ht).1
          simpa using this
        have htj : f j = t := by
          rw [List.getElem?_map, List.getElem?_range hj] at ht
          exact Option.some.inj ht
        obtain ⟨c0, c1, c2, c3, _⟩ := hfa j hj
        rw [htj, Go.WideShapes.add_plain] at c0 c1 c2 c3
        exact ⟨c0, c1, c2, c3⟩
end Go.Proofs.YtggkkhlghlghkaaDoor.lex
