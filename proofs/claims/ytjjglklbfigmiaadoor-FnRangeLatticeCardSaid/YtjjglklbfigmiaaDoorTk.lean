/-
  Rows of numbers: a copy; a row that came in.
-/
import Derived.Test.YtjjglklbfigmiaaDoorRbI
import Derived.Test.YtjjglklbfigmiaaDoorTf
import Derived.Lib.SmallJoins
namespace Go.Proofs.YtjjglklbfigmiaaDoor.rws
open Go.Deep Go.RowKit Go.ChangeShapes Go.WideShapes Go.Joins Go.Proofs.YtjjglklbfigmiaaDoor.num
set_option linter.unusedVariables false

theorem infoI : (Tryd.prog.info? 3).map (fun i => (i.zero, i.size, i.bytes)) = some (some (.int .i64 0), 1, 8) := by kernel_rfl
set_option maxHeartbeats 4000000 in
set_option maxRecDepth 100000 in
theorem toI_any {base : Nat} (l : List Int) (v : Value) (w : World) (h : Ints base w v l) (h20 : l.length ≤ 1048576) :
    Calls Tryd.prog 31 #[v] w fun e w' => (∃ v', e = .returned v' ∧ RInts w.heap.size w' v' l) ∧ Below w.heap.size w w' := by
  obtain ⟨a, cap, rfl, hc1, hc2⟩ := h.shape
  obtain ⟨i0, hi, hz0, hz1, hz2⟩ := info_parts infoI
  have H := hide h
  unfold maxLen at hc2
  clear h
  have hlen : ∃ len, l.length = len := ⟨_, rfl⟩
  obtain ⟨len, hlen⟩ := hlen
  have HL := hide hlen
  rw [hlen] at h20 hc1 ⊢
  clear hlen
  go_enter Tryd.func31, Tryd.ntmps31
  go_wp2_with (at_make; refine wpList_make_full _ rfl _ _ 33 rfl w.heap.size 3 i0 _ 1 Tryd.underlying33 hi hz0 hz1 .i64 .i64 _ _ len rfl rfl rfl rfl (by rw [hz2]; omega) (by unfold maxLen; omega) (Nat.le_refl _) ?_; intro w1 hown hgrow)
  have B1 := hide ((Below.refl _ w).grown hgrow (Nat.le_refl _) (fun k hk => by cases hk))
  have hxl := hown.1
  generalize (madeCells _ _).toList = xs0 at hown hxl
  have R1 := hide hown
  clear hown hgrow
  go_loopw [4] (fun i wr => ∃ (j : Nat) (rest : List Value), j ≤ len ∧ i = .int .i64 j ∧ rest.length = len - j ∧ Hid (wr.ownsRow w.heap.size 3 1 (.slice (some ⟨w.heap.size, 0, none⟩) len len) len (((l.take j).map ci).flatten ++ rest)) ∧ Hid (Below w.heap.size w wr)) (fun i _ => len - (intOf i).toNat)
  case atStart => exact ⟨0, xs0, by omega, rfl, by omega, hide (by simpa using unhide R1), B1⟩
  case round =>
    obtain ⟨j, rest, hj, rfl, hrest, HR, HB⟩ := hrel
    by_cases hlt : j < len
    · have hl := unhide HL
      obtain ⟨t, ht⟩ : ∃ t, l[j]? = some t := ⟨_, List.getElem?_eq_getElem (by omega)⟩
      obtain ⟨b, off, rfl, hb, hc⟩ := ((unhide H).below (unhide HB)).atI ht
      have HT := hide ht
      obtain ⟨⟨y0, x0⟩, f0, hg2⟩ := row_at (unhide HR) (o := j) (by omega)
      clear ht hl
      go_wp2
      refine ⟨⟨j + 1, rest.drop 1, by omega, by go_num, by simp; omega, hide ?_, hide ?_⟩, by simp [intOf]; omega⟩
      · have hL : ((l.take j).map ci).flatten.length = j := by
          rw [map_len (k := 1) (fun _ => rfl)]
          have := unhide HL
          simp; omega
        rw [fill_snoc (unhide HT), show ci t = [Value.int .i64 t] from rfl, set1 _ rest j _ hL (by omega)]
        exact row_put (unhide HR) _
      · exact (unhide HB).setCell (p := ⟨w.heap.size, j, none⟩) (Nat.le_refl _) _
    · obtain rfl : j = len := by omega
      obtain rfl : rest = [] := List.length_eq_zero_iff.1 (by omega)
      go_wp2
      go_ret
      refine ⟨⟨_, rfl, ?_⟩, unhide HB⟩
      have := unhide HR
      have hz := unhide HL
      rw [List.append_nil, List.take_of_length_le (by omega), ← hz] at this
      rw [← hz]
      exact this

theorem cellsInt : Tryd.prog.cellsOf 3 = 1 := by kernel_rfl
section
variable {H : Type} {enc : TypeId × Value → H} {W : World} {sp : Nat → Bool} {held : Bool}
/-- A row whose elements read as their cells. -/
theorem seq_of {α : Type} [Inhabited α] {T e k : Nat} {cells : α → List Value} {ok : α → Prop} {fuel : Nat} {v : Value} {x : DataW H × List MemPlace} (hT : Tryd.prog.underlying T = some (.slice e)) (hk : Tryd.prog.cellsOf e = k) (hk0 : 0 < k)
    (hE : ∀ n cs y, DataW.trod enc Tryd.prog W 0 sp held n e cs = some y → cs.length = k → ∃ t, cs = cells t ∧ ok t)
    (h : DataW.trod enc Tryd.prog W 0 sp held fuel T [v] = some x) : ∃ z : List α, Seq k cells ok 0 W v z := by
  rcases open_slice hT h with ⟨hcs, _⟩ | ⟨a, len, cap, m, n, Dx, Pl, hcs, hb, hl, hm, hmm, _, hx⟩
  · simp at hcs
    exact ⟨[], none, 0, hcs, Nat.le_refl _, Nat.zero_le _, .inl rfl⟩
  · simp at hcs
    have each : ∀ i, i < len → ∃ t : α, ok t ∧ (cells t).length = k ∧ ∀ j u, (cells t)[j]? = some u → W.cell? (a.add (i * k + j)) = some u := by
      intro i hi
      obtain ⟨cs', h1, h2⟩ := hx i (by rw [hmm]; split <;> omega)
      rw [hk] at h1
      obtain ⟨_, hlen, hcell⟩ := World.cells?_some h1
      obtain ⟨t, rfl, ht⟩ := hE n cs' _ h2 hlen
      refine ⟨t, ht, hlen, fun j u hu => ?_⟩
      have hj : j < k := by rw [← hlen]; exact (List.getElem?_eq_some_iff.1 hu).1
      have e0 := hcell j hj
      rw [add_add, hu] at e0
      exact e0
    obtain ⟨f, hfa⟩ := choose_lt each
    refine ⟨(List.range len).map f, some a, cap, by simpa using hcs, by simpa using hl, hm, ?_⟩
    by_cases h0 : len = 0
    · exact .inl (by simpa using h0)
    · right
      obtain ⟨-, hcl, hz⟩ := hfa 0 (by omega)
      obtain ⟨u, hu⟩ : ∃ u, (cells (f 0))[0]? = some u := ⟨_, List.getElem?_eq_getElem (by omega)⟩
      have hz0 := hz 0 u hu
      obtain ⟨b, off, spot⟩ := a
      have hspot : spot = none := by simpa [Addr.add] using World.cell?_spot hz0
      subst hspot
      have hlt : b < W.heap.size := World.block_lt_of_cell? W ⟨b, off + (0 * k + 0), none⟩ (by rw [← Go.WideShapes.add_plain]; exact hz0)
      refine ⟨b, off, rfl, Nat.zero_le _, hlt, fun j t ht => ?_⟩
      have hj : j < len := by
        have := (List.getElem?_eq_some_iff.1 ht).1
        simpa using this
      have htj : f j = t := by
        rw [List.getElem?_map, List.getElem?_range hj] at ht
        exact Option.some.inj ht
      obtain ⟨q1, q2, q3⟩ := hfa j hj
      rw [htj] at q1 q2 q3
      refine ⟨q1, q2, fun i u hu => ?_⟩
      have := q3 i u hu
      rw [Go.WideShapes.add_plain, ← Nat.add_assoc] at this
      exact this

theorem ints_of {fuel : Nat} {v : Value} {x : DataW H × List MemPlace} (h : DataW.trod enc Tryd.prog W 0 sp held fuel 33 [v] = some x) : ∃ z, Ints 0 W v z :=
  seq_of (cells := ci) Tryd.underlying33 cellsInt (by omega) (fun n cs y hy _ => by
    obtain ⟨s, e1, _, e3⟩ := DataW.trod_int Tryd.underlying3 hy
    exact ⟨s, e1, e3⟩) h
end
end Go.Proofs.YtjjglklbfigmiaaDoor.rws
