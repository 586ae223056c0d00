/-
  A code that came in is opened (the model's l1Open); picks and numbers of a reader that the call made.
-/
import Derived.Test.YthbbgkpkijlclaaDoorNm
namespace Go.Proofs.YthbbgkpkijlclaaDoor.num
open Go.ChangeShapes Go.WideShapes Go.ChangeAt Go.RowKit
set_option linter.unusedVariables false
/-- What is told of a slice of integers that came in: it is nil; or it leads to a row of 'cap' cells, the numbers 'zs', each fitting its kind. -/
def IsRow (k : IntKind) (w : World) (a : Option Addr) (len cap : Nat) (zs : List Int) : Prop :=
  (a = none ∧ len = 0 ∧ cap = 0 ∧ zs = []) ∨
  ∃ x, a = some x ∧ len ≤ cap ∧ cap ≤ maxLen ∧ zs.length = cap ∧ (∀ i, i < zs.length → w.cell? (x.add i) = some (.int k (zs.getD i 0))) ∧ ∀ n ∈ zs, (Lit.int k n).wf = true
/-- A code that came in: at most so many bytes, each a cell below the world's end. -/
def Code8 (w : World) (a : Option Addr) (len : Nat) : Prop :=
  len = 0 ∨ ∃ b off, a = some ⟨b, off, none⟩ ∧ b < w.heap.size ∧ ∀ i, i < len → ∃ z : Int, 0 ≤ z ∧ z ≤ 255 ∧ w.cell? ⟨b, off + i, none⟩ = some (.int .u8 z)
theorem code_of_row {w : World} {a : Option Addr} {len cap : Nat} {zs : List Int} (h : IsRow .u8 w a len cap zs) : Code8 w a len ∧ len ≤ cap ∧ cap ≤ 9223372036854775807 := by
  rcases h with ⟨rfl, rfl, rfl, rfl⟩ | ⟨x, rfl, hl, hm, hz, hc, hw⟩
  · exact ⟨.inl rfl, Nat.le_refl _, by omega⟩
  · unfold maxLen at hm
    refine ⟨?_, hl, by omega⟩
    by_cases h0 : len = 0
    · exact .inl h0
    · obtain ⟨b, off, rfl, hc'⟩ := ints_at hc (by omega)
      refine .inr ⟨b, off, rfl, World.block_lt_of_cell? w ⟨b, off + 0, none⟩ (hc' 0 (by omega)), fun i hi => ?_⟩
      have hb := range_u8 hw i
      rw [← List.getD_eq_getElem?_getD] at hb
      exact ⟨zs.getD i 0, hb.1, hb.2, hc' i (by omega)⟩
theorem rd_new (w : World) (a : Option Addr) (len len' cap : Nat) (h : Code8 w a len') (hl : len ≤ len') (h2 : len ≤ 2000) :
    Rd (w.alloc (.cells #[.slice a len cap, .int .i64 0] 149)) w.heap.size 0 := by
  refine ⟨by simp, a, len, cap, by simp, by simp, by simp [go_sem], h2, ?_⟩
  rcases h with h0 | ⟨b, off, ha, hb, hz⟩
  · exact .inl (by omega)
  · refine .inr ⟨b, off, ha, by omega, by simp; omega, fun i hi => ?_⟩
    obtain ⟨z, z0, z1, zc⟩ := hz i (by omega)
    exact ⟨z, z0, z1, by rw [World.cell?_alloc_lt _ _ _ (by simpa using hb)]; exact zc⟩
/-- A reader of block r, made behind w0; it has picked B times at most; of what was there in w0 nothing has turned. -/
def St (w0 : World) (r B : Nat) (w : World) : Prop := ∃ k, k ≤ B ∧ Rd w r k ∧ Kept r w0 w ∧ w0.heap.size ≤ r
theorem open_any (w : World) (a : Option Addr) (len cap : Nat) (h : Code8 w a len) (hl : len ≤ cap) (hm : cap ≤ 9223372036854775807) :
    Calls Tryd.prog 82 #[.slice a len cap] w fun e w' => e = .returned (.pointer (some ⟨w.heap.size, 0, none⟩)) ∧ St w w.heap.size 0 w' := by
  have H := hide h
  clear h
  by_cases hlen : 2000 < len
  · go_enter Tryd.func82, Tryd.ntmps82
    go_wp2
    go_ret
    exact ⟨rfl, 0, Nat.le_refl _, rd_new w a 2000 len cap (unhide H) (by omega) (by omega), Kept.of_below ((Below.refl _ _).alloc (Nat.le_refl _) _), Nat.le_refl _⟩
  · go_enter Tryd.func82, Tryd.ntmps82
    go_wp2
    go_ret
    exact ⟨rfl, 0, Nat.le_refl _, rd_new w a len len cap (unhide H) (by omega) (by omega), Kept.of_below ((Below.refl _ _).alloc (Nat.le_refl _) _), Nat.le_refl _⟩
theorem St.below {w0 w : World} {r B : Nat} (h : St w0 r B w) : Below w0.heap.size w0 w := by
  obtain ⟨k, hk, hr, hkp, hs⟩ := h
  exact hkp.below hs (Nat.le_refl _)
theorem pick_st (w0 w : World) (r B : Nat) (n : Int) (h : St w0 r B w) (hk : B ≤ 1000000000000) (hn : 1 ≤ n) (hn2 : n ≤ 65536) :
    Calls Tryd.prog 109 #[.pointer (some ⟨r, 0, none⟩), .int .i64 n] w fun e w' => ∃ v : Int, e = .returned (.int .i64 v) ∧ 0 ≤ v ∧ v < n ∧ St w0 r (B + 1) w' := by
  obtain ⟨k, hkB, hr, hkp, hs⟩ := h
  refine (pick_any w r k n hr (by omega) hn hn2).mono ?_
  rintro e w' ⟨v, rfl, v0, v1, hr', hkp'⟩
  exact ⟨v, rfl, v0, v1, k + 1, by omega, hr', hkp.trans hkp', hs⟩
theorem num_st (w0 w : World) (r B : Nat) (h : St w0 r B w) (hk : B ≤ 1000000000000) :
    Calls Tryd.prog 140 #[.pointer (some ⟨r, 0, none⟩)] w fun e w' => ∃ v : Int, e = .returned (.int .i64 v) ∧ -2147483648 ≤ v ∧ v ≤ 2147483647 ∧ St w0 r (B + 6) w' := by
  obtain ⟨k, hkB, hr, hkp, hs⟩ := h
  refine (num_any w r k hr (by omega)).mono ?_
  rintro e w' ⟨v, rfl, v0, v1, k', hk', hr', hkp'⟩
  exact ⟨v, rfl, v0, v1, k', by omega, hr', hkp.trans hkp', hs⟩
theorem St.more {w0 w : World} {r B B' : Nat} (h : St w0 r B w) (hB : B ≤ B') : St w0 r B' w := by
  obtain ⟨k, hk, hr⟩ := h
  exact ⟨k, by omega, hr⟩
theorem Code8.below {w w' : World} {a : Option Addr} {len : Nat} (h : Code8 w a len) (hb : Below w.heap.size w w') : Code8 w' a len := by
  rcases h with h0 | ⟨b, off, ha, hbs, hz⟩
  · exact .inl h0
  · refine .inr ⟨b, off, ha, Nat.lt_of_lt_of_le hbs hb.size, fun i hi => ?_⟩
    obtain ⟨z, z0, z1, zc⟩ := hz i hi
    exact ⟨z, z0, z1, by rw [hb.cell (p := ⟨b, off + i, none⟩) hbs]; exact zc⟩
end Go.Proofs.YthbbgkpkijlclaaDoor.num
