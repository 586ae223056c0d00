/-
  Structs of four cells that are held.
-/
import Derived.Test.YthbbgkpkijlclaaDoorTm
import Derived.Test.YthbbgkpkijlclaaDoorTf
import Derived.Test.YthbbgkpkijlclaaDoorKa
namespace Go.Proofs.YthbbgkpkijlclaaDoor.num
open Go.ChangeShapes Go.WideShapes Go.ChangeAt Go.RowKit
set_option linter.unusedVariables false

theorem Hd.fill4 {w0 w : World} {L : List (Nat × Nat × Value)} (h : Hd w0 L w) {b : Nat} {x y z u : Value} (h0 : (b, 0, x) ∈ L) (h1 : (b, 1, y) ∈ L) (h2 : (b, 2, z) ∈ L) (h3 : (b, 3, u) ∈ L) (hb : w0.heap.size ≤ b) (p q r s : Value) :
    ((((w.setCell ⟨b, 0, none⟩ p).setCell ⟨b, 1, none⟩ q).setCell ⟨b, 2, none⟩ r).setCell ⟨b, 3, none⟩ s).cell? ⟨b, 0, none⟩ = some p ∧
    ((((w.setCell ⟨b, 0, none⟩ p).setCell ⟨b, 1, none⟩ q).setCell ⟨b, 2, none⟩ r).setCell ⟨b, 3, none⟩ s).cell? ⟨b, 1, none⟩ = some q ∧
    ((((w.setCell ⟨b, 0, none⟩ p).setCell ⟨b, 1, none⟩ q).setCell ⟨b, 2, none⟩ r).setCell ⟨b, 3, none⟩ s).cell? ⟨b, 2, none⟩ = some r ∧
    ((((w.setCell ⟨b, 0, none⟩ p).setCell ⟨b, 1, none⟩ q).setCell ⟨b, 2, none⟩ r).setCell ⟨b, 3, none⟩ s).cell? ⟨b, 3, none⟩ = some s ∧
    Below w0.heap.size w0 ((((w.setCell ⟨b, 0, none⟩ p).setCell ⟨b, 1, none⟩ q).setCell ⟨b, 2, none⟩ r).setCell ⟨b, 3, none⟩ s) := by
  have c0 := h.get h0
  have c1 := h.get h1
  have c2 := h.get h2
  have c3 := h.get h3
  refine ⟨?_, ?_, ?_, ?_, ?_⟩
  · rw [World.cell?_setCell_other _ _ _ _ (by simp), World.cell?_setCell_other _ _ _ _ (by simp), World.cell?_setCell_other _ _ _ _ (by simp), World.cell?_setCell_same _ _ _ (by rw [c0])]
  · rw [World.cell?_setCell_other _ _ _ _ (by simp), World.cell?_setCell_other _ _ _ _ (by simp), World.cell?_setCell_same _ _ _ (by rw [World.cell?_setCell_other _ _ _ _ (by simp), c1])]
  · rw [World.cell?_setCell_other _ _ _ _ (by simp), World.cell?_setCell_same _ _ _ (by rw [World.cell?_setCell_other _ _ _ _ (by simp), World.cell?_setCell_other _ _ _ _ (by simp), c2])]
  · rw [World.cell?_setCell_same _ _ _ (by rw [World.cell?_setCell_other _ _ _ _ (by simp), World.cell?_setCell_other _ _ _ _ (by simp), World.cell?_setCell_other _ _ _ _ (by simp), c3])]
  · exact (((h.below.setCell (by exact hb) _).setCell (by exact hb) _).setCell (by exact hb) _).setCell (by exact hb) _
theorem Hd.topF {w0 w : World} {L : List (Nat × Nat × Value)} {b : Nat} {x y z u : Value} (h : Hd w0 ((b, 0, x) :: (b, 1, y) :: (b, 2, z) :: (b, 3, u) :: L) w) :
    b < w.heap.size ∧ (w.cell? ⟨b, 0, none⟩ = some x ∧ w.cell? ⟨b, 1, none⟩ = some y ∧ w.cell? ⟨b, 2, none⟩ = some z ∧ w.cell? ⟨b, 3, none⟩ = some u) ∧
    w.frozen? ⟨b, 0, none⟩ = false ∧ w.frozen? ⟨b, 1, none⟩ = false ∧ w.frozen? ⟨b, 2, none⟩ = false ∧ w.frozen? ⟨b, 3, none⟩ = false :=
  ⟨h.lt (o := 0) (v := x) (by simp), ⟨h.get (o := 0) (v := x) (by simp), h.get (o := 1) (v := y) (by simp), h.get (o := 2) (v := z) (by simp), h.get (o := 3) (v := u) (by simp)⟩,
   h.fz (o := 0) (v := x) (by simp), h.fz (o := 1) (v := y) (by simp), h.fz (o := 2) (v := z) (by simp), h.fz (o := 3) (v := u) (by simp)⟩
theorem Hd.setF {w0 w : World} {L : List (Nat × Nat × Value)} {b : Nat} {x y z u : Value} (h : Hd w0 ((b, 0, x) :: (b, 1, y) :: (b, 2, z) :: (b, 3, u) :: L) w) (hb : w0.heap.size ≤ b) (hL : ∀ e ∈ L, e.1 ≠ b) (p q r s : Value) :
    Hd w0 ((b, 0, p) :: (b, 1, q) :: (b, 2, r) :: (b, 3, s) :: L) ((((w.setCell ⟨b, 0, none⟩ p).setCell ⟨b, 1, none⟩ q).setCell ⟨b, 2, none⟩ r).setCell ⟨b, 3, none⟩ s) := by
  obtain ⟨hlt, _, z0, z1, z2, z3⟩ := h.topF
  obtain ⟨f0, f1, f2, f3, fb⟩ := h.fill4 (b := b) (x := x) (y := y) (z := z) (u := u) (by simp) (by simp) (by simp) (by simp) hb p q r s
  have hsz : ((((w.setCell ⟨b, 0, none⟩ p).setCell ⟨b, 1, none⟩ q).setCell ⟨b, 2, none⟩ r).setCell ⟨b, 3, none⟩ s).heap.size = w.heap.size := by simp
  have hz : ∀ a : Addr, ((((w.setCell ⟨b, 0, none⟩ p).setCell ⟨b, 1, none⟩ q).setCell ⟨b, 2, none⟩ r).setCell ⟨b, 3, none⟩ s).frozen? a = w.frozen? a := fun a => by simp
  refine ⟨fb, fun c o v hm => ?_⟩
  rw [hsz, hz]
  simp only [List.mem_cons, Prod.mk.injEq] at hm
  rcases hm with ⟨rfl, rfl, rfl⟩ | ⟨rfl, rfl, rfl⟩ | ⟨rfl, rfl, rfl⟩ | ⟨rfl, rfl, rfl⟩ | hm
  · exact ⟨hlt, f0, z0⟩
  · exact ⟨hlt, f1, z1⟩
  · exact ⟨hlt, f2, z2⟩
  · exact ⟨hlt, f3, z3⟩
  · have hne := hL _ hm
    obtain ⟨k1, k2, k3⟩ := h.cells c o v (by simp [hm])
    refine ⟨k1, ?_, k3⟩
    rw [World.cell?_setCell_other _ _ _ _ (by simp; try (intro hh; exact absurd hh hne)), World.cell?_setCell_other _ _ _ _ (by simp; try (intro hh; exact absurd hh hne)), World.cell?_setCell_other _ _ _ _ (by simp; try (intro hh; exact absurd hh hne)), World.cell?_setCell_other _ _ _ _ (by simp; try (intro hh; exact absurd hh hne))]
    exact k2
/-- Two structs of four ints that are not the same, held against each other cell by cell. -/
theorem ne4_if {x y m t p q r s : Int} (h : ((x, y, m, t) : V10) ≠ (p, q, r, s)) : ∀ {α : Type} (a b : α), (if x = p then (if y = q then (if m = r then (if t = s then a else b) else b) else b) else b) = b := by
  intro α a b
  by_cases e1 : x = p
  · by_cases e2 : y = q
    · by_cases e3 : m = r
      · by_cases e4 : t = s
        · exact absurd (by rw [e1, e2, e3, e4]) h
        · rw [if_pos e1, if_pos e2, if_pos e3, if_neg e4]
      · rw [if_pos e1, if_pos e2, if_neg e3]
    · rw [if_pos e1, if_neg e2]
  · rw [if_neg e1]
theorem ne2_if {x y p q : Int} (h : ((x, y) : R8) ≠ (p, q)) : ∀ {α : Type} (a b : α), (if x = p then (if y = q then a else b) else b) = b := by
  intro α a b
  by_cases e1 : x = p
  · by_cases e2 : y = q
    · exact absurd (by rw [e1, e2]) h
    · rw [if_pos e1, if_neg e2]
  · rw [if_neg e1]
theorem isN10 (x y m t : Int) : ((x, y, m, t) : V10) = none10 ∨ ((x, y, m, t) : V10) ≠ (1, 0, 0, 0) := by
  by_cases h : ((x, y, m, t) : V10) = none10
  · exact .inl h
  · exact .inr h
end Go.Proofs.YthbbgkpkijlclaaDoor.num
