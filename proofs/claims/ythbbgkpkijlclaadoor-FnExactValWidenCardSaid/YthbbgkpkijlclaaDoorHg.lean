/-
  Cells that are held: a new block on top of them, written into.
-/
import Derived.Test.YthbbgkpkijlclaaDoorSa
import Derived.Deep.Cut
import Derived.Deep.CutRange
import Derived.Deep.RegionHeld3
namespace Go.Proofs.YthbbgkpkijlclaaDoor.num
open Go.ChangeShapes Go.WideShapes Go.ChangeAt Go.RowKit
set_option linter.unusedVariables false

theorem Hd.lt {w0 w : World} {L : List (Nat × Nat × Value)} (h : Hd w0 L w) {b o : Nat} {v : Value} (hm : (b, o, v) ∈ L) : b < w.heap.size := (h.cells b o v hm).1
theorem Hd.alloc {w0 w : World} {L : List (Nat × Nat × Value)} (h : Hd w0 L w) (o : Obj) : Hd w0 L (w.alloc o) := h.call ((Below.refl w.heap.size w).alloc (Nat.le_refl _) o)
theorem Hd.top {w0 w : World} {L : List (Nat × Nat × Value)} {b : Nat} {x y : Value} (h : Hd w0 ((b, 0, x) :: (b, 1, y) :: L) w) :
    b < w.heap.size ∧ w.cell? ⟨b, 0, none⟩ = some x ∧ w.cell? ⟨b, 1, none⟩ = some y ∧ w.frozen? ⟨b, 0, none⟩ = false ∧ w.frozen? ⟨b, 1, none⟩ = false :=
  ⟨h.lt (List.mem_cons_self ..), h.get (List.mem_cons_self ..), h.get (o := 1) (List.mem_cons_of_mem _ (List.mem_cons_self ..)), h.fz (List.mem_cons_self ..), h.fz (o := 1) (List.mem_cons_of_mem _ (List.mem_cons_self ..))⟩
theorem Hd.weak {w0 w : World} {L L' : List (Nat × Nat × Value)} (h : Hd w0 L w) (hs : ∀ e ∈ L', e ∈ L) : Hd w0 L' w := ⟨h.below, fun b o v hm => h.cells b o v (hs _ hm)⟩
theorem Hd.set2 {w0 w : World} {L : List (Nat × Nat × Value)} {b : Nat} {x y : Value} (h : Hd w0 ((b, 0, x) :: (b, 1, y) :: L) w) (hb : w0.heap.size ≤ b) (hL : ∀ e ∈ L, e.1 ≠ b) (u v : Value) :
    Hd w0 ((b, 0, u) :: (b, 1, v) :: L) ((w.setCell ⟨b, 0, none⟩ u).setCell ⟨b, 1, none⟩ v) := by
  obtain ⟨hlt, c0, c1, z0, z1⟩ := h.top
  refine ⟨(h.below.setCell (by exact hb) _).setCell (by exact hb) _, fun c o q hm => ?_⟩
  have hsz : ((w.setCell ⟨b, 0, none⟩ u).setCell ⟨b, 1, none⟩ v).heap.size = w.heap.size := by simp
  rw [hsz]
  have hz : ∀ p : Addr, ((w.setCell ⟨b, 0, none⟩ u).setCell ⟨b, 1, none⟩ v).frozen? p = w.frozen? p := fun p => by simp
  rw [hz]
  rcases List.mem_cons.1 hm with h1 | hm
  · cases h1
    exact ⟨hlt, by rw [World.cell?_setCell_other _ _ _ _ (by simp), World.cell?_setCell_same _ _ _ (by rw [c0])], z0⟩
  · rcases List.mem_cons.1 hm with h1 | hm
    · cases h1
      exact ⟨hlt, by rw [World.cell?_setCell_same _ _ _ (by rw [World.cell?_setCell_other _ _ _ _ (by simp), c1])], z1⟩
    · have hne := hL _ hm
      obtain ⟨k1, k2, k3⟩ := h.cells c o q (List.mem_cons_of_mem _ (List.mem_cons_of_mem _ hm))
      exact ⟨k1, by rw [World.cell?_setCell_other _ _ _ _ (by simp; try (intro hh; exact absurd hh hne)), World.cell?_setCell_other _ _ _ _ (by simp; try (intro hh; exact absurd hh hne))]; exact k2, k3⟩
theorem Hd.setOther {w0 w : World} {L : List (Nat × Nat × Value)} (h : Hd w0 L w) {b o : Nat} (hb : w0.heap.size ≤ b) (hL : ∀ e ∈ L, e.1 ≠ b) (u : Value) : Hd w0 L (w.setCell ⟨b, o, none⟩ u) := by
  refine ⟨h.below.setCell (by exact hb) _, fun c p q hm => ?_⟩
  have hne := hL _ hm
  obtain ⟨k1, k2, k3⟩ := h.cells c p q hm
  exact ⟨by simpa using k1, by rw [World.cell?_setCell_other _ _ _ _ (by simp; try (intro hh; exact absurd hh hne))]; exact k2, by simpa using k3⟩
end Go.Proofs.YthbbgkpkijlclaaDoor.num
