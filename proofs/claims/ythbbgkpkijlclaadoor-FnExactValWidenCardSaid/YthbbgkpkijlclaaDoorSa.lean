/-
  The model's ranges: small functions.
-/
import Derived.Test.YthbbgkpkijlclaaDoorBs
import Derived.Test.YthbbgkpkijlclaaDoorQe
import Derived.Test.YthbbgkpkijlclaaDoorRt
import Derived.Test.YthbbgkpkijlclaaDoorRt2
import Derived.Deep.QuietTactic
import Derived.BigQuiet
import Derived.Deep.MidRow
import Derived.Deep.RegionWith
namespace Go.Proofs.YthbbgkpkijlclaaDoor.num
open Go.ChangeShapes Go.WideShapes Go.ChangeAt Go.RowKit
set_option linter.unusedVariables false

/-- A struct of two cells lies in the variable of the result. -/
theorem results_two {P : Program} {fn : Func} {p : Tmp} {ty : TypeId} (h : fn.results = #[.cell p ty]) (tmps : Array Value) (w : World) (g : Nat) (x y : Value) (d : TypeDesc)
    (hp : tmps.getD p undef = .pointer (some ⟨g, 0, none⟩)) (c0 : w.cell? ⟨g, 0, none⟩ = some x) (c1 : w.cell? ⟨g, 1, none⟩ = some y)
    (hu : P.underlying ty = some d) (hd : d.isRow = true) (hi : (P.info? ty).map (·.size) = some 2) :
    (results fn tmps).run P w = .ok (.agg #[x, y]) w := by
  have hp' : tmps[p]?.getD undef = .pointer (some ⟨g, 0, none⟩) := by simpa using hp
  have hl := run_loadVar_mid (P := P) w g 0 ty [x, y] d (fun j v hj => by
    match j, hj with
    | 0, hj => simp at hj; subst hj; exact c0
    | 1, hj => simp at hj; subst hj; exact c1
    | n + 2, hj => simp at hj) hu hd hi
  have hl' : (loadVar ty ⟨g, 0, none⟩).run P w = .ok (.agg #[x, y]) w := hl
  simp [results, h, hp', asAddr, hl']
theorem below_drewN {B : Nat} {a w : World} (h : Below B a w) (n : Nat) : Below B a (w.drewN n) := ⟨h.os, h.tape, h.output, h.size, h.block⟩
/-- A world in which all that lay in W lies as it lay. -/
structure Over (W : World) where
  w : World
  below : Below W.heap.size W w
instance (W : World) : Inhabited (Over W) := ⟨⟨W, Below.refl _ _⟩⟩
theorem Over.cell {W : World} (p : Over W) {b i : Nat} {v : Value} (hb : b < W.heap.size) (h : W.cell? ⟨b, i, none⟩ = some v) : p.w.cell? ⟨b, i, none⟩ = some v := by
  rw [p.below.cell (by exact hb)]; exact h
/-- A region that draws its order, whose operations only read and whose callees lay new blocks alone. -/
theorem wp_region_over {P : Program} {id : Nat} {Q : Exit → Act → World → Prop} {a : Act} {w : World} {l : List Oper} (hm : P.follows .mixedOrders = true) (hB : Region.lexB .any l.toArray = true)
    (h : wpQuiet P l.toArray (fun w' => ∃ p : Over w, w' = p.w) (fun a' => ∀ w', (∃ p : Over w, w' = p.w) → Q .normal a' w') l a) : (Code.region id l.toArray true).wp P Q a w :=
  wp_region_quiet (C := fun w' => ∃ p : Over w, w' = p.w) hm hB ⟨⟨_, below_drewN (Below.refl _ _) 1⟩, rfl⟩ (by simpa using h)
/-- .. but for the last operation, which waits for all the others. -/
theorem wp_region_tail_over {P : Program} {id n : Nat} {Q : Exit → Act → World → Prop} {a : Act} {w : World} {l : List Oper} {o : Oper} (hl : l = l.dropLast ++ [o]) (hn : l.dropLast.length = n) (hd : o.dst = none) (hg : o.guard = none)
    (hm : P.follows .mixedOrders = true) (hB : Region.lexB .any (l.dropLast ++ [tv o]).toArray = true) (hT : tailB l.toArray n = true)
    (h : wpQuiet P (l.dropLast ++ [tv o]).toArray (fun w' => ∃ p : Over w, w' = p.w) (fun a' => ∀ w', (∃ p : Over w, w' = p.w) → o.wp P a' w' (fun a w => Q .normal a w) Q) l.dropLast a) : (Code.region id l.toArray true).wp P Q a w :=
  wp_region_tail (C := fun w' => ∃ p : Over w, w' = p.w) hl hn hd hg hm hB hT ⟨⟨_, below_drewN (Below.refl _ _) 1⟩, rfl⟩ h
theorem wp_region_tails_over {P : Program} {id : Nat} (n : Nat) {Q : Exit → Act → World → Prop} {a : Act} {w : World} {l : List Oper} (hn : n ≤ l.length)
    (hm : P.follows .mixedOrders = true) (hB : Region.lexB .any (l.take n ++ (l.drop n).map tw).toArray = true) (hT : tailsB l.toArray n = true)
    (h : wpQuiet P (l.take n ++ (l.drop n).map tw).toArray (fun w' => ∃ p : Over w, w' = p.w) (fun a' => ∀ w', (∃ p : Over w, w' = p.w) → wpList P l.toArray Q (l.drop n) a' w') (l.take n) a) : (Code.region id l.toArray true).wp P Q a w :=
  wp_region_tails n (C := fun w' => ∃ p : Over w, w' = p.w) hn hm hB hT ⟨⟨_, below_drewN (Below.refl _ _) 1⟩, rfl⟩ h
theorem Over.next {W : World} (p : Over W) {w' : World} (h : Below p.w.heap.size p.w w') : ∃ q : Over W, w' = q.w := ⟨⟨w', p.below.trans (h.mono p.below.size)⟩, rfl⟩
theorem below_up {B : Nat} {w W w' : World} (h : Below B w W) (hB : B ≤ W.heap.size) (k : Below W.heap.size W w') : Below B w w' := h.trans (k.mono hB)
/-- What a box of two cells gives. -/
theorem box2 (w : World) (x y : Value) (t : TypeId) : ∃ W, W = w.alloc (.cells #[x, y] t) ∧ W.cell? ⟨w.heap.size, 0, none⟩ = some x ∧ W.cell? ⟨w.heap.size, 1, none⟩ = some y ∧ w.heap.size < W.heap.size ∧ Below w.heap.size w W ∧
    W.frozen? ⟨w.heap.size, 0, none⟩ = false ∧ W.frozen? ⟨w.heap.size, 1, none⟩ = false ∧ W.heap.size = w.heap.size + 1 :=
  ⟨_, rfl, by simp [go_sem], by simp [go_sem], by simp, (Below.refl _ _).alloc (Nat.le_refl _) _, by simp [go_sem], by simp [go_sem], by simp⟩

/-- Cells that are held while calls lay new blocks. -/
structure Hd (w0 : World) (L : List (Nat × Nat × Value)) (w : World) : Prop where
  below : Below w0.heap.size w0 w
  cells : ∀ b o v, (b, o, v) ∈ L → b < w.heap.size ∧ w.cell? ⟨b, o, none⟩ = some v ∧ w.frozen? ⟨b, o, none⟩ = false
theorem Hd.start (w : World) : Hd w [] w := ⟨Below.refl _ _, fun b o v h => by cases h⟩
theorem Hd.call {w0 w w' : World} {L : List (Nat × Nat × Value)} (h : Hd w0 L w) (hb : Below w.heap.size w w') : Hd w0 L w' :=
  ⟨below_up h.below h.below.size hb, fun b o v hm => by
    obtain ⟨h1, h2, h3⟩ := h.cells b o v hm
    exact ⟨Nat.lt_of_lt_of_le h1 hb.size, by rw [hb.cell (p := ⟨b, o, none⟩) h1]; exact h2, by rw [hb.frozen (p := ⟨b, o, none⟩) h1]; exact h3⟩⟩
theorem Hd.drewN {w0 w : World} {L : List (Nat × Nat × Value)} (h : Hd w0 L w) (n : Nat) : Hd w0 L (w.drewN n) := h.call (below_drewN (Below.refl _ _) n)
theorem Hd.get {w0 w : World} {L : List (Nat × Nat × Value)} (h : Hd w0 L w) {b o : Nat} {v : Value} (hm : (b, o, v) ∈ L) : w.cell? ⟨b, o, none⟩ = some v := (h.cells b o v hm).2.1
theorem Hd.fz {w0 w : World} {L : List (Nat × Nat × Value)} (h : Hd w0 L w) {b o : Nat} {v : Value} (hm : (b, o, v) ∈ L) : w.frozen? ⟨b, o, none⟩ = false := (h.cells b o v hm).2.2
theorem Hd.over {w0 w : World} {L : List (Nat × Nat × Value)} (h : Hd w0 L w) {b o : Nat} {v : Value} (hm : (b, o, v) ∈ L) (p : Over w) : p.w.cell? ⟨b, o, none⟩ = some v := p.cell (h.cells b o v hm).1 (h.get hm)
theorem Hd.box {w0 w : World} {L : List (Nat × Nat × Value)} (h : Hd w0 L w) (x y : Value) (t : TypeId) : Hd w0 ((w.heap.size, 0, x) :: (w.heap.size, 1, y) :: L) (w.alloc (.cells #[x, y] t)) := by
  have k := h.call ((Below.refl w.heap.size w).alloc (Nat.le_refl _) (.cells #[x, y] t))
  refine ⟨k.below, fun b o v hm => ?_⟩
  rcases List.mem_cons.1 hm with h1 | hm
  · cases h1; exact ⟨by simp, by simp [go_sem], by simp [go_sem]⟩
  · rcases List.mem_cons.1 hm with h1 | hm
    · cases h1; exact ⟨by simp, by simp [go_sem], by simp [go_sem]⟩
    · exact k.cells b o v hm
theorem Hd.fill {w0 w : World} {L : List (Nat × Nat × Value)} (h : Hd w0 L w) {b : Nat} {x y : Value} (h0 : (b, 0, x) ∈ L) (h1 : (b, 1, y) ∈ L) (hb : w0.heap.size ≤ b) (u v : Value) :
    ((w.setCell ⟨b, 0, none⟩ u).setCell ⟨b, 1, none⟩ v).cell? ⟨b, 0, none⟩ = some u ∧ ((w.setCell ⟨b, 0, none⟩ u).setCell ⟨b, 1, none⟩ v).cell? ⟨b, 1, none⟩ = some v ∧
    Below w0.heap.size w0 ((w.setCell ⟨b, 0, none⟩ u).setCell ⟨b, 1, none⟩ v) := by
  have c0 := h.get h0
  have c1 := h.get h1
  refine ⟨?_, ?_, ?_⟩
  · rw [World.cell?_setCell_other _ _ _ _ (by simp), World.cell?_setCell_same _ _ _ (by rw [c0])]
  · rw [World.cell?_setCell_same _ _ _ (by rw [World.cell?_setCell_other _ _ _ _ (by simp), c1])]
  · exact (h.below.setCell (by exact hb) _).setCell (by exact hb) _
theorem size_alloc1 (w : World) (o : Obj) : (w.alloc o).heap.size = w.heap.size + 1 := by simp
theorem Hd.one (w : World) (x y : Value) (t : TypeId) : ∃ W, W = w.alloc (.cells #[x, y] t) ∧ Hd w [(w.heap.size, 0, x), (w.heap.size, 1, y)] W := ⟨_, rfl, (Hd.start w).box x y t⟩
theorem Hd.two (w : World) (x y x2 y2 : Value) (t t2 : TypeId) : ∃ W, W = (w.alloc (.cells #[x, y] t)).alloc (.cells #[x2, y2] t2) ∧
    Hd w [(w.heap.size + 1, 0, x2), (w.heap.size + 1, 1, y2), (w.heap.size, 0, x), (w.heap.size, 1, y)] W := by
  refine ⟨_, rfl, ?_⟩
  have h := ((Hd.start w).box x y t).box x2 y2 t2
  rw [size_alloc1] at h
  exact h
theorem Hd.three (w : World) (x y x2 y2 x3 y3 : Value) (t t2 t3 : TypeId) : ∃ W, W = ((w.alloc (.cells #[x, y] t)).alloc (.cells #[x2, y2] t2)).alloc (.cells #[x3, y3] t3) ∧
    Hd w [(w.heap.size + 2, 0, x3), (w.heap.size + 2, 1, y3), (w.heap.size + 1, 0, x2), (w.heap.size + 1, 1, y2), (w.heap.size, 0, x), (w.heap.size, 1, y)] W := by
  refine ⟨_, rfl, ?_⟩
  have h := (((Hd.start w).box x y t).box x2 y2 t2).box x3 y3 t3
  rw [size_alloc1, size_alloc1] at h
  exact h

end Go.Proofs.YthbbgkpkijlclaaDoor.num
