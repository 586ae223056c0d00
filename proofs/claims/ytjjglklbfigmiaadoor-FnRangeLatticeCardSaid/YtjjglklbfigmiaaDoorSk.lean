/-
  A list of faults that is made, beside cells that are held.
-/
import Derived.Test.YtjjglklbfigmiaaDoorSj
import Derived.OwnWalk
import Derived.Maps.AppendAt
namespace Go.Proofs.YtjjglklbfigmiaaDoor.num
open Go.ChangeShapes Go.WideShapes Go.ChangeAt Go.RowKit
set_option linter.unusedVariables false

theorem infoI : (Tryd.prog.info? 3).map (fun i => (i.zero, i.size, i.bytes)) = some (some (.int .i64 0), 1, 8) := by kernel_rfl
structure Fd (w0 : World) (L : List (Nat × Nat × Value)) (v : Value) (l : List Int) (w : World) : Prop where
  hd : Hd w0 L w
  row : w.ownsRow w0.heap.size 3 1 v l.length (l.map (Value.int .i64))
  apart : ∀ g, v.ownBlock = some g → ∀ t ∈ L, t.1 ≠ g
theorem Fd.call {w0 w w' : World} {L : List (Nat × Nat × Value)} {v : Value} {l : List Int} (h : Fd w0 L v l w) (hb : Below w.heap.size w w') : Fd w0 L v l w' :=
  ⟨h.hd.call hb, rws.row_below h.row (fun g hg => hb.block g (rws.row_lt h.row g hg).2), h.apart⟩
theorem Fd.box {w0 w : World} {L : List (Nat × Nat × Value)} {v : Value} {l : List Int} (h : Fd w0 L v l w) (x y : Value) (t : TypeId) :
    Fd w0 ((w.heap.size, 0, x) :: (w.heap.size, 1, y) :: L) v l (w.alloc (.cells #[x, y] t)) := by
  refine ⟨h.hd.box x y t, (h.call ((Below.refl w.heap.size w).alloc (Nat.le_refl _) _)).row, fun g hg t' ht => ?_⟩
  have hlt := (rws.row_lt h.row g hg).2
  rcases List.mem_cons.1 ht with rfl | ht
  · simp only; omega
  · rcases List.mem_cons.1 ht with rfl | ht
    · simp only; omega
    · exact h.apart g hg t' ht
theorem Hd.grown {w0 w w' : World} {L : List (Nat × Nat × Value)} {r : Option Nat} (h : Hd w0 L w) (hg : w.grownBy w' r) (hr : ∀ g, r = some g → w0.heap.size ≤ g ∧ ∀ t ∈ L, t.1 ≠ g) : Hd w0 L w' := by
  have hb : ∀ k, k < w.heap.size → some k ≠ r → w'.heap[k]? = w.heap[k]? := fun k hk hne => hg.block k hk hne
  refine ⟨h.below.trans ⟨hg.os, hg.tape, hg.output, hg.size, fun k hk => hb k (Nat.lt_of_lt_of_le hk h.below.size) (fun e => by have := (hr k e.symm).1; omega)⟩, fun b o v hm => ?_⟩
  obtain ⟨h1, h2, h3⟩ := h.cells b o v hm
  have hne : some b ≠ r := fun e => (hr b e.symm).2 _ hm rfl
  refine ⟨Nat.lt_of_lt_of_le h1 hg.size, ?_, ?_⟩
  · rw [World.cell?_of_block (w := w) (w' := w') (a := ⟨b, o, none⟩) (hb b h1 hne)]; exact h2
  · rw [World.frozen?_of_block (w := w) (w' := w') (a := ⟨b, o, none⟩) (hb b h1 hne)]; exact h3
/-- What an append makes of it. -/
theorem Fd.more {w0 w w' : World} {L : List (Nat × Nat × Value)} {v v' : Value} {l : List Int} {x : Int} (h : Fd w0 L v l w) (hown : w'.ownsRow w0.heap.size 3 1 v' (l.length + 1) (l.map (Value.int .i64) ++ [.int .i64 x]))
    (hg : w.grownBy w' v.ownBlock) (hloc : v'.ownBlock = v.ownBlock ∨ v'.ownBlock = some w.heap.size) : Fd w0 L v' (l ++ [x]) w' := by
  refine ⟨h.hd.grown hg (fun g e => ⟨(rws.row_lt h.row g e).1, h.apart g e⟩), by simpa using hown, fun g e t ht => ?_⟩
  rcases hloc with k | k
  · rw [k] at e; exact h.apart g e t ht
  · rw [k] at e
    injection e with e
    have := (h.hd.cells t.1 t.2.1 t.2.2 ht).1
    omega
theorem Fd.start {w0 w : World} {L : List (Nat × Nat × Value)} (h : Hd w0 L w) : Fd w0 L (.slice (some ⟨w.heap.size, 0, none⟩) 0 0) [] (w.alloc (.cells #[] 3)) := by
  refine ⟨h.call ((Below.refl w.heap.size w).alloc (Nat.le_refl _) _), ⟨rfl, .inr ⟨w.heap.size, 0, #[], rfl, h.below.size, rws.at_new _ _, by simp, by unfold maxLen; omega, rfl, by simp⟩⟩, fun g hg t ht => ?_⟩
  have e : w.heap.size = g := by simpa [Value.ownBlock] using hg
  have := (h.cells t.1 t.2.1 t.2.2 ht).1
  omega
end Go.Proofs.YtjjglklbfigmiaaDoor.num
