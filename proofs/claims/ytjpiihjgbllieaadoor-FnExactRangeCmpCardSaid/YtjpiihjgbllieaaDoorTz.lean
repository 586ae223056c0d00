/-
  The table of turned comparisons, from what a row lists.
-/
import Derived.Test.YtjpiihjgbllieaaDoorTp
namespace Go.Proofs.YtjpiihjgbllieaaDoor.num
open Go.ChangeShapes Go.WideShapes Go.ChangeAt Go.RowKit
set_option linter.unusedVariables false

theorem Hd.tail2 {w0 w : World} {L : List (Nat × Nat × Value)} {a b : Nat × Nat × Value} (h : Hd w0 (a :: b :: L) w) : Hd w0 L w := ⟨h.below, fun c o v hm => h.cells c o v (List.mem_cons_of_mem _ (List.mem_cons_of_mem _ hm))⟩
theorem Hd.swap {w0 w : World} {L : List (Nat × Nat × Value)} {a b c d : Nat × Nat × Value} (h : Hd w0 (a :: b :: c :: d :: L) w) : Hd w0 (c :: d :: a :: b :: L) w := h.weak (fun e he => by simp only [List.mem_cons] at he ⊢; rcases he with h | h | h | h | h <;> simp [h])
abbrev nTurn : String := Rows.fnExactRangeCmpSpec.vars.getD 1 default
theorem gTurn : Tryd.prog.globalNamed nTurn = some 6 := by kernel_rfl
theorem tTurn : (Tryd.prog.globals[6]?).map (·.type) = some 136 := by kernel_rfl
theorem cellsT : Tryd.prog.cellsOf 136 = 7 := by kernel_rfl
def turned : List Int := [0, 1, 2, 5, 6, 3, 4]
theorem tv_of {w : World} (h : Lib.TabIs Tryd.prog w nTurn .i64 turned) : Tv w := by
  refine ⟨?_, h.cell gTurn 0 (by decide), h.cell gTurn 1 (by decide), h.cell gTurn 2 (by decide), h.cell gTurn 3 (by decide), h.cell gTurn 4 (by decide), h.cell gTurn 5 (by decide), h.cell gTurn 6 (by decide)⟩
  have h' := h
  unfold Lib.TabIs World.var? at h'
  rw [gTurn] at h'
  simp only [Option.bind_some] at h'
  cases hh : w.heap[6]? with
  | none => rw [hh] at h'; cases h'
  | some o => exact (Array.getElem?_eq_some_iff.1 hh).1
end Go.Proofs.YtjpiihjgbllieaaDoor.num
