/-
  Plain facts on what NumDo tells: the number is ok, a fault is one of three and stands beside 0, operators that wrap have none, three operators are the same both ways.
-/
import Derived.Test.YtjpiihjgbllieaaNc
namespace Go.Proofs.Ytjpiihjgbllieaa.num
open Go.RowKit
theorem inB_cases (op : Int) (h : inB op 1 13 = true) : op = 1 ∨ op = 2 ∨ op = 3 ∨ op = 4 ∨ op = 5 ∨ op = 6 ∨ op = 7 ∨ op = 8 ∨ op = 9 ∨ op = 10 ∨ op = 11 ∨ op = 12 ∨ op = 13 := by
  have := (inB_iff op 1 13).1 h
  omega
theorem exactV_comm (op a b : Int) (h : op = 1 ∨ op = 3 ∨ op = 8) : exactV op b a = exactV op a b := by
  rcases h with rfl | rfl | rfl
  · rw [exactV_1, exactV_1, Int.add_comm]
  · rw [exactV_3, exactV_3, Int.mul_comm]
  · rw [exactV_8, exactV_8, bitsN_xor, bitsN_xor, Nat.xor_comm]
theorem numDo_comm (op a b : Int) (h : op = 1 ∨ op = 3 ∨ op = 8) : numDo op b a = numDo op a b := by
  unfold numDo
  rw [exactV_comm op a b h]
  have e1 : (inB op 1 13 = false ∨ okB b = false ∨ okB a = false) = (inB op 1 13 = false ∨ okB a = false ∨ okB b = false) := by
    rw [or_comm (a := okB b = false)]
  have e2 : ((op = 4 ∨ op = 5) ∧ a = 0) = ((op = 4 ∨ op = 5) ∧ b = 0) := by apply propext; constructor <;> (rintro ⟨h1, _⟩; omega)
  have e3 : ((op = 9 ∨ op = 10) ∧ inB a 0 31 = false) = ((op = 9 ∨ op = 10) ∧ inB b 0 31 = false) := by apply propext; constructor <;> (rintro ⟨h1, _⟩; omega)
  simp only [e1, e2, e3]
theorem numDo_facts (op a b : Int) : okB (numDo op a b).1 = true ∧ 0 ≤ (numDo op a b).2 ∧ (numDo op a b).2 ≤ 3 ∧ ((numDo op a b).2 = 0 ∨ (numDo op a b).1 = 0) ∧
    (11 ≤ op → (numDo op a b).2 = 0) ∧ (op = 1 ∨ op = 3 ∨ op = 8 → numDo op b a = numDo op a b) := by
  have z : okB 0 = true := by decide
  refine ⟨?_, ?_, ?_, ?_, ?_, numDo_comm op a b⟩
  all_goals unfold numDo
  · split
    · exact z
    · split
      · exact z
      · split
        · exact z
        · split
          · exact w32_ok _
          · split
            · exact z
            · rename_i h; simpa using h
  · split <;> (try split) <;> (try split) <;> (try split) <;> (try split) <;> simp
  · split <;> (try split) <;> (try split) <;> (try split) <;> (try split) <;> simp
  · split <;> (try split) <;> (try split) <;> (try split) <;> (try split) <;> simp
  · intro h
    rw [if_neg (c := (op = 4 ∨ op = 5) ∧ b = 0) (by omega), if_neg (c := (op = 9 ∨ op = 10) ∧ inB b 0 31 = false) (by omega), if_pos h]
    split <;> rfl
end Go.Proofs.Ytjpiihjgbllieaa.num
