/-
  The model's RestDo.
-/
import Derived.Test.YtjpiihjgbllieaaDoorVj
namespace Go.Proofs.YtjpiihjgbllieaaDoor.num
open Go.ChangeShapes Go.WideShapes Go.ChangeAt Go.RowKit
set_option linter.unusedVariables false

theorem sDo_xy (op x y x2 y2 : Int) (w : World) :
    Calls Tryd.prog 16 #[.int .i64 op, .agg #[.int .i64 x, .int .i64 y], .agg #[.int .i64 x2, .int .i64 y2]] w fun e w' => e = .returned (.agg #[.int .i64 (do9 op (x, y) (x2, y2)).1, .int .i64 (do9 op (x, y) (x2, y2)).2]) ∧ Below w.heap.size w w' := by
  by_cases hbad : inB op 1 13 = false ∨ qOk (x, y) = false ∨ qOk (x2, y2) = false
  · exact sDo_bad op x y x2 y2 hbad w
  · have ho : inB op 1 13 = true := by cases hh : inB op 1 13; (exact absurd (.inl hh) hbad); rfl
    have h : qOk (x, y) = true := by cases hh : qOk (x, y); (exact absurd (.inr (.inl hh)) hbad); rfl
    have h2 : qOk (x2, y2) = true := by cases hh : qOk (x2, y2); (exact absurd (.inr (.inr hh)) hbad); rfl
    by_cases hab : x = 0 ∧ x2 = 0
    · obtain ⟨rfl, rfl⟩ := hab
      exact sDo_single op y y2 ho h h2 w
    · have hc : op = 1 ∨ op = 2 ∨ op = 3 ∨ op = 4 ∨ op = 5 ∨ op = 6 ∨ op = 7 ∨ op = 8 ∨ op = 9 ∨ op = 10 ∨ op = 11 ∨ op = 12 ∨ op = 13 := by
        have := (inB_iff _ _ _).1 ho
        omega
      rcases hc with rfl | rfl | rfl | rfl | rfl | rfl | rfl | rfl | rfl | rfl | rfl | rfl | rfl
      · exact sDo_1 x y x2 y2 h h2 hab w
      · exact sDo_2 x y x2 y2 h h2 hab w
      · by_cases hz : apart9 (x, y) (x2, y2) = 0
        · exact sDo_3z x y x2 y2 h h2 hab hz w
        · exact sDo_3n x y x2 y2 h h2 hab hz w
      · exact sDo_4 x y x2 y2 h h2 hab w
      · exact sDo_5 x y x2 y2 h h2 hab w
      · exact sDo_6 x y x2 y2 h h2 hab w
      · exact sDo_7 x y x2 y2 h h2 hab w
      · exact sDo_8 x y x2 y2 h h2 hab w
      · by_cases hx2 : x2 = 0
        · subst hx2
          have hx0 : x ≠ 0 := fun e => hab ⟨e, rfl⟩
          cases hs0 : inB y2 0 31
          · exact sDo_9out x y y2 h h2 hx0 hs0 w
          · exact sDo_9in x y y2 h h2 hx0 hs0 w
        · exact sDo_9rest x y x2 y2 h h2 hx2 w
      · exact sDo_10 x y x2 y2 h h2 hab w
      · exact sDo_11 x y x2 y2 h h2 hab w
      · exact sDo_12 x y x2 y2 h h2 hab w
      · by_cases hz : apart9 (x, y) (x2, y2) = 0
        · exact sDo_13z x y x2 y2 h h2 hab hz w
        · exact sDo_13n x y x2 y2 h h2 hab hz w
end Go.Proofs.YtjpiihjgbllieaaDoor.num
