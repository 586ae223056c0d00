/-
  The program's RestMeet: two rests of which none is single.
-/
import Derived.Test.YthbbgkpkijlclaaUe
import Derived.Test.YthbbgkpkijlclaaUi
namespace Go.Proofs.Ythbbgkpkijlclaa.num
open Go.ChangeShapes Go.WideShapes Go.ChangeAt Go.RowKit
set_option linter.unusedVariables false

/-- What two rests have together of which none is single, told of the first. -/
def mf9 (a b : T9) : T9 × Bool :=
  if ¬ (a.2 - b.2) % gcd9 a.1 b.1 = 0 then ((0, 0), false) else if 65536 < lcm9 a b then (a, true) else ((lcm9 a b, crt9 a b), true)
theorem meet9_fine {a b : T9} (ha : qOk a = true) (hb : qOk b = true) (h1 : a.1 ≠ 0) (h2 : b.1 ≠ 0) (h : ¬ a.1 < b.1) : meet9 a b = mf9 a b := by
  unfold meet9 mf9
  rw [if_neg (by simp [ha, hb]), if_neg h1, if_neg h2, if_neg h]
theorem meet9_turn {a b : T9} (ha : qOk a = true) (hb : qOk b = true) (h1 : a.1 ≠ 0) (h2 : b.1 ≠ 0) (h : a.1 < b.1) : meet9 a b = mf9 b a := by
  have e : (a.2 - b.2) % gcd9 a.1 b.1 = 0 ↔ (b.2 - a.2) % gcd9 b.1 a.1 = 0 := by
    rw [gcd9_comm b.1 a.1, ← dvd_iff_emod, ← dvd_iff_emod, ← Int.dvd_neg, show -(a.2 - b.2) = b.2 - a.2 by omega]
  unfold meet9 mf9
  rw [if_neg (by simp [ha, hb]), if_neg h1, if_neg h2, if_pos h, lcm9_comm b a]
  by_cases hd : (a.2 - b.2) % gcd9 a.1 b.1 = 0
  · have hd' := e.1 hd
    simp [hd, hd', crt9_comm ha hb h1 h2 hd]
  · have hd' : ¬ (b.2 - a.2) % gcd9 b.1 a.1 = 0 := fun h => hd (e.2 h)
    rw [if_pos hd, if_pos hd']
theorem just_any (x y : Int) (m : Bool) (w : World) :
    Calls Try.prog 19 #[.agg #[.int .i64 x, .int .i64 y], .bool m] w fun e w' => e = .returned (.tuple #[.agg #[.int .i64 (if m = true then x else 0), .int .i64 (if m = true then y else 0)], .bool m]) ∧ Below w.heap.size w w' := by
  cases m
  all_goals
    go_enter Try.func19, Try.ntmps19
    go_wp2
  · refine bodyPost_ret (results_two_tmp rfl _ _ (w.heap.size + 1) (.int .i64 0) (.int .i64 0) _ rfl (by simp [go_sem]) (by simp [go_sem]) Try.underlying25 rfl (by kernel_rfl)) rfl ?_
    exact ⟨rfl, ((Below.refl _ _).alloc (Nat.le_refl _) _).alloc (by simp) _⟩
  · refine bodyPost_ret (results_two_tmp rfl _ _ (w.heap.size + 1) (.int .i64 x) (.int .i64 y) _ rfl (by simp [go_sem]) (by simp [go_sem]) Try.underlying25 rfl (by kernel_rfl)) rfl ?_
    exact ⟨rfl, ((Below.refl _ _).alloc (Nat.le_refl _) _).alloc (by simp) _⟩
theorem Hd.tail2' {w0 w : World} {L : List (Nat × Nat × Value)} {a b : Nat × Nat × Value} (h : Hd w0 (a :: b :: L) w) : Hd w0 L w := ⟨h.below, fun c o v hm => h.cells c o v (List.mem_cons_of_mem _ (List.mem_cons_of_mem _ hm))⟩
end Go.Proofs.Ythbbgkpkijlclaa.num
