/-
  The model's l8Down, l8Up: over steps that lie in a row.
-/
import Derived.Test.YtjjglklbfigmiaaDoorSe
import Derived.Test.YtjjglklbfigmiaaDoorRbI
namespace Go.Proofs.YtjjglklbfigmiaaDoor.num
open Go.ChangeShapes Go.WideShapes Go.ChangeAt Go.RowKit
set_option linter.unusedVariables false



theorem fold_snoc {f : Int → Int → Int} {l : List Int} {j : Nat} {t o : Int} (ht : l[j]? = some t) : (l.take (j + 1)).foldl f o = f ((l.take j).foldl f o) t := by
  rw [List.take_add_one, ht]; simp
set_option maxRecDepth 100000 in
set_option maxHeartbeats 4000000 in
theorem l8Down_any {base : Nat} {ok : Int → Prop} (l : List Int) (v : Int) (sv : Value) (w : World) (h : rws.Seq 1 rws.ci ok base w sv l) :
    Calls Tryd.prog 65 #[sv, .int .i64 v] w fun e w' => e = .returned (.int .i64 (down8 l v)) ∧ w' = w := by
  obtain ⟨a, cap, rfl, hc1, hc2⟩ := h.shape
  have H := hide h
  unfold maxLen at hc2
  clear h
  unfold down8
  generalize hf : (fun o x : Int => if x ≤ v ∧ o < x then x else o) = f
  go_enter Tryd.func65, Tryd.ntmps65
  go_wp2
  go_loop [5, 6] (fun out i => ∃ j : Nat, j ≤ l.length ∧ i = .int .i64 j ∧ out = .int .i64 ((l.take j).foldl f (-2147483648))) (fun _ i => l.length - (intOf i).toNat)
  case atStart => exact ⟨0, by omega, rfl, rfl⟩
  case round =>
    obtain ⟨j, hj, rfl, rfl⟩ := hrel
    by_cases hlt : j < l.length
    · obtain ⟨t, ht⟩ : ∃ t, l[j]? = some t := ⟨_, List.getElem?_eq_getElem hlt⟩
      have hs := fold_snoc (f := f) (o := -2147483648) ht
      obtain ⟨b, off, rfl, hb, hc⟩ := (unhide H).atI ht
      clear ht
      generalize (l.take j).foldl f (-2147483648) = o at *
      have HS := hide hs
      clear hs
      by_cases q1 : t ≤ v
      · by_cases q2 : o < t
        · go_wp2
          refine ⟨⟨j + 1, by omega, by go_num, ?_⟩, by simp [intOf]; omega⟩
          rw [unhide HS, ← hf]
          simp only []
          rw [if_pos ⟨q1, q2⟩]
        · go_wp2
          refine ⟨⟨j + 1, by omega, by go_num, ?_⟩, by simp [intOf]; omega⟩
          rw [unhide HS, ← hf]
          simp only []
          rw [if_neg (fun hh => q2 hh.2)]
      · go_wp2
        refine ⟨⟨j + 1, by omega, by go_num, ?_⟩, by simp [intOf]; omega⟩
        rw [unhide HS, ← hf]
        simp only []
        rw [if_neg (fun hh => q1 hh.1)]
    · obtain rfl : j = l.length := by omega
      rw [List.take_length]
      go_wp2
      go_ret
      exact ⟨rfl, rfl⟩
set_option maxRecDepth 100000 in
set_option maxHeartbeats 4000000 in
theorem l8Up_any {base : Nat} {ok : Int → Prop} (l : List Int) (v : Int) (sv : Value) (w : World) (h : rws.Seq 1 rws.ci ok base w sv l) :
    Calls Tryd.prog 66 #[sv, .int .i64 v] w fun e w' => e = .returned (.int .i64 (up8 l v)) ∧ w' = w := by
  obtain ⟨a, cap, rfl, hc1, hc2⟩ := h.shape
  have H := hide h
  unfold maxLen at hc2
  clear h
  unfold up8
  generalize hf : (fun o x : Int => if v ≤ x ∧ x < o then x else o) = f
  go_enter Tryd.func66, Tryd.ntmps66
  go_wp2
  go_loop [5, 6] (fun out i => ∃ j : Nat, j ≤ l.length ∧ i = .int .i64 j ∧ out = .int .i64 ((l.take j).foldl f (2147483647))) (fun _ i => l.length - (intOf i).toNat)
  case atStart => exact ⟨0, by omega, rfl, rfl⟩
  case round =>
    obtain ⟨j, hj, rfl, rfl⟩ := hrel
    by_cases hlt : j < l.length
    · obtain ⟨t, ht⟩ : ∃ t, l[j]? = some t := ⟨_, List.getElem?_eq_getElem hlt⟩
      have hs := fold_snoc (f := f) (o := 2147483647) ht
      obtain ⟨b, off, rfl, hb, hc⟩ := (unhide H).atI ht
      clear ht
      generalize (l.take j).foldl f (2147483647) = o at *
      have HS := hide hs
      clear hs
      by_cases q1 : v ≤ t
      · by_cases q2 : t < o
        · go_wp2
          refine ⟨⟨j + 1, by omega, by go_num, ?_⟩, by simp [intOf]; omega⟩
          rw [unhide HS, ← hf]
          simp only []
          rw [if_pos ⟨q1, q2⟩]
        · go_wp2
          refine ⟨⟨j + 1, by omega, by go_num, ?_⟩, by simp [intOf]; omega⟩
          rw [unhide HS, ← hf]
          simp only []
          rw [if_neg (fun hh => q2 hh.2)]
      · go_wp2
        refine ⟨⟨j + 1, by omega, by go_num, ?_⟩, by simp [intOf]; omega⟩
        rw [unhide HS, ← hf]
        simp only []
        rw [if_neg (fun hh => q1 hh.1)]
    · obtain rfl : j = l.length := by omega
      rw [List.take_length]
      go_wp2
      go_ret
      exact ⟨rfl, rfl⟩
end Go.Proofs.YtjjglklbfigmiaaDoor.num
