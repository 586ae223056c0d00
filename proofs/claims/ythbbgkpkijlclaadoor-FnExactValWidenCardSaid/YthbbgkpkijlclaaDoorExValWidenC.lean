/-
  For every arguments the law ExValWiden returns true and writes nothing that was there; the walks that it alone needs are laid here too.
-/
import Derived.Test.YthbbgkpkijlclaaDoorSe
import Derived.Test.YthbbgkpkijlclaaDoorRbI
import Derived.Test.YthbbgkpkijlclaaDoorTh
import Derived.Test.YthbbgkpkijlclaaDoorTf
import Derived.Lib.SmallJoins
import Derived.Test.YthbbgkpkijlclaaDoorLB
import Derived.Test.YthbbgkpkijlclaaDoorMA
import Derived.SevenTiedAt
import Derived.Stop.LaidErr
import Derived.ShutString
import Derived.ChangeOld
import Derived.Below
import Derived.Test.YthbbgkpkijlclaaDoorKc
import Derived.Test.YthbbgkpkijlclaaDoorTie
import Derived.Test.YthbbgkpkijlclaaDoorCards
namespace Go.Proofs.YthbbgkpkijlclaaDoor.num
open Go.ChangeShapes Go.WideShapes Go.ChangeAt Go.RowKit
set_option linter.unusedVariables false



theorem fold_snoc {f : Int → Int → Int} {l : List Int} {j : Nat} {t o : Int} (ht : l[j]? = some t) : (l.take (j + 1)).foldl f o = f ((l.take j).foldl f o) t := by
  rw [List.take_add_one, ht]; simp
set_option maxRecDepth 100000 in
set_option maxHeartbeats 4000000 in
theorem l8Down_any {base : Nat} {ok : Int → Prop} (l : List Int) (v : Int) (sv : Value) (w : World) (h : rws.Seq 1 rws.ci ok base w sv l) :
    Calls Tryd.prog 168 #[sv, .int .i64 v] w fun e w' => e = .returned (.int .i64 (down8 l v)) ∧ w' = w := by
  obtain ⟨a, cap, rfl, hc1, hc2⟩ := h.shape
  have H := hide h
  unfold maxLen at hc2
  clear h
  unfold down8
  generalize hf : (fun o x : Int => if x ≤ v ∧ o < x then x else o) = f
  go_enter Tryd.func168, Tryd.ntmps168
  go_wp2
  go_loop [5, 6] (fun out i => ∃ j : Nat, j ≤ l.length ∧ i = .int .i64 j ∧ out = .int .i64 ((l.take j).foldl f (-2147483648))) (fun _ i => l.length - (intOf i).toNat)
  case atStart => exact ⟨0, by omega, rfl, rfl⟩
  case round =>
    obtain ⟨j, hj, rfl, rfl⟩ := hrel
    by_cases hlt : j < l.length
    · obtain ⟨t, ht⟩ : ∃ t, l[j]? = some t := ⟨_, List.getElem?_eq_getElem hlt⟩
      have hs := fold_snoc (f := f) (o := -2147483648) ht
      obtain ⟨b, off, rfl, hb, hc⟩ := (unhide H).atI ht
      clear ht
      generalize (l.take j).foldl f (-2147483648) = o at *
      have HS := hide hs
      clear hs
      by_cases q1 : t ≤ v
      · by_cases q2 : o < t
        · go_wp2
          refine ⟨⟨j + 1, by omega, by go_num, ?_⟩, by simp [intOf]; omega⟩
          rw [unhide HS, ← hf]
          simp only []
          rw [if_pos ⟨q1, q2⟩]
        · go_wp2
          refine ⟨⟨j + 1, by omega, by go_num, ?_⟩, by simp [intOf]; omega⟩
          rw [unhide HS, ← hf]
          simp only []
          rw [if_neg (fun hh => q2 hh.2)]
      · go_wp2
        refine ⟨⟨j + 1, by omega, by go_num, ?_⟩, by simp [intOf]; omega⟩
        rw [unhide HS, ← hf]
        simp only []
        rw [if_neg (fun hh => q1 hh.1)]
    · obtain rfl : j = l.length := by omega
      rw [List.take_length]
      go_wp2
      go_ret
      exact ⟨rfl, rfl⟩
set_option maxRecDepth 100000 in
set_option maxHeartbeats 4000000 in
theorem l8Up_any {base : Nat} {ok : Int → Prop} (l : List Int) (v : Int) (sv : Value) (w : World) (h : rws.Seq 1 rws.ci ok base w sv l) :
    Calls Tryd.prog 169 #[sv, .int .i64 v] w fun e w' => e = .returned (.int .i64 (up8 l v)) ∧ w' = w := by
  obtain ⟨a, cap, rfl, hc1, hc2⟩ := h.shape
  have H := hide h
  unfold maxLen at hc2
  clear h
  unfold up8
  generalize hf : (fun o x : Int => if v ≤ x ∧ x < o then x else o) = f
  go_enter Tryd.func169, Tryd.ntmps169
  go_wp2
  go_loop [5, 6] (fun out i => ∃ j : Nat, j ≤ l.length ∧ i = .int .i64 j ∧ out = .int .i64 ((l.take j).foldl f (2147483647))) (fun _ i => l.length - (intOf i).toNat)
  case atStart => exact ⟨0, by omega, rfl, rfl⟩
  case round =>
    obtain ⟨j, hj, rfl, rfl⟩ := hrel
    by_cases hlt : j < l.length
    · obtain ⟨t, ht⟩ : ∃ t, l[j]? = some t := ⟨_, List.getElem?_eq_getElem hlt⟩
      have hs := fold_snoc (f := f) (o := 2147483647) ht
      obtain ⟨b, off, rfl, hb, hc⟩ := (unhide H).atI ht
      clear ht
      generalize (l.take j).foldl f (2147483647) = o at *
      have HS := hide hs
      clear hs
      by_cases q1 : v ≤ t
      · by_cases q2 : t < o
        · go_wp2
          refine ⟨⟨j + 1, by omega, by go_num, ?_⟩, by simp [intOf]; omega⟩
          rw [unhide HS, ← hf]
          simp only []
          rw [if_pos ⟨q1, q2⟩]
        · go_wp2
          refine ⟨⟨j + 1, by omega, by go_num, ?_⟩, by simp [intOf]; omega⟩
          rw [unhide HS, ← hf]
          simp only []
          rw [if_neg (fun hh => q2 hh.2)]
      · go_wp2
        refine ⟨⟨j + 1, by omega, by go_num, ?_⟩, by simp [intOf]; omega⟩
        rw [unhide HS, ← hf]
        simp only []
        rw [if_neg (fun hh => q1 hh.1)]
    · obtain rfl : j = l.length := by omega
      rw [List.take_length]
      go_wp2
      go_ret
      exact ⟨rfl, rfl⟩
end Go.Proofs.YthbbgkpkijlclaaDoor.num
namespace Go.Proofs.YthbbgkpkijlclaaDoor.num
open Go.ChangeShapes Go.WideShapes Go.ChangeAt Go.RowKit
set_option linter.unusedVariables false


set_option maxRecDepth 100000 in
set_option maxHeartbeats 4000000 in
theorem RangeWiden_xy {base : Nat} {ok : Int → Prop} (x y x2 y2 : Int) (l : List Int) (sv : Value) (w : World) (hs : rws.Seq 1 rws.ci ok base w sv l) :
    Calls Tryd.prog 107 #[.agg #[.int .i64 x, .int .i64 y], .agg #[.int .i64 x2, .int .i64 y2], sv] w fun e w' => e = .returned (.agg #[.int .i64 (widen8 (x, y) (x2, y2) l).1, .int .i64 (widen8 (x, y) (x2, y2) l).2]) ∧ Below w.heap.size w w' := by
  obtain ⟨W, hW, H⟩ := Hd.three w (.int .i64 x) (.int .i64 y) (.int .i64 x2) (.int .i64 y2) (.int .i64 0) (.int .i64 0) 24 24 24
  have c0 := H.get (b := w.heap.size) (o := 0) (v := .int .i64 x) (by simp)
  have c1 := H.get (b := w.heap.size) (o := 1) (v := .int .i64 y) (by simp)
  have c2 := H.get (b := w.heap.size + 1) (o := 0) (v := .int .i64 x2) (by simp)
  have c3 := H.get (b := w.heap.size + 1) (o := 1) (v := .int .i64 y2) (by simp)
  have HJ := fun w => RangeJoin_xy x y x2 y2 w
  have hw : widen8 (x, y) (x2, y2) l = if rOk (x, y) = false ∨ rOk (x2, y2) = false ∨ isN (x, y) = true ∨ isN (x2, y2) = true then ((join8 (x, y) (x2, y2)).1, (join8 (x, y) (x2, y2)).2)
      else (if (join8 (x, y) (x2, y2)).1 < x then down8 l (join8 (x, y) (x2, y2)).1 else (join8 (x, y) (x2, y2)).1, if y < (join8 (x, y) (x2, y2)).2 then up8 l (join8 (x, y) (x2, y2)).2 else (join8 (x, y) (x2, y2)).2) := rfl
  rw [hw]
  clear hw
  generalize (join8 (x, y) (x2, y2)).1 = p0 at *
  generalize (join8 (x, y) (x2, y2)).2 = p1 at *
  cases h : rOk (x, y)
  · have h2 : True := trivial
    rw [if_pos (by simp)]
    go_enter Tryd.func107, Tryd.ntmps107
    go_wp2_with fail
    rw [← hW]
    go_wp2_with (go_at_call 68; refine (HJ _).mono ?_; rintro e w' ⟨rfl, hb⟩; replace H := H.call hb)
    have hseq := (hs.below ((H.below).mono (Nat.le_refl _))).below ((Below.refl w'.heap.size w').alloc (Nat.le_refl _) (.cells #[.int .i64 p0, .int .i64 p1] 24))
    have hlt2 : w.heap.size + 2 < w'.heap.size := (H.cells (w.heap.size + 2) 0 (.int .i64 0) (by simp)).1
    have H2 := H.box (.int .i64 p0) (.int .i64 p1) 24
    generalize w'.alloc (.cells #[.int .i64 p0, .int .i64 p1] 24) = W2 at *
    generalize w'.heap.size = g at *
    clear H
    have H := H2
    clear H2 c0 c1 c2 c3
    have k0 := fun p : Over W2 => H.over (b := w.heap.size) (o := 0) (v := .int .i64 x) (by simp) p
    have k1 := fun p : Over W2 => H.over (b := w.heap.size) (o := 1) (v := .int .i64 y) (by simp) p
    have k2 := fun p : Over W2 => H.over (b := w.heap.size + 1) (o := 0) (v := .int .i64 x2) (by simp) p
    have k3 := fun p : Over W2 => H.over (b := w.heap.size + 1) (o := 1) (v := .int .i64 y2) (by simp) p
    refine wp_region_over (by kernel_rfl) (by kernel_rfl) ?_
    repeat (go_big_quiet_step (first | (go_at_call 59; rename_i p; refine (RangeOk_xy _ _ _).mono ?_; rintro e' w' ⟨rfl, hb1⟩; exact ⟨by rw [h], p.next hb1⟩) | (go_at_call 89; rename_i p; refine (l8None_any _).mono ?_; rintro e' w' ⟨rfl, hb1⟩; exact ⟨rfl, p.next hb1⟩)))
    refine wpQuiet_nil ?_
    rintro _ ⟨p, rfl⟩
    replace H := H.call p.below
    clear k0 k1 k2 k3
    generalize p.w = w3 at *
    have c0 := H.get (b := g) (o := 0) (v := .int .i64 p0) (by simp)
    have c1 := H.get (b := g) (o := 1) (v := .int .i64 p1) (by simp)
    have c2 := H.get (b := w.heap.size + 2) (o := 0) (v := .int .i64 0) (by simp)
    have c3 := H.get (b := w.heap.size + 2) (o := 1) (v := .int .i64 0) (by simp)
    have z0 := H.fz (b := w.heap.size + 2) (o := 0) (v := .int .i64 0) (by simp)
    have z1 := H.fz (b := w.heap.size + 2) (o := 1) (v := .int .i64 0) (by simp)
    go_wp2
    obtain ⟨f0, f1, fb⟩ := H.fill (b := w.heap.size + 2) (x := .int .i64 0) (y := .int .i64 0) (by simp) (by simp) (by omega) (.int .i64 p0) (.int .i64 p1)
    refine bodyPost_ret (results_two rfl _ _ (w.heap.size + 2) (.int .i64 p0) (.int .i64 p1) _ rfl f0 f1 Tryd.underlying24 rfl (by kernel_rfl)) rfl ?_
    exact ⟨rfl, fb⟩
  · cases h2 : rOk (x2, y2)
    · skip
      rw [if_pos (by simp)]
      go_enter Tryd.func107, Tryd.ntmps107
      go_wp2_with fail
      rw [← hW]
      go_wp2_with (go_at_call 68; refine (HJ _).mono ?_; rintro e w' ⟨rfl, hb⟩; replace H := H.call hb)
      have hseq := (hs.below ((H.below).mono (Nat.le_refl _))).below ((Below.refl w'.heap.size w').alloc (Nat.le_refl _) (.cells #[.int .i64 p0, .int .i64 p1] 24))
      have hlt2 : w.heap.size + 2 < w'.heap.size := (H.cells (w.heap.size + 2) 0 (.int .i64 0) (by simp)).1
      have H2 := H.box (.int .i64 p0) (.int .i64 p1) 24
      generalize w'.alloc (.cells #[.int .i64 p0, .int .i64 p1] 24) = W2 at *
      generalize w'.heap.size = g at *
      clear H
      have H := H2
      clear H2 c0 c1 c2 c3
      have k0 := fun p : Over W2 => H.over (b := w.heap.size) (o := 0) (v := .int .i64 x) (by simp) p
      have k1 := fun p : Over W2 => H.over (b := w.heap.size) (o := 1) (v := .int .i64 y) (by simp) p
      have k2 := fun p : Over W2 => H.over (b := w.heap.size + 1) (o := 0) (v := .int .i64 x2) (by simp) p
      have k3 := fun p : Over W2 => H.over (b := w.heap.size + 1) (o := 1) (v := .int .i64 y2) (by simp) p
      refine wp_region_over (by kernel_rfl) (by kernel_rfl) ?_
      repeat (go_big_quiet_step (first | (go_at_call 59; rename_i p; refine (RangeOk_xy _ _ _).mono ?_; rintro e' w' ⟨rfl, hb1⟩; exact ⟨by first | rw [h] | rw [h2], p.next hb1⟩) | (go_at_call 89; rename_i p; refine (l8None_any _).mono ?_; rintro e' w' ⟨rfl, hb1⟩; exact ⟨rfl, p.next hb1⟩)))
      refine wpQuiet_nil ?_
      rintro _ ⟨p, rfl⟩
      replace H := H.call p.below
      clear k0 k1 k2 k3
      generalize p.w = w3 at *
      have c0 := H.get (b := g) (o := 0) (v := .int .i64 p0) (by simp)
      have c1 := H.get (b := g) (o := 1) (v := .int .i64 p1) (by simp)
      have c2 := H.get (b := w.heap.size + 2) (o := 0) (v := .int .i64 0) (by simp)
      have c3 := H.get (b := w.heap.size + 2) (o := 1) (v := .int .i64 0) (by simp)
      have z0 := H.fz (b := w.heap.size + 2) (o := 0) (v := .int .i64 0) (by simp)
      have z1 := H.fz (b := w.heap.size + 2) (o := 1) (v := .int .i64 0) (by simp)
      go_wp2
      obtain ⟨f0, f1, fb⟩ := H.fill (b := w.heap.size + 2) (x := .int .i64 0) (y := .int .i64 0) (by simp) (by simp) (by omega) (.int .i64 p0) (.int .i64 p1)
      refine bodyPost_ret (results_two rfl _ _ (w.heap.size + 2) (.int .i64 p0) (.int .i64 p1) _ rfl f0 f1 Tryd.underlying24 rfl (by kernel_rfl)) rfl ?_
      exact ⟨rfl, fb⟩
    · cases n : isN (x, y)
      · have hq := @some_if x y n
        cases n2 : isN (x2, y2)
        · have hq2 := @some_if x2 y2 n2
          rw [if_neg (by simp)]
          have hD := fun w (hs : rws.Seq 1 rws.ci ok base w sv l) => l8Down_any l p0 sv w hs
          have hU := fun w (hs : rws.Seq 1 rws.ci ok base w sv l) => l8Up_any l p1 sv w hs
          generalize down8 l p0 = dn at *
          generalize up8 l p1 = un at *
          by_cases qa : p0 < x
          · by_cases qb : y < p1
            · rw [if_pos qa, if_pos qb]
              go_enter Tryd.func107, Tryd.ntmps107
              go_wp2_with fail
              rw [← hW]
              go_wp2_with (go_at_call 68; refine (HJ _).mono ?_; rintro e w' ⟨rfl, hb⟩; replace H := H.call hb)
              have hseq := (hs.below ((H.below).mono (Nat.le_refl _))).below ((Below.refl w'.heap.size w').alloc (Nat.le_refl _) (.cells #[.int .i64 p0, .int .i64 p1] 24))
              have hlt2 : w.heap.size + 2 < w'.heap.size := (H.cells (w.heap.size + 2) 0 (.int .i64 0) (by simp)).1
              have H2 := H.box (.int .i64 p0) (.int .i64 p1) 24
              generalize w'.alloc (.cells #[.int .i64 p0, .int .i64 p1] 24) = W2 at *
              generalize w'.heap.size = g at *
              clear H
              have H := H2
              clear H2 c0 c1 c2 c3
              have k0 := fun p : Over W2 => H.over (b := w.heap.size) (o := 0) (v := .int .i64 x) (by simp) p
              have k1 := fun p : Over W2 => H.over (b := w.heap.size) (o := 1) (v := .int .i64 y) (by simp) p
              have k2 := fun p : Over W2 => H.over (b := w.heap.size + 1) (o := 0) (v := .int .i64 x2) (by simp) p
              have k3 := fun p : Over W2 => H.over (b := w.heap.size + 1) (o := 1) (v := .int .i64 y2) (by simp) p
              refine wp_region_over (by kernel_rfl) (by kernel_rfl) ?_
              repeat (go_big_quiet_step (first | (go_at_call 59; rename_i p; refine (RangeOk_xy _ _ _).mono ?_; rintro e' w' ⟨rfl, hb1⟩; exact ⟨by first | rw [h] | rw [h2], p.next hb1⟩) | (go_at_call 89; rename_i p; refine (l8None_any _).mono ?_; rintro e' w' ⟨rfl, hb1⟩; exact ⟨rfl, p.next hb1⟩)))
              refine wpQuiet_nil ?_
              rintro _ ⟨p, rfl⟩
              replace H := H.call p.below
              clear k0 k1 k2 k3
              generalize p.w = w3 at *
              have c0 := H.get (b := g) (o := 0) (v := .int .i64 p0) (by simp)
              have c1 := H.get (b := g) (o := 1) (v := .int .i64 p1) (by simp)
              have c2 := H.get (b := w.heap.size) (o := 0) (v := .int .i64 x) (by simp)
              have c3 := H.get (b := w.heap.size) (o := 1) (v := .int .i64 y) (by simp)
              have c4 := H.get (b := w.heap.size + 2) (o := 0) (v := .int .i64 0) (by simp)
              have c5 := H.get (b := w.heap.size + 2) (o := 1) (v := .int .i64 0) (by simp)
              have z0 := H.fz (b := g) (o := 0) (v := .int .i64 p0) (by simp)
              have z1 := H.fz (b := g) (o := 1) (v := .int .i64 p1) (by simp)
              have z2 := H.fz (b := w.heap.size + 2) (o := 0) (v := .int .i64 0) (by simp)
              have z3 := H.fz (b := w.heap.size + 2) (o := 1) (v := .int .i64 0) (by simp)
              have g0 : ¬ g = w.heap.size + 2 := by omega
              have g1 : ¬ w.heap.size + 2 = g := by omega
              go_wp2_with (first | (go_at_call 168; refine (hD _ (hs.below H.below)).mono ?_; rintro e w' ⟨rfl, rfl⟩) | (go_at_call 169; refine (hU _ (by first | exact hs.below H.below | exact hs.below (H.below.setCell (by show w.heap.size ≤ g; omega) _))).mono ?_; rintro e w' ⟨rfl, rfl⟩))
              refine bodyPost_ret (results_two rfl _ _ (w.heap.size + 2) (.int .i64 dn) (.int .i64 un) _ rfl (by simp [go_sem, *]) (by simp [go_sem, *]) Tryd.underlying24 rfl (by kernel_rfl)) rfl ?_
              exact ⟨rfl, ((((H.below.setCell (by show w.heap.size ≤ g; omega) _).setCell (by show w.heap.size ≤ g; omega) _).setCell (by show w.heap.size ≤ w.heap.size + 2; omega) _).setCell (by show w.heap.size ≤ w.heap.size + 2; omega) _)⟩
            · rw [if_pos qa, if_neg qb]
              go_enter Tryd.func107, Tryd.ntmps107
              go_wp2_with fail
              rw [← hW]
              go_wp2_with (go_at_call 68; refine (HJ _).mono ?_; rintro e w' ⟨rfl, hb⟩; replace H := H.call hb)
              have hseq := (hs.below ((H.below).mono (Nat.le_refl _))).below ((Below.refl w'.heap.size w').alloc (Nat.le_refl _) (.cells #[.int .i64 p0, .int .i64 p1] 24))
              have hlt2 : w.heap.size + 2 < w'.heap.size := (H.cells (w.heap.size + 2) 0 (.int .i64 0) (by simp)).1
              have H2 := H.box (.int .i64 p0) (.int .i64 p1) 24
              generalize w'.alloc (.cells #[.int .i64 p0, .int .i64 p1] 24) = W2 at *
              generalize w'.heap.size = g at *
              clear H
              have H := H2
              clear H2 c0 c1 c2 c3
              have k0 := fun p : Over W2 => H.over (b := w.heap.size) (o := 0) (v := .int .i64 x) (by simp) p
              have k1 := fun p : Over W2 => H.over (b := w.heap.size) (o := 1) (v := .int .i64 y) (by simp) p
              have k2 := fun p : Over W2 => H.over (b := w.heap.size + 1) (o := 0) (v := .int .i64 x2) (by simp) p
              have k3 := fun p : Over W2 => H.over (b := w.heap.size + 1) (o := 1) (v := .int .i64 y2) (by simp) p
              refine wp_region_over (by kernel_rfl) (by kernel_rfl) ?_
              repeat (go_big_quiet_step (first | (go_at_call 59; rename_i p; refine (RangeOk_xy _ _ _).mono ?_; rintro e' w' ⟨rfl, hb1⟩; exact ⟨by first | rw [h] | rw [h2], p.next hb1⟩) | (go_at_call 89; rename_i p; refine (l8None_any _).mono ?_; rintro e' w' ⟨rfl, hb1⟩; exact ⟨rfl, p.next hb1⟩)))
              refine wpQuiet_nil ?_
              rintro _ ⟨p, rfl⟩
              replace H := H.call p.below
              clear k0 k1 k2 k3
              generalize p.w = w3 at *
              have c0 := H.get (b := g) (o := 0) (v := .int .i64 p0) (by simp)
              have c1 := H.get (b := g) (o := 1) (v := .int .i64 p1) (by simp)
              have c2 := H.get (b := w.heap.size) (o := 0) (v := .int .i64 x) (by simp)
              have c3 := H.get (b := w.heap.size) (o := 1) (v := .int .i64 y) (by simp)
              have c4 := H.get (b := w.heap.size + 2) (o := 0) (v := .int .i64 0) (by simp)
              have c5 := H.get (b := w.heap.size + 2) (o := 1) (v := .int .i64 0) (by simp)
              have z0 := H.fz (b := g) (o := 0) (v := .int .i64 p0) (by simp)
              have z1 := H.fz (b := g) (o := 1) (v := .int .i64 p1) (by simp)
              have z2 := H.fz (b := w.heap.size + 2) (o := 0) (v := .int .i64 0) (by simp)
              have z3 := H.fz (b := w.heap.size + 2) (o := 1) (v := .int .i64 0) (by simp)
              have g0 : ¬ g = w.heap.size + 2 := by omega
              have g1 : ¬ w.heap.size + 2 = g := by omega
              go_wp2_with (first | (go_at_call 168; refine (hD _ (hs.below H.below)).mono ?_; rintro e w' ⟨rfl, rfl⟩) | (go_at_call 169; refine (hU _ (by first | exact hs.below H.below | exact hs.below (H.below.setCell (by show w.heap.size ≤ g; omega) _))).mono ?_; rintro e w' ⟨rfl, rfl⟩))
              refine bodyPost_ret (results_two rfl _ _ (w.heap.size + 2) (.int .i64 dn) (.int .i64 p1) _ rfl (by simp [go_sem, *]) (by simp [go_sem, *]) Tryd.underlying24 rfl (by kernel_rfl)) rfl ?_
              exact ⟨rfl, (((H.below.setCell (by show w.heap.size ≤ g; omega) _).setCell (by show w.heap.size ≤ w.heap.size + 2; omega) _).setCell (by show w.heap.size ≤ w.heap.size + 2; omega) _)⟩
          · by_cases qb : y < p1
            · rw [if_neg qa, if_pos qb]
              go_enter Tryd.func107, Tryd.ntmps107
              go_wp2_with fail
              rw [← hW]
              go_wp2_with (go_at_call 68; refine (HJ _).mono ?_; rintro e w' ⟨rfl, hb⟩; replace H := H.call hb)
              have hseq := (hs.below ((H.below).mono (Nat.le_refl _))).below ((Below.refl w'.heap.size w').alloc (Nat.le_refl _) (.cells #[.int .i64 p0, .int .i64 p1] 24))
              have hlt2 : w.heap.size + 2 < w'.heap.size := (H.cells (w.heap.size + 2) 0 (.int .i64 0) (by simp)).1
              have H2 := H.box (.int .i64 p0) (.int .i64 p1) 24
              generalize w'.alloc (.cells #[.int .i64 p0, .int .i64 p1] 24) = W2 at *
              generalize w'.heap.size = g at *
              clear H
              have H := H2
              clear H2 c0 c1 c2 c3
              have k0 := fun p : Over W2 => H.over (b := w.heap.size) (o := 0) (v := .int .i64 x) (by simp) p
              have k1 := fun p : Over W2 => H.over (b := w.heap.size) (o := 1) (v := .int .i64 y) (by simp) p
              have k2 := fun p : Over W2 => H.over (b := w.heap.size + 1) (o := 0) (v := .int .i64 x2) (by simp) p
              have k3 := fun p : Over W2 => H.over (b := w.heap.size + 1) (o := 1) (v := .int .i64 y2) (by simp) p
              refine wp_region_over (by kernel_rfl) (by kernel_rfl) ?_
              repeat (go_big_quiet_step (first | (go_at_call 59; rename_i p; refine (RangeOk_xy _ _ _).mono ?_; rintro e' w' ⟨rfl, hb1⟩; exact ⟨by first | rw [h] | rw [h2], p.next hb1⟩) | (go_at_call 89; rename_i p; refine (l8None_any _).mono ?_; rintro e' w' ⟨rfl, hb1⟩; exact ⟨rfl, p.next hb1⟩)))
              refine wpQuiet_nil ?_
              rintro _ ⟨p, rfl⟩
              replace H := H.call p.below
              clear k0 k1 k2 k3
              generalize p.w = w3 at *
              have c0 := H.get (b := g) (o := 0) (v := .int .i64 p0) (by simp)
              have c1 := H.get (b := g) (o := 1) (v := .int .i64 p1) (by simp)
              have c2 := H.get (b := w.heap.size) (o := 0) (v := .int .i64 x) (by simp)
              have c3 := H.get (b := w.heap.size) (o := 1) (v := .int .i64 y) (by simp)
              have c4 := H.get (b := w.heap.size + 2) (o := 0) (v := .int .i64 0) (by simp)
              have c5 := H.get (b := w.heap.size + 2) (o := 1) (v := .int .i64 0) (by simp)
              have z0 := H.fz (b := g) (o := 0) (v := .int .i64 p0) (by simp)
              have z1 := H.fz (b := g) (o := 1) (v := .int .i64 p1) (by simp)
              have z2 := H.fz (b := w.heap.size + 2) (o := 0) (v := .int .i64 0) (by simp)
              have z3 := H.fz (b := w.heap.size + 2) (o := 1) (v := .int .i64 0) (by simp)
              have g0 : ¬ g = w.heap.size + 2 := by omega
              have g1 : ¬ w.heap.size + 2 = g := by omega
              go_wp2_with (first | (go_at_call 168; refine (hD _ (hs.below H.below)).mono ?_; rintro e w' ⟨rfl, rfl⟩) | (go_at_call 169; refine (hU _ (by first | exact hs.below H.below | exact hs.below (H.below.setCell (by show w.heap.size ≤ g; omega) _))).mono ?_; rintro e w' ⟨rfl, rfl⟩))
              refine bodyPost_ret (results_two rfl _ _ (w.heap.size + 2) (.int .i64 p0) (.int .i64 un) _ rfl (by simp [go_sem, *]) (by simp [go_sem, *]) Tryd.underlying24 rfl (by kernel_rfl)) rfl ?_
              exact ⟨rfl, (((H.below.setCell (by show w.heap.size ≤ g; omega) _).setCell (by show w.heap.size ≤ w.heap.size + 2; omega) _).setCell (by show w.heap.size ≤ w.heap.size + 2; omega) _)⟩
            · rw [if_neg qa, if_neg qb]
              go_enter Tryd.func107, Tryd.ntmps107
              go_wp2_with fail
              rw [← hW]
              go_wp2_with (go_at_call 68; refine (HJ _).mono ?_; rintro e w' ⟨rfl, hb⟩; replace H := H.call hb)
              have hseq := (hs.below ((H.below).mono (Nat.le_refl _))).below ((Below.refl w'.heap.size w').alloc (Nat.le_refl _) (.cells #[.int .i64 p0, .int .i64 p1] 24))
              have hlt2 : w.heap.size + 2 < w'.heap.size := (H.cells (w.heap.size + 2) 0 (.int .i64 0) (by simp)).1
              have H2 := H.box (.int .i64 p0) (.int .i64 p1) 24
              generalize w'.alloc (.cells #[.int .i64 p0, .int .i64 p1] 24) = W2 at *
              generalize w'.heap.size = g at *
              clear H
              have H := H2
              clear H2 c0 c1 c2 c3
              have k0 := fun p : Over W2 => H.over (b := w.heap.size) (o := 0) (v := .int .i64 x) (by simp) p
              have k1 := fun p : Over W2 => H.over (b := w.heap.size) (o := 1) (v := .int .i64 y) (by simp) p
              have k2 := fun p : Over W2 => H.over (b := w.heap.size + 1) (o := 0) (v := .int .i64 x2) (by simp) p
              have k3 := fun p : Over W2 => H.over (b := w.heap.size + 1) (o := 1) (v := .int .i64 y2) (by simp) p
              refine wp_region_over (by kernel_rfl) (by kernel_rfl) ?_
              repeat (go_big_quiet_step (first | (go_at_call 59; rename_i p; refine (RangeOk_xy _ _ _).mono ?_; rintro e' w' ⟨rfl, hb1⟩; exact ⟨by first | rw [h] | rw [h2], p.next hb1⟩) | (go_at_call 89; rename_i p; refine (l8None_any _).mono ?_; rintro e' w' ⟨rfl, hb1⟩; exact ⟨rfl, p.next hb1⟩)))
              refine wpQuiet_nil ?_
              rintro _ ⟨p, rfl⟩
              replace H := H.call p.below
              clear k0 k1 k2 k3
              generalize p.w = w3 at *
              have c0 := H.get (b := g) (o := 0) (v := .int .i64 p0) (by simp)
              have c1 := H.get (b := g) (o := 1) (v := .int .i64 p1) (by simp)
              have c2 := H.get (b := w.heap.size) (o := 0) (v := .int .i64 x) (by simp)
              have c3 := H.get (b := w.heap.size) (o := 1) (v := .int .i64 y) (by simp)
              have c4 := H.get (b := w.heap.size + 2) (o := 0) (v := .int .i64 0) (by simp)
              have c5 := H.get (b := w.heap.size + 2) (o := 1) (v := .int .i64 0) (by simp)
              have z0 := H.fz (b := g) (o := 0) (v := .int .i64 p0) (by simp)
              have z1 := H.fz (b := g) (o := 1) (v := .int .i64 p1) (by simp)
              have z2 := H.fz (b := w.heap.size + 2) (o := 0) (v := .int .i64 0) (by simp)
              have z3 := H.fz (b := w.heap.size + 2) (o := 1) (v := .int .i64 0) (by simp)
              have g0 : ¬ g = w.heap.size + 2 := by omega
              have g1 : ¬ w.heap.size + 2 = g := by omega
              go_wp2_with (first | (go_at_call 168; refine (hD _ (hs.below H.below)).mono ?_; rintro e w' ⟨rfl, rfl⟩) | (go_at_call 169; refine (hU _ (by first | exact hs.below H.below | exact hs.below (H.below.setCell (by show w.heap.size ≤ g; omega) _))).mono ?_; rintro e w' ⟨rfl, rfl⟩))
              refine bodyPost_ret (results_two rfl _ _ (w.heap.size + 2) (.int .i64 p0) (.int .i64 p1) _ rfl (by simp [go_sem, *]) (by simp [go_sem, *]) Tryd.underlying24 rfl (by kernel_rfl)) rfl ?_
              exact ⟨rfl, ((H.below.setCell (by show w.heap.size ≤ w.heap.size + 2; omega) _).setCell (by show w.heap.size ≤ w.heap.size + 2; omega) _)⟩
        · obtain ⟨rfl, rfl⟩ := none_xy n2
          rw [if_pos (by simp)]
          go_enter Tryd.func107, Tryd.ntmps107
          go_wp2_with fail
          rw [← hW]
          go_wp2_with (go_at_call 68; refine (HJ _).mono ?_; rintro e w' ⟨rfl, hb⟩; replace H := H.call hb)
          have hseq := (hs.below ((H.below).mono (Nat.le_refl _))).below ((Below.refl w'.heap.size w').alloc (Nat.le_refl _) (.cells #[.int .i64 p0, .int .i64 p1] 24))
          have hlt2 : w.heap.size + 2 < w'.heap.size := (H.cells (w.heap.size + 2) 0 (.int .i64 0) (by simp)).1
          have H2 := H.box (.int .i64 p0) (.int .i64 p1) 24
          generalize w'.alloc (.cells #[.int .i64 p0, .int .i64 p1] 24) = W2 at *
          generalize w'.heap.size = g at *
          clear H
          have H := H2
          clear H2 c0 c1 c2 c3
          have k0 := fun p : Over W2 => H.over (b := w.heap.size) (o := 0) (v := .int .i64 x) (by simp) p
          have k1 := fun p : Over W2 => H.over (b := w.heap.size) (o := 1) (v := .int .i64 y) (by simp) p
          have k2 := fun p : Over W2 => H.over (b := w.heap.size + 1) (o := 0) (v := .int .i64 1) (by simp) p
          have k3 := fun p : Over W2 => H.over (b := w.heap.size + 1) (o := 1) (v := .int .i64 0) (by simp) p
          refine wp_region_over (by kernel_rfl) (by kernel_rfl) ?_
          repeat (go_big_quiet_step (first | (go_at_call 59; rename_i p; refine (RangeOk_xy _ _ _).mono ?_; rintro e' w' ⟨rfl, hb1⟩; exact ⟨by first | rw [h] | rw [h2], p.next hb1⟩) | (go_at_call 89; rename_i p; refine (l8None_any _).mono ?_; rintro e' w' ⟨rfl, hb1⟩; exact ⟨rfl, p.next hb1⟩)))
          refine wpQuiet_nil ?_
          rintro _ ⟨p, rfl⟩
          replace H := H.call p.below
          clear k0 k1 k2 k3
          generalize p.w = w3 at *
          have c0 := H.get (b := g) (o := 0) (v := .int .i64 p0) (by simp)
          have c1 := H.get (b := g) (o := 1) (v := .int .i64 p1) (by simp)
          have c2 := H.get (b := w.heap.size + 2) (o := 0) (v := .int .i64 0) (by simp)
          have c3 := H.get (b := w.heap.size + 2) (o := 1) (v := .int .i64 0) (by simp)
          have z0 := H.fz (b := w.heap.size + 2) (o := 0) (v := .int .i64 0) (by simp)
          have z1 := H.fz (b := w.heap.size + 2) (o := 1) (v := .int .i64 0) (by simp)
          go_wp2
          obtain ⟨f0, f1, fb⟩ := H.fill (b := w.heap.size + 2) (x := .int .i64 0) (y := .int .i64 0) (by simp) (by simp) (by omega) (.int .i64 p0) (.int .i64 p1)
          refine bodyPost_ret (results_two rfl _ _ (w.heap.size + 2) (.int .i64 p0) (.int .i64 p1) _ rfl f0 f1 Tryd.underlying24 rfl (by kernel_rfl)) rfl ?_
          exact ⟨rfl, fb⟩
      · obtain ⟨rfl, rfl⟩ := none_xy n
        rw [if_pos (by simp)]
        go_enter Tryd.func107, Tryd.ntmps107
        go_wp2_with fail
        rw [← hW]
        go_wp2_with (go_at_call 68; refine (HJ _).mono ?_; rintro e w' ⟨rfl, hb⟩; replace H := H.call hb)
        have hseq := (hs.below ((H.below).mono (Nat.le_refl _))).below ((Below.refl w'.heap.size w').alloc (Nat.le_refl _) (.cells #[.int .i64 p0, .int .i64 p1] 24))
        have hlt2 : w.heap.size + 2 < w'.heap.size := (H.cells (w.heap.size + 2) 0 (.int .i64 0) (by simp)).1
        have H2 := H.box (.int .i64 p0) (.int .i64 p1) 24
        generalize w'.alloc (.cells #[.int .i64 p0, .int .i64 p1] 24) = W2 at *
        generalize w'.heap.size = g at *
        clear H
        have H := H2
        clear H2 c0 c1 c2 c3
        have k0 := fun p : Over W2 => H.over (b := w.heap.size) (o := 0) (v := .int .i64 1) (by simp) p
        have k1 := fun p : Over W2 => H.over (b := w.heap.size) (o := 1) (v := .int .i64 0) (by simp) p
        have k2 := fun p : Over W2 => H.over (b := w.heap.size + 1) (o := 0) (v := .int .i64 x2) (by simp) p
        have k3 := fun p : Over W2 => H.over (b := w.heap.size + 1) (o := 1) (v := .int .i64 y2) (by simp) p
        refine wp_region_over (by kernel_rfl) (by kernel_rfl) ?_
        repeat (go_big_quiet_step (first | (go_at_call 59; rename_i p; refine (RangeOk_xy _ _ _).mono ?_; rintro e' w' ⟨rfl, hb1⟩; exact ⟨by first | rw [h] | rw [h2], p.next hb1⟩) | (go_at_call 89; rename_i p; refine (l8None_any _).mono ?_; rintro e' w' ⟨rfl, hb1⟩; exact ⟨rfl, p.next hb1⟩)))
        refine wpQuiet_nil ?_
        rintro _ ⟨p, rfl⟩
        replace H := H.call p.below
        clear k0 k1 k2 k3
        generalize p.w = w3 at *
        have c0 := H.get (b := g) (o := 0) (v := .int .i64 p0) (by simp)
        have c1 := H.get (b := g) (o := 1) (v := .int .i64 p1) (by simp)
        have c2 := H.get (b := w.heap.size + 2) (o := 0) (v := .int .i64 0) (by simp)
        have c3 := H.get (b := w.heap.size + 2) (o := 1) (v := .int .i64 0) (by simp)
        have z0 := H.fz (b := w.heap.size + 2) (o := 0) (v := .int .i64 0) (by simp)
        have z1 := H.fz (b := w.heap.size + 2) (o := 1) (v := .int .i64 0) (by simp)
        go_wp2
        obtain ⟨f0, f1, fb⟩ := H.fill (b := w.heap.size + 2) (x := .int .i64 0) (y := .int .i64 0) (by simp) (by simp) (by omega) (.int .i64 p0) (.int .i64 p1)
        refine bodyPost_ret (results_two rfl _ _ (w.heap.size + 2) (.int .i64 p0) (.int .i64 p1) _ rfl f0 f1 Tryd.underlying24 rfl (by kernel_rfl)) rfl ?_
        exact ⟨rfl, fb⟩
end Go.Proofs.YthbbgkpkijlclaaDoor.num
namespace Go.Proofs.YthbbgkpkijlclaaDoor.num
open Go.ChangeShapes Go.WideShapes Go.ChangeAt Go.RowKit
set_option linter.unusedVariables false

set_option maxRecDepth 100000 in
set_option maxHeartbeats 4000000 in
theorem stepDown_any {base : Nat} {ok : Int → Prop} (l : List Int) (v : Int) (sv : Value) (w : World) (h : rws.Seq 1 rws.ci ok base w sv l) :
    Calls Tryd.prog 166 #[.int .i64 v, sv] w fun e w' => e = .returned (.int .i64 (down8 l v)) ∧ w' = w := by
  obtain ⟨a, cap, rfl, hc1, hc2⟩ := h.shape
  have H := hide h
  unfold maxLen at hc2
  clear h
  unfold down8
  generalize hf : (fun o x : Int => if x ≤ v ∧ o < x then x else o) = f
  go_enter Tryd.func166, Tryd.ntmps166
  go_wp2
  go_loop [5, 7, 10] (fun out st i => ∃ j : Nat, j ≤ l.length ∧ i = .int .i64 j ∧ out = .int .i64 ((l.take j).foldl f (-2147483648))) (fun _ _ i => l.length - (intOf i).toNat)
  case atStart => exact ⟨0, by omega, rfl, rfl⟩
  case round =>
    obtain ⟨j, hj, rfl, rfl⟩ := hrel
    by_cases hlt : j < l.length
    · obtain ⟨t, ht⟩ : ∃ t, l[j]? = some t := ⟨_, List.getElem?_eq_getElem hlt⟩
      have hs := fold_snoc (f := f) (o := -2147483648) ht
      obtain ⟨b, off, rfl, hb, hc⟩ := (unhide H).atI ht
      clear ht
      generalize (l.take j).foldl f (-2147483648) = o at *
      have HS := hide hs
      clear hs
      by_cases q1 : t ≤ v
      · by_cases q2 : o < t
        · go_wp2
          all_goals
            refine ⟨⟨j + 1, by omega, by go_num, ?_⟩, by simp [intOf]; omega⟩
            rw [unhide HS, ← hf]
            simp only []
            rw [if_pos ⟨q1, q2⟩]
            try (congr 1; omega)
        · go_wp2
          all_goals
            refine ⟨⟨j + 1, by omega, by go_num, ?_⟩, by simp [intOf]; omega⟩
            rw [unhide HS, ← hf]
            simp only []
            rw [if_neg (fun hh => q2 hh.2)]
            try (congr 1; omega)
      · go_wp2
        refine ⟨⟨j + 1, by omega, by go_num, ?_⟩, by simp [intOf]; omega⟩
        rw [unhide HS, ← hf]
        simp only []
        rw [if_neg (fun hh => q1 hh.1)]
    · obtain rfl : j = l.length := by omega
      rw [List.take_length]
      go_wp2
      go_ret
      exact ⟨rfl, rfl⟩
set_option maxRecDepth 100000 in
set_option maxHeartbeats 4000000 in
theorem stepUp_any {base : Nat} {ok : Int → Prop} (l : List Int) (v : Int) (sv : Value) (w : World) (h : rws.Seq 1 rws.ci ok base w sv l) :
    Calls Tryd.prog 167 #[.int .i64 v, sv] w fun e w' => e = .returned (.int .i64 (up8 l v)) ∧ w' = w := by
  obtain ⟨a, cap, rfl, hc1, hc2⟩ := h.shape
  have H := hide h
  unfold maxLen at hc2
  clear h
  unfold up8
  generalize hf : (fun o x : Int => if v ≤ x ∧ x < o then x else o) = f
  go_enter Tryd.func167, Tryd.ntmps167
  go_wp2
  go_loop [5, 7, 10] (fun out st i => ∃ j : Nat, j ≤ l.length ∧ i = .int .i64 j ∧ out = .int .i64 ((l.take j).foldl f (2147483647))) (fun _ _ i => l.length - (intOf i).toNat)
  case atStart => exact ⟨0, by omega, rfl, rfl⟩
  case round =>
    obtain ⟨j, hj, rfl, rfl⟩ := hrel
    by_cases hlt : j < l.length
    · obtain ⟨t, ht⟩ : ∃ t, l[j]? = some t := ⟨_, List.getElem?_eq_getElem hlt⟩
      have hs := fold_snoc (f := f) (o := 2147483647) ht
      obtain ⟨b, off, rfl, hb, hc⟩ := (unhide H).atI ht
      clear ht
      generalize (l.take j).foldl f (2147483647) = o at *
      have HS := hide hs
      clear hs
      by_cases q1 : v ≤ t
      · by_cases q2 : t < o
        · go_wp2
          all_goals
            refine ⟨⟨j + 1, by omega, by go_num, ?_⟩, by simp [intOf]; omega⟩
            rw [unhide HS, ← hf]
            simp only []
            rw [if_pos ⟨q1, q2⟩]
            try (congr 1; omega)
        · go_wp2
          all_goals
            refine ⟨⟨j + 1, by omega, by go_num, ?_⟩, by simp [intOf]; omega⟩
            rw [unhide HS, ← hf]
            simp only []
            rw [if_neg (fun hh => q2 hh.2)]
            try (congr 1; omega)
      · go_wp2
        refine ⟨⟨j + 1, by omega, by go_num, ?_⟩, by simp [intOf]; omega⟩
        rw [unhide HS, ← hf]
        simp only []
        rw [if_neg (fun hh => q1 hh.1)]
    · obtain rfl : j = l.length := by omega
      rw [List.take_length]
      go_wp2
      go_ret
      exact ⟨rfl, rfl⟩
end Go.Proofs.YthbbgkpkijlclaaDoor.num
namespace Go.Proofs.YthbbgkpkijlclaaDoor.num
open Go.ChangeShapes Go.WideShapes Go.ChangeAt Go.RowKit
set_option linter.unusedVariables false

set_option maxRecDepth 100000 in
set_option maxHeartbeats 4000000 in
theorem iWiden_xy {base : Nat} {ok : Int → Prop} (x y x2 y2 : Int) (l : List Int) (sv : Value) (w : World) (hs : rws.Seq 1 rws.ci ok base w sv l) (h : Gv w 1 none8) :
    Calls Tryd.prog 103 #[.agg #[.int .i64 x, .int .i64 y], .agg #[.int .i64 x2, .int .i64 y2], sv] w fun e w' => e = .returned (.agg #[.int .i64 (widen8 (x, y) (x2, y2) l).1, .int .i64 (widen8 (x, y) (x2, y2) l).2]) ∧ Below w.heap.size w w' := by
  obtain ⟨W, hW, H⟩ := Hd.three w (.int .i64 x) (.int .i64 y) (.int .i64 x2) (.int .i64 y2) (.int .i64 0) (.int .i64 0) 24 24 24
  have hw : widen8 (x, y) (x2, y2) l = if (rSome (x, y) && rSome (x2, y2)) = false then ((join8 (x, y) (x2, y2)).1, (join8 (x, y) (x2, y2)).2)
      else (if (join8 (x, y) (x2, y2)).1 < x then down8 l (join8 (x, y) (x2, y2)).1 else (join8 (x, y) (x2, y2)).1, if y < (join8 (x, y) (x2, y2)).2 then up8 l (join8 (x, y) (x2, y2)).2 else (join8 (x, y) (x2, y2)).2) := by
    unfold widen8
    rw [rSome_eq, rSome_eq]
    cases rOk (x, y) <;> cases rOk (x2, y2) <;> cases isN (x, y) <;> cases isN (x2, y2) <;> rfl
  rw [hw]
  clear hw
  have HJ := fun (w : World) (h : Gv w 1 none8) => iJoin_xy x y x2 y2 w h
  generalize (join8 (x, y) (x2, y2)).1 = p0 at *
  generalize (join8 (x, y) (x2, y2)).2 = p1 at *
  cases k : (rSome (x, y) && rSome (x2, y2))
  · rw [if_pos (by simp)]
    go_enter Tryd.func103, Tryd.ntmps103
    go_wp2_with fail
    rw [← hW]
    clear hW
    have a0 := H.get (b := w.heap.size) (o := 0) (v := .int .i64 x) (by simp)
    have a1 := H.get (b := w.heap.size) (o := 1) (v := .int .i64 y) (by simp)
    have b0 := H.get (b := w.heap.size + 1) (o := 0) (v := .int .i64 x2) (by simp)
    have b1 := H.get (b := w.heap.size + 1) (o := 1) (v := .int .i64 y2) (by simp)
    go_wp2_with (first | (go_at_call 100; refine (HJ _ (h.below H.below)).mono ?_; rintro e w1 ⟨rfl, hb⟩; replace H := H.call hb; have a0 := H.get (b := w.heap.size) (o := 0) (v := .int .i64 x) (by simp); have a1 := H.get (b := w.heap.size) (o := 1) (v := .int .i64 y) (by simp); have b0 := H.get (b := w.heap.size + 1) (o := 0) (v := .int .i64 x2) (by simp); have b1 := H.get (b := w.heap.size + 1) (o := 1) (v := .int .i64 y2) (by simp); have l0 := H.lt (b := w.heap.size) (o := 0) (v := .int .i64 x) (by simp); have l1 := H.lt (b := w.heap.size + 1) (o := 0) (v := .int .i64 x2) (by simp); have l2 := H.lt (b := w.heap.size + 2) (o := 0) (v := .int .i64 0) (by simp)) | (go_at_call 120; refine (rangesOf_xy _ _ _ _ _).mono ?_; rintro e w2 ⟨rfl, hb⟩; replace H := (H.box _ _ _).call hb; obtain ⟨g, hg⟩ : ∃ g, g = w1.heap.size := ⟨_, rfl⟩; rw [← hg] at H l0 l1 l2 ⊢; clear hg hb) | (go_at_call 121; refine (bothR_xy _ _ _ _ _ (h.below H.below)).mono ?_; rintro e w3 ⟨rfl, hb⟩; rw [k]; replace H := H.call hb; have a0 := H.get (b := w.heap.size) (o := 0) (v := .int .i64 x) (by simp); have a1 := H.get (b := w.heap.size) (o := 1) (v := .int .i64 y) (by simp); have b0 := H.get (b := w.heap.size + 1) (o := 0) (v := .int .i64 x2) (by simp); have b1 := H.get (b := w.heap.size + 1) (o := 1) (v := .int .i64 y2) (by simp); have r0 := H.get (b := w.heap.size + 2) (o := 0) (v := .int .i64 0) (by simp); have z0 := H.fz (b := w.heap.size + 2) (o := 0) (v := .int .i64 0) (by simp); have r1 := H.get (b := w.heap.size + 2) (o := 1) (v := .int .i64 0) (by simp); have z1 := H.fz (b := w.heap.size + 2) (o := 1) (v := .int .i64 0) (by simp); have q0 := H.get (b := g) (o := 0) (v := .int .i64 p0) (by simp); have q1 := H.get (b := g) (o := 1) (v := .int .i64 p1) (by simp); have q2 := H.fz (b := g) (o := 0) (v := .int .i64 p0) (by simp); have q3 := H.fz (b := g) (o := 1) (v := .int .i64 p1) (by simp)))
    have H4 : Hd w [(w.heap.size + 2, 0, .int .i64 0), (w.heap.size + 2, 1, .int .i64 0)] _ := (H.weak (by simp))
    obtain ⟨f0, f1, fb⟩ := H4.fill (b := w.heap.size + 2) (x := .int .i64 0) (y := .int .i64 0) (by simp) (by simp) (by omega) (.int .i64 p0) (.int .i64 p1)
    refine bodyPost_ret (results_two rfl _ _ (w.heap.size + 2) (.int .i64 p0) (.int .i64 p1) _ rfl f0 f1 Tryd.underlying24 rfl (by kernel_rfl)) rfl ?_
    exact ⟨rfl, fb⟩
  · rw [if_neg (by simp)]
    by_cases e1 : p0 < x
    · rw [if_pos e1]
      by_cases e2 : y < p1
      · rw [if_pos e2]
        go_enter Tryd.func103, Tryd.ntmps103
        go_wp2_with fail
        rw [← hW]
        clear hW
        have a0 := H.get (b := w.heap.size) (o := 0) (v := .int .i64 x) (by simp)
        have a1 := H.get (b := w.heap.size) (o := 1) (v := .int .i64 y) (by simp)
        have b0 := H.get (b := w.heap.size + 1) (o := 0) (v := .int .i64 x2) (by simp)
        have b1 := H.get (b := w.heap.size + 1) (o := 1) (v := .int .i64 y2) (by simp)
        go_wp2_with (first | (go_at_call 100; refine (HJ _ (h.below H.below)).mono ?_; rintro e w1 ⟨rfl, hb⟩; replace H := H.call hb; have a0 := H.get (b := w.heap.size) (o := 0) (v := .int .i64 x) (by simp); have a1 := H.get (b := w.heap.size) (o := 1) (v := .int .i64 y) (by simp); have b0 := H.get (b := w.heap.size + 1) (o := 0) (v := .int .i64 x2) (by simp); have b1 := H.get (b := w.heap.size + 1) (o := 1) (v := .int .i64 y2) (by simp); have l0 := H.lt (b := w.heap.size) (o := 0) (v := .int .i64 x) (by simp); have l1 := H.lt (b := w.heap.size + 1) (o := 0) (v := .int .i64 x2) (by simp); have l2 := H.lt (b := w.heap.size + 2) (o := 0) (v := .int .i64 0) (by simp)) | (go_at_call 120; refine (rangesOf_xy _ _ _ _ _).mono ?_; rintro e w2 ⟨rfl, hb⟩; replace H := (H.box _ _ _).call hb; obtain ⟨g, hg⟩ : ∃ g, g = w1.heap.size := ⟨_, rfl⟩; rw [← hg] at H l0 l1 l2 ⊢; clear hg hb) | (go_at_call 121; refine (bothR_xy _ _ _ _ _ (h.below H.below)).mono ?_; rintro e w3 ⟨rfl, hb⟩; rw [k]; replace H := H.call hb; have a0 := H.get (b := w.heap.size) (o := 0) (v := .int .i64 x) (by simp); have a1 := H.get (b := w.heap.size) (o := 1) (v := .int .i64 y) (by simp); have b0 := H.get (b := w.heap.size + 1) (o := 0) (v := .int .i64 x2) (by simp); have b1 := H.get (b := w.heap.size + 1) (o := 1) (v := .int .i64 y2) (by simp); have r0 := H.get (b := w.heap.size + 2) (o := 0) (v := .int .i64 0) (by simp); have z0 := H.fz (b := w.heap.size + 2) (o := 0) (v := .int .i64 0) (by simp); have r1 := H.get (b := w.heap.size + 2) (o := 1) (v := .int .i64 0) (by simp); have z1 := H.fz (b := w.heap.size + 2) (o := 1) (v := .int .i64 0) (by simp); have q0 := H.get (b := g) (o := 0) (v := .int .i64 p0) (by simp); have q1 := H.get (b := g) (o := 1) (v := .int .i64 p1) (by simp); have q2 := H.fz (b := g) (o := 0) (v := .int .i64 p0) (by simp); have q3 := H.fz (b := g) (o := 1) (v := .int .i64 p1) (by simp)) | (go_at_call 166; refine (stepDown_any l _ _ _ (by first | exact hs.below (H.below.mono (Nat.le_refl _)) | exact hs.below ((H.below.setCell (by show w.heap.size ≤ g; omega) _).mono (Nat.le_refl _)))).mono ?_; rintro e w4 ⟨rfl, rfl⟩) | (go_at_call 167; refine (stepUp_any l _ _ _ (by first | exact hs.below (H.below.mono (Nat.le_refl _)) | exact hs.below ((H.below.setCell (by show w.heap.size ≤ g; omega) _).mono (Nat.le_refl _)))).mono ?_; rintro e w4 ⟨rfl, rfl⟩))
        have H4 : Hd w [(w.heap.size + 2, 0, .int .i64 0), (w.heap.size + 2, 1, .int .i64 0)] _ := (Hd.setOther (b := g) (o := 1) (Hd.setOther (b := g) (o := 0) (H.weak (by simp)) (by omega) (by simp; omega) (.int .i64 (down8 l p0))) (by omega) (by simp; omega) (.int .i64 (up8 l p1)))
        obtain ⟨f0, f1, fb⟩ := H4.fill (b := w.heap.size + 2) (x := .int .i64 0) (y := .int .i64 0) (by simp) (by simp) (by omega) (.int .i64 (down8 l p0)) (.int .i64 (up8 l p1))
        refine bodyPost_ret (results_two rfl _ _ (w.heap.size + 2) (.int .i64 (down8 l p0)) (.int .i64 (up8 l p1)) _ rfl f0 f1 Tryd.underlying24 rfl (by kernel_rfl)) rfl ?_
        exact ⟨rfl, fb⟩
      · rw [if_neg e2]
        go_enter Tryd.func103, Tryd.ntmps103
        go_wp2_with fail
        rw [← hW]
        clear hW
        have a0 := H.get (b := w.heap.size) (o := 0) (v := .int .i64 x) (by simp)
        have a1 := H.get (b := w.heap.size) (o := 1) (v := .int .i64 y) (by simp)
        have b0 := H.get (b := w.heap.size + 1) (o := 0) (v := .int .i64 x2) (by simp)
        have b1 := H.get (b := w.heap.size + 1) (o := 1) (v := .int .i64 y2) (by simp)
        go_wp2_with (first | (go_at_call 100; refine (HJ _ (h.below H.below)).mono ?_; rintro e w1 ⟨rfl, hb⟩; replace H := H.call hb; have a0 := H.get (b := w.heap.size) (o := 0) (v := .int .i64 x) (by simp); have a1 := H.get (b := w.heap.size) (o := 1) (v := .int .i64 y) (by simp); have b0 := H.get (b := w.heap.size + 1) (o := 0) (v := .int .i64 x2) (by simp); have b1 := H.get (b := w.heap.size + 1) (o := 1) (v := .int .i64 y2) (by simp); have l0 := H.lt (b := w.heap.size) (o := 0) (v := .int .i64 x) (by simp); have l1 := H.lt (b := w.heap.size + 1) (o := 0) (v := .int .i64 x2) (by simp); have l2 := H.lt (b := w.heap.size + 2) (o := 0) (v := .int .i64 0) (by simp)) | (go_at_call 120; refine (rangesOf_xy _ _ _ _ _).mono ?_; rintro e w2 ⟨rfl, hb⟩; replace H := (H.box _ _ _).call hb; obtain ⟨g, hg⟩ : ∃ g, g = w1.heap.size := ⟨_, rfl⟩; rw [← hg] at H l0 l1 l2 ⊢; clear hg hb) | (go_at_call 121; refine (bothR_xy _ _ _ _ _ (h.below H.below)).mono ?_; rintro e w3 ⟨rfl, hb⟩; rw [k]; replace H := H.call hb; have a0 := H.get (b := w.heap.size) (o := 0) (v := .int .i64 x) (by simp); have a1 := H.get (b := w.heap.size) (o := 1) (v := .int .i64 y) (by simp); have b0 := H.get (b := w.heap.size + 1) (o := 0) (v := .int .i64 x2) (by simp); have b1 := H.get (b := w.heap.size + 1) (o := 1) (v := .int .i64 y2) (by simp); have r0 := H.get (b := w.heap.size + 2) (o := 0) (v := .int .i64 0) (by simp); have z0 := H.fz (b := w.heap.size + 2) (o := 0) (v := .int .i64 0) (by simp); have r1 := H.get (b := w.heap.size + 2) (o := 1) (v := .int .i64 0) (by simp); have z1 := H.fz (b := w.heap.size + 2) (o := 1) (v := .int .i64 0) (by simp); have q0 := H.get (b := g) (o := 0) (v := .int .i64 p0) (by simp); have q1 := H.get (b := g) (o := 1) (v := .int .i64 p1) (by simp); have q2 := H.fz (b := g) (o := 0) (v := .int .i64 p0) (by simp); have q3 := H.fz (b := g) (o := 1) (v := .int .i64 p1) (by simp)) | (go_at_call 166; refine (stepDown_any l _ _ _ (by first | exact hs.below (H.below.mono (Nat.le_refl _)) | exact hs.below ((H.below.setCell (by show w.heap.size ≤ g; omega) _).mono (Nat.le_refl _)))).mono ?_; rintro e w4 ⟨rfl, rfl⟩))
        have H4 : Hd w [(w.heap.size + 2, 0, .int .i64 0), (w.heap.size + 2, 1, .int .i64 0)] _ := (Hd.setOther (b := g) (o := 0) (H.weak (by simp)) (by omega) (by simp; omega) (.int .i64 (down8 l p0)))
        obtain ⟨f0, f1, fb⟩ := H4.fill (b := w.heap.size + 2) (x := .int .i64 0) (y := .int .i64 0) (by simp) (by simp) (by omega) (.int .i64 (down8 l p0)) (.int .i64 p1)
        refine bodyPost_ret (results_two rfl _ _ (w.heap.size + 2) (.int .i64 (down8 l p0)) (.int .i64 p1) _ rfl f0 f1 Tryd.underlying24 rfl (by kernel_rfl)) rfl ?_
        exact ⟨rfl, fb⟩
    · rw [if_neg e1]
      by_cases e2 : y < p1
      · rw [if_pos e2]
        go_enter Tryd.func103, Tryd.ntmps103
        go_wp2_with fail
        rw [← hW]
        clear hW
        have a0 := H.get (b := w.heap.size) (o := 0) (v := .int .i64 x) (by simp)
        have a1 := H.get (b := w.heap.size) (o := 1) (v := .int .i64 y) (by simp)
        have b0 := H.get (b := w.heap.size + 1) (o := 0) (v := .int .i64 x2) (by simp)
        have b1 := H.get (b := w.heap.size + 1) (o := 1) (v := .int .i64 y2) (by simp)
        go_wp2_with (first | (go_at_call 100; refine (HJ _ (h.below H.below)).mono ?_; rintro e w1 ⟨rfl, hb⟩; replace H := H.call hb; have a0 := H.get (b := w.heap.size) (o := 0) (v := .int .i64 x) (by simp); have a1 := H.get (b := w.heap.size) (o := 1) (v := .int .i64 y) (by simp); have b0 := H.get (b := w.heap.size + 1) (o := 0) (v := .int .i64 x2) (by simp); have b1 := H.get (b := w.heap.size + 1) (o := 1) (v := .int .i64 y2) (by simp); have l0 := H.lt (b := w.heap.size) (o := 0) (v := .int .i64 x) (by simp); have l1 := H.lt (b := w.heap.size + 1) (o := 0) (v := .int .i64 x2) (by simp); have l2 := H.lt (b := w.heap.size + 2) (o := 0) (v := .int .i64 0) (by simp)) | (go_at_call 120; refine (rangesOf_xy _ _ _ _ _).mono ?_; rintro e w2 ⟨rfl, hb⟩; replace H := (H.box _ _ _).call hb; obtain ⟨g, hg⟩ : ∃ g, g = w1.heap.size := ⟨_, rfl⟩; rw [← hg] at H l0 l1 l2 ⊢; clear hg hb) | (go_at_call 121; refine (bothR_xy _ _ _ _ _ (h.below H.below)).mono ?_; rintro e w3 ⟨rfl, hb⟩; rw [k]; replace H := H.call hb; have a0 := H.get (b := w.heap.size) (o := 0) (v := .int .i64 x) (by simp); have a1 := H.get (b := w.heap.size) (o := 1) (v := .int .i64 y) (by simp); have b0 := H.get (b := w.heap.size + 1) (o := 0) (v := .int .i64 x2) (by simp); have b1 := H.get (b := w.heap.size + 1) (o := 1) (v := .int .i64 y2) (by simp); have r0 := H.get (b := w.heap.size + 2) (o := 0) (v := .int .i64 0) (by simp); have z0 := H.fz (b := w.heap.size + 2) (o := 0) (v := .int .i64 0) (by simp); have r1 := H.get (b := w.heap.size + 2) (o := 1) (v := .int .i64 0) (by simp); have z1 := H.fz (b := w.heap.size + 2) (o := 1) (v := .int .i64 0) (by simp); have q0 := H.get (b := g) (o := 0) (v := .int .i64 p0) (by simp); have q1 := H.get (b := g) (o := 1) (v := .int .i64 p1) (by simp); have q2 := H.fz (b := g) (o := 0) (v := .int .i64 p0) (by simp); have q3 := H.fz (b := g) (o := 1) (v := .int .i64 p1) (by simp)) | (go_at_call 167; refine (stepUp_any l _ _ _ (by first | exact hs.below (H.below.mono (Nat.le_refl _)) | exact hs.below ((H.below.setCell (by show w.heap.size ≤ g; omega) _).mono (Nat.le_refl _)))).mono ?_; rintro e w4 ⟨rfl, rfl⟩))
        have H4 : Hd w [(w.heap.size + 2, 0, .int .i64 0), (w.heap.size + 2, 1, .int .i64 0)] _ := (Hd.setOther (b := g) (o := 1) (H.weak (by simp)) (by omega) (by simp; omega) (.int .i64 (up8 l p1)))
        obtain ⟨f0, f1, fb⟩ := H4.fill (b := w.heap.size + 2) (x := .int .i64 0) (y := .int .i64 0) (by simp) (by simp) (by omega) (.int .i64 p0) (.int .i64 (up8 l p1))
        refine bodyPost_ret (results_two rfl _ _ (w.heap.size + 2) (.int .i64 p0) (.int .i64 (up8 l p1)) _ rfl f0 f1 Tryd.underlying24 rfl (by kernel_rfl)) rfl ?_
        exact ⟨rfl, fb⟩
      · rw [if_neg e2]
        go_enter Tryd.func103, Tryd.ntmps103
        go_wp2_with fail
        rw [← hW]
        clear hW
        have a0 := H.get (b := w.heap.size) (o := 0) (v := .int .i64 x) (by simp)
        have a1 := H.get (b := w.heap.size) (o := 1) (v := .int .i64 y) (by simp)
        have b0 := H.get (b := w.heap.size + 1) (o := 0) (v := .int .i64 x2) (by simp)
        have b1 := H.get (b := w.heap.size + 1) (o := 1) (v := .int .i64 y2) (by simp)
        go_wp2_with (first | (go_at_call 100; refine (HJ _ (h.below H.below)).mono ?_; rintro e w1 ⟨rfl, hb⟩; replace H := H.call hb; have a0 := H.get (b := w.heap.size) (o := 0) (v := .int .i64 x) (by simp); have a1 := H.get (b := w.heap.size) (o := 1) (v := .int .i64 y) (by simp); have b0 := H.get (b := w.heap.size + 1) (o := 0) (v := .int .i64 x2) (by simp); have b1 := H.get (b := w.heap.size + 1) (o := 1) (v := .int .i64 y2) (by simp); have l0 := H.lt (b := w.heap.size) (o := 0) (v := .int .i64 x) (by simp); have l1 := H.lt (b := w.heap.size + 1) (o := 0) (v := .int .i64 x2) (by simp); have l2 := H.lt (b := w.heap.size + 2) (o := 0) (v := .int .i64 0) (by simp)) | (go_at_call 120; refine (rangesOf_xy _ _ _ _ _).mono ?_; rintro e w2 ⟨rfl, hb⟩; replace H := (H.box _ _ _).call hb; obtain ⟨g, hg⟩ : ∃ g, g = w1.heap.size := ⟨_, rfl⟩; rw [← hg] at H l0 l1 l2 ⊢; clear hg hb) | (go_at_call 121; refine (bothR_xy _ _ _ _ _ (h.below H.below)).mono ?_; rintro e w3 ⟨rfl, hb⟩; rw [k]; replace H := H.call hb; have a0 := H.get (b := w.heap.size) (o := 0) (v := .int .i64 x) (by simp); have a1 := H.get (b := w.heap.size) (o := 1) (v := .int .i64 y) (by simp); have b0 := H.get (b := w.heap.size + 1) (o := 0) (v := .int .i64 x2) (by simp); have b1 := H.get (b := w.heap.size + 1) (o := 1) (v := .int .i64 y2) (by simp); have r0 := H.get (b := w.heap.size + 2) (o := 0) (v := .int .i64 0) (by simp); have z0 := H.fz (b := w.heap.size + 2) (o := 0) (v := .int .i64 0) (by simp); have r1 := H.get (b := w.heap.size + 2) (o := 1) (v := .int .i64 0) (by simp); have z1 := H.fz (b := w.heap.size + 2) (o := 1) (v := .int .i64 0) (by simp); have q0 := H.get (b := g) (o := 0) (v := .int .i64 p0) (by simp); have q1 := H.get (b := g) (o := 1) (v := .int .i64 p1) (by simp); have q2 := H.fz (b := g) (o := 0) (v := .int .i64 p0) (by simp); have q3 := H.fz (b := g) (o := 1) (v := .int .i64 p1) (by simp)))
        have H4 : Hd w [(w.heap.size + 2, 0, .int .i64 0), (w.heap.size + 2, 1, .int .i64 0)] _ := (H.weak (by simp))
        obtain ⟨f0, f1, fb⟩ := H4.fill (b := w.heap.size + 2) (x := .int .i64 0) (y := .int .i64 0) (by simp) (by simp) (by omega) (.int .i64 p0) (.int .i64 p1)
        refine bodyPost_ret (results_two rfl _ _ (w.heap.size + 2) (.int .i64 p0) (.int .i64 p1) _ rfl f0 f1 Tryd.underlying24 rfl (by kernel_rfl)) rfl ?_
        exact ⟨rfl, fb⟩
end Go.Proofs.YthbbgkpkijlclaaDoor.num
namespace Go.Proofs.YthbbgkpkijlclaaDoor.rws
open Go.Deep Go.RowKit Go.ChangeShapes Go.WideShapes Go.Joins Go.Proofs.YthbbgkpkijlclaaDoor.num
set_option linter.unusedVariables false

theorem infoI : (Tryd.prog.info? 3).map (fun i => (i.zero, i.size, i.bytes)) = some (some (.int .i64 0), 1, 8) := by kernel_rfl
set_option maxHeartbeats 4000000 in
set_option maxRecDepth 100000 in
theorem toI_any {base : Nat} (l : List Int) (v : Value) (w : World) (h : Ints base w v l) (h20 : l.length ≤ 1048576) :
    Calls Tryd.prog 50 #[v] w fun e w' => (∃ v', e = .returned v' ∧ RInts w.heap.size w' v' l) ∧ Below w.heap.size w w' := by
  obtain ⟨a, cap, rfl, hc1, hc2⟩ := h.shape
  obtain ⟨i0, hi, hz0, hz1, hz2⟩ := info_parts infoI
  have H := hide h
  unfold maxLen at hc2
  clear h
  have hlen : ∃ len, l.length = len := ⟨_, rfl⟩
  obtain ⟨len, hlen⟩ := hlen
  have HL := hide hlen
  rw [hlen] at h20 hc1 ⊢
  clear hlen
  go_enter Tryd.func50, Tryd.ntmps50
  go_wp2_with (at_make; refine wpList_make_full _ rfl _ _ 39 rfl w.heap.size 3 i0 _ 1 Tryd.underlying39 hi hz0 hz1 .i64 .i64 _ _ len rfl rfl rfl rfl (by rw [hz2]; omega) (by unfold maxLen; omega) (Nat.le_refl _) ?_; intro w1 hown hgrow)
  have B1 := hide ((Below.refl _ w).grown hgrow (Nat.le_refl _) (fun k hk => by cases hk))
  have hxl := hown.1
  generalize (madeCells _ _).toList = xs0 at hown hxl
  have R1 := hide hown
  clear hown hgrow
  go_loopw [4] (fun i wr => ∃ (j : Nat) (rest : List Value), j ≤ len ∧ i = .int .i64 j ∧ rest.length = len - j ∧ Hid (wr.ownsRow w.heap.size 3 1 (.slice (some ⟨w.heap.size, 0, none⟩) len len) len (((l.take j).map ci).flatten ++ rest)) ∧ Hid (Below w.heap.size w wr)) (fun i _ => len - (intOf i).toNat)
  case atStart => exact ⟨0, xs0, by omega, rfl, by omega, hide (by simpa using unhide R1), B1⟩
  case round =>
    obtain ⟨j, rest, hj, rfl, hrest, HR, HB⟩ := hrel
    by_cases hlt : j < len
    · have hl := unhide HL
      obtain ⟨t, ht⟩ : ∃ t, l[j]? = some t := ⟨_, List.getElem?_eq_getElem (by omega)⟩
      obtain ⟨b, off, rfl, hb, hc⟩ := ((unhide H).below (unhide HB)).atI ht
      have HT := hide ht
      obtain ⟨⟨y0, x0⟩, f0, hg2⟩ := row_at (unhide HR) (o := j) (by omega)
      clear ht hl
      go_wp2
      refine ⟨⟨j + 1, rest.drop 1, by omega, by go_num, by simp; omega, hide ?_, hide ?_⟩, by simp [intOf]; omega⟩
      · have hL : ((l.take j).map ci).flatten.length = j := by
          rw [map_len (k := 1) (fun _ => rfl)]
          have := unhide HL
          simp; omega
        rw [fill_snoc (unhide HT), show ci t = [Value.int .i64 t] from rfl, set1 _ rest j _ hL (by omega)]
        exact row_put (unhide HR) _
      · exact (unhide HB).setCell (p := ⟨w.heap.size, j, none⟩) (Nat.le_refl _) _
    · obtain rfl : j = len := by omega
      obtain rfl : rest = [] := List.length_eq_zero_iff.1 (by omega)
      go_wp2
      go_ret
      refine ⟨⟨_, rfl, ?_⟩, unhide HB⟩
      have := unhide HR
      have hz := unhide HL
      rw [List.append_nil, List.take_of_length_le (by omega), ← hz] at this
      rw [← hz]
      exact this

theorem cellsInt : Tryd.prog.cellsOf 3 = 1 := by kernel_rfl
section
variable {H : Type} {enc : TypeId × Value → H} {W : World} {sp : Nat → Bool} {held : Bool}
/-- A row whose elements read as their cells. -/
theorem seq_of {α : Type} [Inhabited α] {T e k : Nat} {cells : α → List Value} {ok : α → Prop} {fuel : Nat} {v : Value} {x : DataW H × List MemPlace} (hT : Tryd.prog.underlying T = some (.slice e)) (hk : Tryd.prog.cellsOf e = k) (hk0 : 0 < k)
    (hE : ∀ n cs y, DataW.trod enc Tryd.prog W 0 sp held n e cs = some y → cs.length = k → ∃ t, cs = cells t ∧ ok t)
    (h : DataW.trod enc Tryd.prog W 0 sp held fuel T [v] = some x) : ∃ z : List α, Seq k cells ok 0 W v z := by
  rcases open_slice hT h with ⟨hcs, _⟩ | ⟨a, len, cap, m, n, Dx, Pl, hcs, hb, hl, hm, hmm, _, hx⟩
  · simp at hcs
    exact ⟨[], none, 0, hcs, Nat.le_refl _, Nat.zero_le _, .inl rfl⟩
  · simp at hcs
    have each : ∀ i, i < len → ∃ t : α, ok t ∧ (cells t).length = k ∧ ∀ j u, (cells t)[j]? = some u → W.cell? (a.add (i * k + j)) = some u := by
      intro i hi
      obtain ⟨cs', h1, h2⟩ := hx i (by rw [hmm]; split <;> omega)
      rw [hk] at h1
      obtain ⟨_, hlen, hcell⟩ := World.cells?_some h1
      obtain ⟨t, rfl, ht⟩ := hE n cs' _ h2 hlen
      refine ⟨t, ht, hlen, fun j u hu => ?_⟩
      have hj : j < k := by rw [← hlen]; exact (List.getElem?_eq_some_iff.1 hu).1
      have e0 := hcell j hj
      rw [add_add, hu] at e0
      exact e0
    obtain ⟨f, hfa⟩ := choose_lt each
    refine ⟨(List.range len).map f, some a, cap, by simpa using hcs, by simpa using hl, hm, ?_⟩
    by_cases h0 : len = 0
    · exact .inl (by simpa using h0)
    · right
      obtain ⟨-, hcl, hz⟩ := hfa 0 (by omega)
      obtain ⟨u, hu⟩ : ∃ u, (cells (f 0))[0]? = some u := ⟨_, List.getElem?_eq_getElem (by omega)⟩
      have hz0 := hz 0 u hu
      obtain ⟨b, off, spot⟩ := a
      have hspot : spot = none := by simpa [Addr.add] using World.cell?_spot hz0
      subst hspot
      have hlt : b < W.heap.size := World.block_lt_of_cell? W ⟨b, off + (0 * k + 0), none⟩ (by rw [← Go.WideShapes.add_plain]; exact hz0)
      refine ⟨b, off, rfl, Nat.zero_le _, hlt, fun j t ht => ?_⟩
      have hj : j < len := by
        have := (List.getElem?_eq_some_iff.1 ht).1
        simpa using this
      have htj : f j = t := by
        rw [List.getElem?_map, List.getElem?_range hj] at ht
        exact Option.some.inj ht
      obtain ⟨q1, q2, q3⟩ := hfa j hj
      rw [htj] at q1 q2 q3
      refine ⟨q1, q2, fun i u hu => ?_⟩
      have := q3 i u hu
      rw [Go.WideShapes.add_plain, ← Nat.add_assoc] at this
      exact this

theorem ints_of {fuel : Nat} {v : Value} {x : DataW H × List MemPlace} (h : DataW.trod enc Tryd.prog W 0 sp held fuel 39 [v] = some x) : ∃ z, Ints 0 W v z :=
  seq_of (cells := ci) Tryd.underlying39 cellsInt (by omega) (fun n cs y hy _ => by
    obtain ⟨s, e1, _, e3⟩ := DataW.trod_int Tryd.underlying3 hy
    exact ⟨s, e1, e3⟩) h
end
end Go.Proofs.YthbbgkpkijlclaaDoor.rws
namespace Go.Proofs.YthbbgkpkijlclaaDoor.num
open Go.ChangeShapes Go.WideShapes Go.ChangeAt Go.RowKit
set_option linter.unusedVariables false

set_option maxRecDepth 100000 in
set_option maxHeartbeats 4000000 in
theorem sVWiden_xy {base : Nat} {ok : Int → Prop} (x y m t x2 y2 m2 t2 : Int) (l : List Int) (sv : Value) (w : World) (hs : rws.Seq 1 rws.ci ok base w sv l) :
    Calls Tryd.prog 36 #[.agg #[.int .i64 x, .int .i64 y, .int .i64 m, .int .i64 t], .agg #[.int .i64 x2, .int .i64 y2, .int .i64 m2, .int .i64 t2], sv] w fun e w' => e = .returned (.agg #[.int .i64 (widen10 (x, y, m, t) (x2, y2, m2, t2) l).1, .int .i64 (widen10 (x, y, m, t) (x2, y2, m2, t2) l).2.1, .int .i64 (widen10 (x, y, m, t) (x2, y2, m2, t2) l).2.2.1, .int .i64 (widen10 (x, y, m, t) (x2, y2, m2, t2) l).2.2.2]) ∧ Below w.heap.size w w' := by
  have hJ := fun w => sVJoin_xy x y m t x2 y2 m2 t2 w
  cases h : ok10 (x, y, m, t)
  · have e : widen10 (x, y, m, t) (x2, y2, m2, t2) l = join10 (x, y, m, t) (x2, y2, m2, t2) := by unfold widen10; rw [if_pos (.inl (by unfold some10; rw [h]; rfl))]
    rw [e]
    clear e
    generalize join10 (x, y, m, t) (x2, y2, m2, t2) = j at *
    obtain ⟨W, hW, H⟩ : ∃ W, W = ((w.alloc (.cells #[.int .i64 x, .int .i64 y, .int .i64 m, .int .i64 t] 30)).alloc (.cells #[.int .i64 x2, .int .i64 y2, .int .i64 m2, .int .i64 t2] 30)).alloc (.cells #[.int .i64 0, .int .i64 0, .int .i64 0, .int .i64 0] 30) ∧ Hd w [(w.heap.size + 2, 0, .int .i64 0), (w.heap.size + 2, 1, .int .i64 0), (w.heap.size + 2, 2, .int .i64 0), (w.heap.size + 2, 3, .int .i64 0), (w.heap.size + 1, 0, .int .i64 x2), (w.heap.size + 1, 1, .int .i64 y2), (w.heap.size + 1, 2, .int .i64 m2), (w.heap.size + 1, 3, .int .i64 t2), (w.heap.size, 0, .int .i64 x), (w.heap.size, 1, .int .i64 y), (w.heap.size, 2, .int .i64 m), (w.heap.size, 3, .int .i64 t)] W := ⟨_, rfl, by
      have h := ((((Hd.start w).box4 (.int .i64 x) (.int .i64 y) (.int .i64 m) (.int .i64 t) 30).box4 (.int .i64 x2) (.int .i64 y2) (.int .i64 m2) (.int .i64 t2) 30).box4 (.int .i64 0) (.int .i64 0) (.int .i64 0) (.int .i64 0) 30)
      simp only [size_alloc1] at h
      exact h⟩
    go_enter Tryd.func36, Tryd.ntmps36
    go_wp2_with fail
    rw [← hW]
    clear hW
    have c0 := H.get (b := w.heap.size) (o := 0) (v := .int .i64 x) (by simp)
    have c1 := H.get (b := w.heap.size) (o := 1) (v := .int .i64 y) (by simp)
    have c2 := H.get (b := w.heap.size) (o := 2) (v := .int .i64 m) (by simp)
    have c3 := H.get (b := w.heap.size) (o := 3) (v := .int .i64 t) (by simp)
    have c4 := H.get (b := w.heap.size + 1) (o := 0) (v := .int .i64 x2) (by simp)
    have c5 := H.get (b := w.heap.size + 1) (o := 1) (v := .int .i64 y2) (by simp)
    have c6 := H.get (b := w.heap.size + 1) (o := 2) (v := .int .i64 m2) (by simp)
    have c7 := H.get (b := w.heap.size + 1) (o := 3) (v := .int .i64 t2) (by simp)
    have c8 := H.get (b := w.heap.size + 2) (o := 0) (v := .int .i64 0) (by simp)
    have c9 := H.get (b := w.heap.size + 2) (o := 1) (v := .int .i64 0) (by simp)
    have c10 := H.get (b := w.heap.size + 2) (o := 2) (v := .int .i64 0) (by simp)
    have c11 := H.get (b := w.heap.size + 2) (o := 3) (v := .int .i64 0) (by simp)
    go_wp2_with (go_at_call 34; refine (hJ _).mono ?_; rintro e w' ⟨rfl, hb⟩; replace H := H.call hb)
    have hseq := (hs.below ((H.below).mono (Nat.le_refl _))).below ((Below.refl w'.heap.size w').alloc (Nat.le_refl _) (.cells #[.int .i64 j.1, .int .i64 j.2.1, .int .i64 j.2.2.1, .int .i64 j.2.2.2] 30))
    have hlt2 : w.heap.size + 2 < w'.heap.size := H.lt (b := w.heap.size + 2) (o := 0) (v := .int .i64 0) (by simp)
    have H2 := H.box4 (.int .i64 j.1) (.int .i64 j.2.1) (.int .i64 j.2.2.1) (.int .i64 j.2.2.2) 30
    generalize w'.alloc (.cells #[.int .i64 j.1, .int .i64 j.2.1, .int .i64 j.2.2.1, .int .i64 j.2.2.2] 30) = W2 at *
    generalize w'.heap.size = g at *
    clear H hb c0 c1 c2 c3 c4 c5 c6 c7 c8 c9 c10 c11
    have H := H2
    clear H2
    have k0 := fun p : Over _ => H.over (b := w.heap.size) (o := 0) (v := .int .i64 x) (by simp) p
    have k1 := fun p : Over _ => H.over (b := w.heap.size) (o := 1) (v := .int .i64 y) (by simp) p
    have k2 := fun p : Over _ => H.over (b := w.heap.size) (o := 2) (v := .int .i64 m) (by simp) p
    have k3 := fun p : Over _ => H.over (b := w.heap.size) (o := 3) (v := .int .i64 t) (by simp) p
    have k4 := fun p : Over _ => H.over (b := w.heap.size + 1) (o := 0) (v := .int .i64 x2) (by simp) p
    have k5 := fun p : Over _ => H.over (b := w.heap.size + 1) (o := 1) (v := .int .i64 y2) (by simp) p
    have k6 := fun p : Over _ => H.over (b := w.heap.size + 1) (o := 2) (v := .int .i64 m2) (by simp) p
    have k7 := fun p : Over _ => H.over (b := w.heap.size + 1) (o := 3) (v := .int .i64 t2) (by simp) p
    refine wp_region_over (by kernel_rfl) (by kernel_rfl) ?_
    repeat (go_big_quiet_step (first | (go_at_call 37; rename_i p; refine (sVOk_xy _ _ _ _ _).mono ?_; rintro e' w' ⟨rfl, hb1⟩; exact ⟨by (first | rw [h]), p.next hb1⟩) | (go_at_call 90; rename_i p; refine (l10None_any _).mono ?_; rintro e' w' ⟨rfl, hb1⟩; exact ⟨rfl, p.next hb1⟩)))
    refine wpQuiet_nil ?_
    rintro _ ⟨p, rfl⟩
    replace H := H.call p.below
    clear k0 k1 k2 k3 k4 k5 k6 k7
    generalize p.w = w3 at *
    clear p
    have c0 := H.get (b := g) (o := 0) (v := .int .i64 j.1) (by simp)
    have c1 := H.get (b := g) (o := 1) (v := .int .i64 j.2.1) (by simp)
    have c2 := H.get (b := g) (o := 2) (v := .int .i64 j.2.2.1) (by simp)
    have c3 := H.get (b := g) (o := 3) (v := .int .i64 j.2.2.2) (by simp)
    have rc0 := H.get (b := w.heap.size + 2) (o := 0) (v := .int .i64 0) (by simp)
    have rc1 := H.get (b := w.heap.size + 2) (o := 1) (v := .int .i64 0) (by simp)
    have rc2 := H.get (b := w.heap.size + 2) (o := 2) (v := .int .i64 0) (by simp)
    have rc3 := H.get (b := w.heap.size + 2) (o := 3) (v := .int .i64 0) (by simp)
    have rz0 := H.fz (b := w.heap.size + 2) (o := 0) (v := .int .i64 0) (by simp)
    have rz1 := H.fz (b := w.heap.size + 2) (o := 1) (v := .int .i64 0) (by simp)
    have rz2 := H.fz (b := w.heap.size + 2) (o := 2) (v := .int .i64 0) (by simp)
    have rz3 := H.fz (b := w.heap.size + 2) (o := 3) (v := .int .i64 0) (by simp)
    go_wp2
    obtain ⟨f0, f1, f2, f3, fb⟩ := H.fill4 (b := w.heap.size + 2) (x := .int .i64 0) (y := .int .i64 0) (z := .int .i64 0) (u := .int .i64 0) (by simp) (by simp) (by simp) (by simp) (by omega) (.int .i64 j.1) (.int .i64 j.2.1) (.int .i64 j.2.2.1) (.int .i64 j.2.2.2)
    refine bodyPost_ret (results_four rfl _ _ (w.heap.size + 2) (.int .i64 j.1) (.int .i64 j.2.1) (.int .i64 j.2.2.1) (.int .i64 j.2.2.2) _ rfl f0 f1 f2 f3 Tryd.underlying30 rfl (by kernel_rfl)) rfl ?_
    exact ⟨rfl, fb⟩
  cases h2 : ok10 (x2, y2, m2, t2)
  · have e : widen10 (x, y, m, t) (x2, y2, m2, t2) l = join10 (x, y, m, t) (x2, y2, m2, t2) := by unfold widen10; rw [if_pos (.inr (by unfold some10; rw [h2]; rfl))]
    rw [e]
    clear e
    generalize join10 (x, y, m, t) (x2, y2, m2, t2) = j at *
    obtain ⟨W, hW, H⟩ : ∃ W, W = ((w.alloc (.cells #[.int .i64 x, .int .i64 y, .int .i64 m, .int .i64 t] 30)).alloc (.cells #[.int .i64 x2, .int .i64 y2, .int .i64 m2, .int .i64 t2] 30)).alloc (.cells #[.int .i64 0, .int .i64 0, .int .i64 0, .int .i64 0] 30) ∧ Hd w [(w.heap.size + 2, 0, .int .i64 0), (w.heap.size + 2, 1, .int .i64 0), (w.heap.size + 2, 2, .int .i64 0), (w.heap.size + 2, 3, .int .i64 0), (w.heap.size + 1, 0, .int .i64 x2), (w.heap.size + 1, 1, .int .i64 y2), (w.heap.size + 1, 2, .int .i64 m2), (w.heap.size + 1, 3, .int .i64 t2), (w.heap.size, 0, .int .i64 x), (w.heap.size, 1, .int .i64 y), (w.heap.size, 2, .int .i64 m), (w.heap.size, 3, .int .i64 t)] W := ⟨_, rfl, by
      have h := ((((Hd.start w).box4 (.int .i64 x) (.int .i64 y) (.int .i64 m) (.int .i64 t) 30).box4 (.int .i64 x2) (.int .i64 y2) (.int .i64 m2) (.int .i64 t2) 30).box4 (.int .i64 0) (.int .i64 0) (.int .i64 0) (.int .i64 0) 30)
      simp only [size_alloc1] at h
      exact h⟩
    go_enter Tryd.func36, Tryd.ntmps36
    go_wp2_with fail
    rw [← hW]
    clear hW
    have c0 := H.get (b := w.heap.size) (o := 0) (v := .int .i64 x) (by simp)
    have c1 := H.get (b := w.heap.size) (o := 1) (v := .int .i64 y) (by simp)
    have c2 := H.get (b := w.heap.size) (o := 2) (v := .int .i64 m) (by simp)
    have c3 := H.get (b := w.heap.size) (o := 3) (v := .int .i64 t) (by simp)
    have c4 := H.get (b := w.heap.size + 1) (o := 0) (v := .int .i64 x2) (by simp)
    have c5 := H.get (b := w.heap.size + 1) (o := 1) (v := .int .i64 y2) (by simp)
    have c6 := H.get (b := w.heap.size + 1) (o := 2) (v := .int .i64 m2) (by simp)
    have c7 := H.get (b := w.heap.size + 1) (o := 3) (v := .int .i64 t2) (by simp)
    have c8 := H.get (b := w.heap.size + 2) (o := 0) (v := .int .i64 0) (by simp)
    have c9 := H.get (b := w.heap.size + 2) (o := 1) (v := .int .i64 0) (by simp)
    have c10 := H.get (b := w.heap.size + 2) (o := 2) (v := .int .i64 0) (by simp)
    have c11 := H.get (b := w.heap.size + 2) (o := 3) (v := .int .i64 0) (by simp)
    go_wp2_with (go_at_call 34; refine (hJ _).mono ?_; rintro e w' ⟨rfl, hb⟩; replace H := H.call hb)
    have hseq := (hs.below ((H.below).mono (Nat.le_refl _))).below ((Below.refl w'.heap.size w').alloc (Nat.le_refl _) (.cells #[.int .i64 j.1, .int .i64 j.2.1, .int .i64 j.2.2.1, .int .i64 j.2.2.2] 30))
    have hlt2 : w.heap.size + 2 < w'.heap.size := H.lt (b := w.heap.size + 2) (o := 0) (v := .int .i64 0) (by simp)
    have H2 := H.box4 (.int .i64 j.1) (.int .i64 j.2.1) (.int .i64 j.2.2.1) (.int .i64 j.2.2.2) 30
    generalize w'.alloc (.cells #[.int .i64 j.1, .int .i64 j.2.1, .int .i64 j.2.2.1, .int .i64 j.2.2.2] 30) = W2 at *
    generalize w'.heap.size = g at *
    clear H hb c0 c1 c2 c3 c4 c5 c6 c7 c8 c9 c10 c11
    have H := H2
    clear H2
    have k0 := fun p : Over _ => H.over (b := w.heap.size) (o := 0) (v := .int .i64 x) (by simp) p
    have k1 := fun p : Over _ => H.over (b := w.heap.size) (o := 1) (v := .int .i64 y) (by simp) p
    have k2 := fun p : Over _ => H.over (b := w.heap.size) (o := 2) (v := .int .i64 m) (by simp) p
    have k3 := fun p : Over _ => H.over (b := w.heap.size) (o := 3) (v := .int .i64 t) (by simp) p
    have k4 := fun p : Over _ => H.over (b := w.heap.size + 1) (o := 0) (v := .int .i64 x2) (by simp) p
    have k5 := fun p : Over _ => H.over (b := w.heap.size + 1) (o := 1) (v := .int .i64 y2) (by simp) p
    have k6 := fun p : Over _ => H.over (b := w.heap.size + 1) (o := 2) (v := .int .i64 m2) (by simp) p
    have k7 := fun p : Over _ => H.over (b := w.heap.size + 1) (o := 3) (v := .int .i64 t2) (by simp) p
    refine wp_region_over (by kernel_rfl) (by kernel_rfl) ?_
    repeat (go_big_quiet_step (first | (go_at_call 37; rename_i p; refine (sVOk_xy _ _ _ _ _).mono ?_; rintro e' w' ⟨rfl, hb1⟩; exact ⟨by (first | rw [h] | rw [h2]), p.next hb1⟩) | (go_at_call 90; rename_i p; refine (l10None_any _).mono ?_; rintro e' w' ⟨rfl, hb1⟩; exact ⟨rfl, p.next hb1⟩)))
    refine wpQuiet_nil ?_
    rintro _ ⟨p, rfl⟩
    replace H := H.call p.below
    clear k0 k1 k2 k3 k4 k5 k6 k7
    generalize p.w = w3 at *
    clear p
    have c0 := H.get (b := g) (o := 0) (v := .int .i64 j.1) (by simp)
    have c1 := H.get (b := g) (o := 1) (v := .int .i64 j.2.1) (by simp)
    have c2 := H.get (b := g) (o := 2) (v := .int .i64 j.2.2.1) (by simp)
    have c3 := H.get (b := g) (o := 3) (v := .int .i64 j.2.2.2) (by simp)
    have rc0 := H.get (b := w.heap.size + 2) (o := 0) (v := .int .i64 0) (by simp)
    have rc1 := H.get (b := w.heap.size + 2) (o := 1) (v := .int .i64 0) (by simp)
    have rc2 := H.get (b := w.heap.size + 2) (o := 2) (v := .int .i64 0) (by simp)
    have rc3 := H.get (b := w.heap.size + 2) (o := 3) (v := .int .i64 0) (by simp)
    have rz0 := H.fz (b := w.heap.size + 2) (o := 0) (v := .int .i64 0) (by simp)
    have rz1 := H.fz (b := w.heap.size + 2) (o := 1) (v := .int .i64 0) (by simp)
    have rz2 := H.fz (b := w.heap.size + 2) (o := 2) (v := .int .i64 0) (by simp)
    have rz3 := H.fz (b := w.heap.size + 2) (o := 3) (v := .int .i64 0) (by simp)
    go_wp2
    obtain ⟨f0, f1, f2, f3, fb⟩ := H.fill4 (b := w.heap.size + 2) (x := .int .i64 0) (y := .int .i64 0) (z := .int .i64 0) (u := .int .i64 0) (by simp) (by simp) (by simp) (by simp) (by omega) (.int .i64 j.1) (.int .i64 j.2.1) (.int .i64 j.2.2.1) (.int .i64 j.2.2.2)
    refine bodyPost_ret (results_four rfl _ _ (w.heap.size + 2) (.int .i64 j.1) (.int .i64 j.2.1) (.int .i64 j.2.2.1) (.int .i64 j.2.2.2) _ rfl f0 f1 f2 f3 Tryd.underlying30 rfl (by kernel_rfl)) rfl ?_
    exact ⟨rfl, fb⟩
  rcases isN10 x y m t with e1 | e1
  · have e : widen10 (x, y, m, t) (x2, y2, m2, t2) l = join10 (x, y, m, t) (x2, y2, m2, t2) := by unfold widen10; rw [if_pos (.inl (by rw [e1]; decide))]
    rw [e]
    clear e
    generalize join10 (x, y, m, t) (x2, y2, m2, t2) = j at *
    simp only [none10, Prod.mk.injEq] at e1
    obtain ⟨rfl, rfl, rfl, rfl⟩ := e1
    obtain ⟨W, hW, H⟩ : ∃ W, W = ((w.alloc (.cells #[.int .i64 1, .int .i64 0, .int .i64 0, .int .i64 0] 30)).alloc (.cells #[.int .i64 x2, .int .i64 y2, .int .i64 m2, .int .i64 t2] 30)).alloc (.cells #[.int .i64 0, .int .i64 0, .int .i64 0, .int .i64 0] 30) ∧ Hd w [(w.heap.size + 2, 0, .int .i64 0), (w.heap.size + 2, 1, .int .i64 0), (w.heap.size + 2, 2, .int .i64 0), (w.heap.size + 2, 3, .int .i64 0), (w.heap.size + 1, 0, .int .i64 x2), (w.heap.size + 1, 1, .int .i64 y2), (w.heap.size + 1, 2, .int .i64 m2), (w.heap.size + 1, 3, .int .i64 t2), (w.heap.size, 0, .int .i64 1), (w.heap.size, 1, .int .i64 0), (w.heap.size, 2, .int .i64 0), (w.heap.size, 3, .int .i64 0)] W := ⟨_, rfl, by
      have h := ((((Hd.start w).box4 (.int .i64 1) (.int .i64 0) (.int .i64 0) (.int .i64 0) 30).box4 (.int .i64 x2) (.int .i64 y2) (.int .i64 m2) (.int .i64 t2) 30).box4 (.int .i64 0) (.int .i64 0) (.int .i64 0) (.int .i64 0) 30)
      simp only [size_alloc1] at h
      exact h⟩
    go_enter Tryd.func36, Tryd.ntmps36
    go_wp2_with fail
    rw [← hW]
    clear hW
    have c0 := H.get (b := w.heap.size) (o := 0) (v := .int .i64 1) (by simp)
    have c1 := H.get (b := w.heap.size) (o := 1) (v := .int .i64 0) (by simp)
    have c2 := H.get (b := w.heap.size) (o := 2) (v := .int .i64 0) (by simp)
    have c3 := H.get (b := w.heap.size) (o := 3) (v := .int .i64 0) (by simp)
    have c4 := H.get (b := w.heap.size + 1) (o := 0) (v := .int .i64 x2) (by simp)
    have c5 := H.get (b := w.heap.size + 1) (o := 1) (v := .int .i64 y2) (by simp)
    have c6 := H.get (b := w.heap.size + 1) (o := 2) (v := .int .i64 m2) (by simp)
    have c7 := H.get (b := w.heap.size + 1) (o := 3) (v := .int .i64 t2) (by simp)
    have c8 := H.get (b := w.heap.size + 2) (o := 0) (v := .int .i64 0) (by simp)
    have c9 := H.get (b := w.heap.size + 2) (o := 1) (v := .int .i64 0) (by simp)
    have c10 := H.get (b := w.heap.size + 2) (o := 2) (v := .int .i64 0) (by simp)
    have c11 := H.get (b := w.heap.size + 2) (o := 3) (v := .int .i64 0) (by simp)
    go_wp2_with (go_at_call 34; refine (hJ _).mono ?_; rintro e w' ⟨rfl, hb⟩; replace H := H.call hb)
    have hseq := (hs.below ((H.below).mono (Nat.le_refl _))).below ((Below.refl w'.heap.size w').alloc (Nat.le_refl _) (.cells #[.int .i64 j.1, .int .i64 j.2.1, .int .i64 j.2.2.1, .int .i64 j.2.2.2] 30))
    have hlt2 : w.heap.size + 2 < w'.heap.size := H.lt (b := w.heap.size + 2) (o := 0) (v := .int .i64 0) (by simp)
    have H2 := H.box4 (.int .i64 j.1) (.int .i64 j.2.1) (.int .i64 j.2.2.1) (.int .i64 j.2.2.2) 30
    generalize w'.alloc (.cells #[.int .i64 j.1, .int .i64 j.2.1, .int .i64 j.2.2.1, .int .i64 j.2.2.2] 30) = W2 at *
    generalize w'.heap.size = g at *
    clear H hb c0 c1 c2 c3 c4 c5 c6 c7 c8 c9 c10 c11
    have H := H2
    clear H2
    have k0 := fun p : Over _ => H.over (b := w.heap.size) (o := 0) (v := .int .i64 1) (by simp) p
    have k1 := fun p : Over _ => H.over (b := w.heap.size) (o := 1) (v := .int .i64 0) (by simp) p
    have k2 := fun p : Over _ => H.over (b := w.heap.size) (o := 2) (v := .int .i64 0) (by simp) p
    have k3 := fun p : Over _ => H.over (b := w.heap.size) (o := 3) (v := .int .i64 0) (by simp) p
    have k4 := fun p : Over _ => H.over (b := w.heap.size + 1) (o := 0) (v := .int .i64 x2) (by simp) p
    have k5 := fun p : Over _ => H.over (b := w.heap.size + 1) (o := 1) (v := .int .i64 y2) (by simp) p
    have k6 := fun p : Over _ => H.over (b := w.heap.size + 1) (o := 2) (v := .int .i64 m2) (by simp) p
    have k7 := fun p : Over _ => H.over (b := w.heap.size + 1) (o := 3) (v := .int .i64 t2) (by simp) p
    refine wp_region_over (by kernel_rfl) (by kernel_rfl) ?_
    repeat (go_big_quiet_step (first | (go_at_call 37; rename_i p; refine (sVOk_xy _ _ _ _ _).mono ?_; rintro e' w' ⟨rfl, hb1⟩; exact ⟨by (first | rw [h] | rw [h2]), p.next hb1⟩) | (go_at_call 90; rename_i p; refine (l10None_any _).mono ?_; rintro e' w' ⟨rfl, hb1⟩; exact ⟨rfl, p.next hb1⟩)))
    refine wpQuiet_nil ?_
    rintro _ ⟨p, rfl⟩
    replace H := H.call p.below
    clear k0 k1 k2 k3 k4 k5 k6 k7
    generalize p.w = w3 at *
    clear p
    have c0 := H.get (b := g) (o := 0) (v := .int .i64 j.1) (by simp)
    have c1 := H.get (b := g) (o := 1) (v := .int .i64 j.2.1) (by simp)
    have c2 := H.get (b := g) (o := 2) (v := .int .i64 j.2.2.1) (by simp)
    have c3 := H.get (b := g) (o := 3) (v := .int .i64 j.2.2.2) (by simp)
    have rc0 := H.get (b := w.heap.size + 2) (o := 0) (v := .int .i64 0) (by simp)
    have rc1 := H.get (b := w.heap.size + 2) (o := 1) (v := .int .i64 0) (by simp)
    have rc2 := H.get (b := w.heap.size + 2) (o := 2) (v := .int .i64 0) (by simp)
    have rc3 := H.get (b := w.heap.size + 2) (o := 3) (v := .int .i64 0) (by simp)
    have rz0 := H.fz (b := w.heap.size + 2) (o := 0) (v := .int .i64 0) (by simp)
    have rz1 := H.fz (b := w.heap.size + 2) (o := 1) (v := .int .i64 0) (by simp)
    have rz2 := H.fz (b := w.heap.size + 2) (o := 2) (v := .int .i64 0) (by simp)
    have rz3 := H.fz (b := w.heap.size + 2) (o := 3) (v := .int .i64 0) (by simp)
    go_wp2
    obtain ⟨f0, f1, f2, f3, fb⟩ := H.fill4 (b := w.heap.size + 2) (x := .int .i64 0) (y := .int .i64 0) (z := .int .i64 0) (u := .int .i64 0) (by simp) (by simp) (by simp) (by simp) (by omega) (.int .i64 j.1) (.int .i64 j.2.1) (.int .i64 j.2.2.1) (.int .i64 j.2.2.2)
    refine bodyPost_ret (results_four rfl _ _ (w.heap.size + 2) (.int .i64 j.1) (.int .i64 j.2.1) (.int .i64 j.2.2.1) (.int .i64 j.2.2.2) _ rfl f0 f1 f2 f3 Tryd.underlying30 rfl (by kernel_rfl)) rfl ?_
    exact ⟨rfl, fb⟩
  have hq1 := @ne4_if x y m t 1 0 0 0 e1
  rcases isN10 x2 y2 m2 t2 with e2 | e2
  · have e : widen10 (x, y, m, t) (x2, y2, m2, t2) l = join10 (x, y, m, t) (x2, y2, m2, t2) := by unfold widen10; rw [if_pos (.inr (by rw [e2]; decide))]
    rw [e]
    clear e e1
    generalize join10 (x, y, m, t) (x2, y2, m2, t2) = j at *
    simp only [none10, Prod.mk.injEq] at e2
    obtain ⟨rfl, rfl, rfl, rfl⟩ := e2
    obtain ⟨W, hW, H⟩ : ∃ W, W = ((w.alloc (.cells #[.int .i64 x, .int .i64 y, .int .i64 m, .int .i64 t] 30)).alloc (.cells #[.int .i64 1, .int .i64 0, .int .i64 0, .int .i64 0] 30)).alloc (.cells #[.int .i64 0, .int .i64 0, .int .i64 0, .int .i64 0] 30) ∧ Hd w [(w.heap.size + 2, 0, .int .i64 0), (w.heap.size + 2, 1, .int .i64 0), (w.heap.size + 2, 2, .int .i64 0), (w.heap.size + 2, 3, .int .i64 0), (w.heap.size + 1, 0, .int .i64 1), (w.heap.size + 1, 1, .int .i64 0), (w.heap.size + 1, 2, .int .i64 0), (w.heap.size + 1, 3, .int .i64 0), (w.heap.size, 0, .int .i64 x), (w.heap.size, 1, .int .i64 y), (w.heap.size, 2, .int .i64 m), (w.heap.size, 3, .int .i64 t)] W := ⟨_, rfl, by
      have h := ((((Hd.start w).box4 (.int .i64 x) (.int .i64 y) (.int .i64 m) (.int .i64 t) 30).box4 (.int .i64 1) (.int .i64 0) (.int .i64 0) (.int .i64 0) 30).box4 (.int .i64 0) (.int .i64 0) (.int .i64 0) (.int .i64 0) 30)
      simp only [size_alloc1] at h
      exact h⟩
    go_enter Tryd.func36, Tryd.ntmps36
    go_wp2_with fail
    rw [← hW]
    clear hW
    have c0 := H.get (b := w.heap.size) (o := 0) (v := .int .i64 x) (by simp)
    have c1 := H.get (b := w.heap.size) (o := 1) (v := .int .i64 y) (by simp)
    have c2 := H.get (b := w.heap.size) (o := 2) (v := .int .i64 m) (by simp)
    have c3 := H.get (b := w.heap.size) (o := 3) (v := .int .i64 t) (by simp)
    have c4 := H.get (b := w.heap.size + 1) (o := 0) (v := .int .i64 1) (by simp)
    have c5 := H.get (b := w.heap.size + 1) (o := 1) (v := .int .i64 0) (by simp)
    have c6 := H.get (b := w.heap.size + 1) (o := 2) (v := .int .i64 0) (by simp)
    have c7 := H.get (b := w.heap.size + 1) (o := 3) (v := .int .i64 0) (by simp)
    have c8 := H.get (b := w.heap.size + 2) (o := 0) (v := .int .i64 0) (by simp)
    have c9 := H.get (b := w.heap.size + 2) (o := 1) (v := .int .i64 0) (by simp)
    have c10 := H.get (b := w.heap.size + 2) (o := 2) (v := .int .i64 0) (by simp)
    have c11 := H.get (b := w.heap.size + 2) (o := 3) (v := .int .i64 0) (by simp)
    go_wp2_with (go_at_call 34; refine (hJ _).mono ?_; rintro e w' ⟨rfl, hb⟩; replace H := H.call hb)
    have hseq := (hs.below ((H.below).mono (Nat.le_refl _))).below ((Below.refl w'.heap.size w').alloc (Nat.le_refl _) (.cells #[.int .i64 j.1, .int .i64 j.2.1, .int .i64 j.2.2.1, .int .i64 j.2.2.2] 30))
    have hlt2 : w.heap.size + 2 < w'.heap.size := H.lt (b := w.heap.size + 2) (o := 0) (v := .int .i64 0) (by simp)
    have H2 := H.box4 (.int .i64 j.1) (.int .i64 j.2.1) (.int .i64 j.2.2.1) (.int .i64 j.2.2.2) 30
    generalize w'.alloc (.cells #[.int .i64 j.1, .int .i64 j.2.1, .int .i64 j.2.2.1, .int .i64 j.2.2.2] 30) = W2 at *
    generalize w'.heap.size = g at *
    clear H hb c0 c1 c2 c3 c4 c5 c6 c7 c8 c9 c10 c11
    have H := H2
    clear H2
    have k0 := fun p : Over _ => H.over (b := w.heap.size) (o := 0) (v := .int .i64 x) (by simp) p
    have k1 := fun p : Over _ => H.over (b := w.heap.size) (o := 1) (v := .int .i64 y) (by simp) p
    have k2 := fun p : Over _ => H.over (b := w.heap.size) (o := 2) (v := .int .i64 m) (by simp) p
    have k3 := fun p : Over _ => H.over (b := w.heap.size) (o := 3) (v := .int .i64 t) (by simp) p
    have k4 := fun p : Over _ => H.over (b := w.heap.size + 1) (o := 0) (v := .int .i64 1) (by simp) p
    have k5 := fun p : Over _ => H.over (b := w.heap.size + 1) (o := 1) (v := .int .i64 0) (by simp) p
    have k6 := fun p : Over _ => H.over (b := w.heap.size + 1) (o := 2) (v := .int .i64 0) (by simp) p
    have k7 := fun p : Over _ => H.over (b := w.heap.size + 1) (o := 3) (v := .int .i64 0) (by simp) p
    refine wp_region_over (by kernel_rfl) (by kernel_rfl) ?_
    repeat (go_big_quiet_step (first | (go_at_call 37; rename_i p; refine (sVOk_xy _ _ _ _ _).mono ?_; rintro e' w' ⟨rfl, hb1⟩; exact ⟨by (first | rw [h] | rw [h2]), p.next hb1⟩) | (go_at_call 90; rename_i p; refine (l10None_any _).mono ?_; rintro e' w' ⟨rfl, hb1⟩; exact ⟨rfl, p.next hb1⟩)))
    refine wpQuiet_nil ?_
    rintro _ ⟨p, rfl⟩
    replace H := H.call p.below
    clear k0 k1 k2 k3 k4 k5 k6 k7
    generalize p.w = w3 at *
    clear p
    have c0 := H.get (b := g) (o := 0) (v := .int .i64 j.1) (by simp)
    have c1 := H.get (b := g) (o := 1) (v := .int .i64 j.2.1) (by simp)
    have c2 := H.get (b := g) (o := 2) (v := .int .i64 j.2.2.1) (by simp)
    have c3 := H.get (b := g) (o := 3) (v := .int .i64 j.2.2.2) (by simp)
    have rc0 := H.get (b := w.heap.size + 2) (o := 0) (v := .int .i64 0) (by simp)
    have rc1 := H.get (b := w.heap.size + 2) (o := 1) (v := .int .i64 0) (by simp)
    have rc2 := H.get (b := w.heap.size + 2) (o := 2) (v := .int .i64 0) (by simp)
    have rc3 := H.get (b := w.heap.size + 2) (o := 3) (v := .int .i64 0) (by simp)
    have rz0 := H.fz (b := w.heap.size + 2) (o := 0) (v := .int .i64 0) (by simp)
    have rz1 := H.fz (b := w.heap.size + 2) (o := 1) (v := .int .i64 0) (by simp)
    have rz2 := H.fz (b := w.heap.size + 2) (o := 2) (v := .int .i64 0) (by simp)
    have rz3 := H.fz (b := w.heap.size + 2) (o := 3) (v := .int .i64 0) (by simp)
    go_wp2
    obtain ⟨f0, f1, f2, f3, fb⟩ := H.fill4 (b := w.heap.size + 2) (x := .int .i64 0) (y := .int .i64 0) (z := .int .i64 0) (u := .int .i64 0) (by simp) (by simp) (by simp) (by simp) (by omega) (.int .i64 j.1) (.int .i64 j.2.1) (.int .i64 j.2.2.1) (.int .i64 j.2.2.2)
    refine bodyPost_ret (results_four rfl _ _ (w.heap.size + 2) (.int .i64 j.1) (.int .i64 j.2.1) (.int .i64 j.2.2.1) (.int .i64 j.2.2.2) _ rfl f0 f1 f2 f3 Tryd.underlying30 rfl (by kernel_rfl)) rfl ?_
    exact ⟨rfl, fb⟩
  · have hq2 := @ne4_if x2 y2 m2 t2 1 0 0 0 e2
    have s1 : some10 (x, y, m, t) = true := (some10_iff _).2 ⟨h, e1⟩
    have s2 : some10 (x2, y2, m2, t2) = true := (some10_iff _).2 ⟨h2, e2⟩
    have e : widen10 (x, y, m, t) (x2, y2, m2, t2) l = make10 (widen8 (x, y) (x2, y2) l) (join9 (m, t) (m2, t2)) := by unfold widen10; rw [if_neg (by simp [s1, s2])]; rfl
    rw [e]
    clear e e1 e2 s1 s2
    have hW := fun w (hs : rws.Seq 1 rws.ci ok base w sv l) => RangeWiden_xy x y x2 y2 l sv w hs
    have hK := fun w => sRestJoin_xy m t m2 t2 w
    generalize join10 (x, y, m, t) (x2, y2, m2, t2) = j at *
    generalize widen8 (x, y) (x2, y2) l = d at *
    generalize join9 (m, t) (m2, t2) = k at *
    obtain ⟨d1, d2⟩ := d
    obtain ⟨r1, r2⟩ := k
    have hM := fun w => sMake_xy d1 d2 r1 r2 w
    generalize make10 (d1, d2) (r1, r2) = q at *
    obtain ⟨W, hW, H⟩ : ∃ W, W = ((w.alloc (.cells #[.int .i64 x, .int .i64 y, .int .i64 m, .int .i64 t] 30)).alloc (.cells #[.int .i64 x2, .int .i64 y2, .int .i64 m2, .int .i64 t2] 30)).alloc (.cells #[.int .i64 0, .int .i64 0, .int .i64 0, .int .i64 0] 30) ∧ Hd w [(w.heap.size + 2, 0, .int .i64 0), (w.heap.size + 2, 1, .int .i64 0), (w.heap.size + 2, 2, .int .i64 0), (w.heap.size + 2, 3, .int .i64 0), (w.heap.size + 1, 0, .int .i64 x2), (w.heap.size + 1, 1, .int .i64 y2), (w.heap.size + 1, 2, .int .i64 m2), (w.heap.size + 1, 3, .int .i64 t2), (w.heap.size, 0, .int .i64 x), (w.heap.size, 1, .int .i64 y), (w.heap.size, 2, .int .i64 m), (w.heap.size, 3, .int .i64 t)] W := ⟨_, rfl, by
      have h := ((((Hd.start w).box4 (.int .i64 x) (.int .i64 y) (.int .i64 m) (.int .i64 t) 30).box4 (.int .i64 x2) (.int .i64 y2) (.int .i64 m2) (.int .i64 t2) 30).box4 (.int .i64 0) (.int .i64 0) (.int .i64 0) (.int .i64 0) 30)
      simp only [size_alloc1] at h
      exact h⟩
    go_enter Tryd.func36, Tryd.ntmps36
    go_wp2_with fail
    rw [← hW]
    clear hW
    have c0 := H.get (b := w.heap.size) (o := 0) (v := .int .i64 x) (by simp)
    have c1 := H.get (b := w.heap.size) (o := 1) (v := .int .i64 y) (by simp)
    have c2 := H.get (b := w.heap.size) (o := 2) (v := .int .i64 m) (by simp)
    have c3 := H.get (b := w.heap.size) (o := 3) (v := .int .i64 t) (by simp)
    have c4 := H.get (b := w.heap.size + 1) (o := 0) (v := .int .i64 x2) (by simp)
    have c5 := H.get (b := w.heap.size + 1) (o := 1) (v := .int .i64 y2) (by simp)
    have c6 := H.get (b := w.heap.size + 1) (o := 2) (v := .int .i64 m2) (by simp)
    have c7 := H.get (b := w.heap.size + 1) (o := 3) (v := .int .i64 t2) (by simp)
    have c8 := H.get (b := w.heap.size + 2) (o := 0) (v := .int .i64 0) (by simp)
    have c9 := H.get (b := w.heap.size + 2) (o := 1) (v := .int .i64 0) (by simp)
    have c10 := H.get (b := w.heap.size + 2) (o := 2) (v := .int .i64 0) (by simp)
    have c11 := H.get (b := w.heap.size + 2) (o := 3) (v := .int .i64 0) (by simp)
    go_wp2_with (go_at_call 34; refine (hJ _).mono ?_; rintro e w' ⟨rfl, hb⟩; replace H := H.call hb)
    have hseq := (hs.below ((H.below).mono (Nat.le_refl _))).below ((Below.refl w'.heap.size w').alloc (Nat.le_refl _) (.cells #[.int .i64 j.1, .int .i64 j.2.1, .int .i64 j.2.2.1, .int .i64 j.2.2.2] 30))
    have hlt2 : w.heap.size + 2 < w'.heap.size := H.lt (b := w.heap.size + 2) (o := 0) (v := .int .i64 0) (by simp)
    have H2 := H.box4 (.int .i64 j.1) (.int .i64 j.2.1) (.int .i64 j.2.2.1) (.int .i64 j.2.2.2) 30
    generalize w'.alloc (.cells #[.int .i64 j.1, .int .i64 j.2.1, .int .i64 j.2.2.1, .int .i64 j.2.2.2] 30) = W2 at *
    generalize w'.heap.size = g at *
    clear H hb c0 c1 c2 c3 c4 c5 c6 c7 c8 c9 c10 c11
    have H := H2
    clear H2
    have k0 := fun p : Over _ => H.over (b := w.heap.size) (o := 0) (v := .int .i64 x) (by simp) p
    have k1 := fun p : Over _ => H.over (b := w.heap.size) (o := 1) (v := .int .i64 y) (by simp) p
    have k2 := fun p : Over _ => H.over (b := w.heap.size) (o := 2) (v := .int .i64 m) (by simp) p
    have k3 := fun p : Over _ => H.over (b := w.heap.size) (o := 3) (v := .int .i64 t) (by simp) p
    have k4 := fun p : Over _ => H.over (b := w.heap.size + 1) (o := 0) (v := .int .i64 x2) (by simp) p
    have k5 := fun p : Over _ => H.over (b := w.heap.size + 1) (o := 1) (v := .int .i64 y2) (by simp) p
    have k6 := fun p : Over _ => H.over (b := w.heap.size + 1) (o := 2) (v := .int .i64 m2) (by simp) p
    have k7 := fun p : Over _ => H.over (b := w.heap.size + 1) (o := 3) (v := .int .i64 t2) (by simp) p
    refine wp_region_over (by kernel_rfl) (by kernel_rfl) ?_
    repeat (go_big_quiet_step (first | (go_at_call 37; rename_i p; refine (sVOk_xy _ _ _ _ _).mono ?_; rintro e' w' ⟨rfl, hb1⟩; exact ⟨by (first | rw [h] | rw [h2]), p.next hb1⟩) | (go_at_call 90; rename_i p; refine (l10None_any _).mono ?_; rintro e' w' ⟨rfl, hb1⟩; exact ⟨rfl, p.next hb1⟩)))
    refine wpQuiet_nil ?_
    rintro _ ⟨p, rfl⟩
    replace H := H.call p.below; replace hseq := hseq.below p.below
    clear k0 k1 k2 k3 k4 k5 k6 k7
    generalize p.w = w3 at *
    clear p
    go_wp2_with fail
    have k0 := fun p : Over _ => H.over (b := w.heap.size) (o := 0) (v := .int .i64 x) (by simp) p
    have k1 := fun p : Over _ => H.over (b := w.heap.size) (o := 1) (v := .int .i64 y) (by simp) p
    have k2 := fun p : Over _ => H.over (b := w.heap.size) (o := 2) (v := .int .i64 m) (by simp) p
    have k3 := fun p : Over _ => H.over (b := w.heap.size) (o := 3) (v := .int .i64 t) (by simp) p
    have k4 := fun p : Over _ => H.over (b := w.heap.size + 1) (o := 0) (v := .int .i64 x2) (by simp) p
    have k5 := fun p : Over _ => H.over (b := w.heap.size + 1) (o := 1) (v := .int .i64 y2) (by simp) p
    have k6 := fun p : Over _ => H.over (b := w.heap.size + 1) (o := 2) (v := .int .i64 m2) (by simp) p
    have k7 := fun p : Over _ => H.over (b := w.heap.size + 1) (o := 3) (v := .int .i64 t2) (by simp) p
    refine wp_region_tail_over rfl rfl rfl rfl (by kernel_rfl) (by kernel_rfl) (by kernel_rfl) ?_
    simp only [List.dropLast, tv, List.cons_append, List.nil_append]
    repeat (go_big_quiet_step (first | (go_at_call 104; rename_i p; refine (l10Range_xy _ _ _ _ _).mono ?_; rintro e' w' ⟨rfl, hb1⟩; exact ⟨rfl, p.next hb1⟩) | (go_at_call 105; rename_i p; refine (l10Rest_xy _ _ _ _ _).mono ?_; rintro e' w' ⟨rfl, hb1⟩; exact ⟨rfl, p.next hb1⟩) | (go_at_call 107; rename_i p; refine (hW _ (hseq.below p.below)).mono ?_; rintro e' w' ⟨rfl, hb1⟩; exact ⟨rfl, p.next hb1⟩) | (go_at_call 74; rename_i p; refine (hK _).mono ?_; rintro e' w' ⟨rfl, hb1⟩; exact ⟨rfl, p.next hb1⟩) | (go_at_call 23; rename_i p; refine (hM _).mono ?_; rintro e' w' ⟨rfl, hb1⟩; exact ⟨rfl, p.next hb1⟩)))
    refine wpQuiet_nil ?_
    rintro _ ⟨p, rfl⟩
    replace H := H.call p.below
    clear k0 k1 k2 k3 k4 k5 k6 k7
    generalize p.w = w6 at *
    clear p
    have rc0 := H.get (b := w.heap.size + 2) (o := 0) (v := .int .i64 0) (by simp)
    have rc1 := H.get (b := w.heap.size + 2) (o := 1) (v := .int .i64 0) (by simp)
    have rc2 := H.get (b := w.heap.size + 2) (o := 2) (v := .int .i64 0) (by simp)
    have rc3 := H.get (b := w.heap.size + 2) (o := 3) (v := .int .i64 0) (by simp)
    have rz0 := H.fz (b := w.heap.size + 2) (o := 0) (v := .int .i64 0) (by simp)
    have rz1 := H.fz (b := w.heap.size + 2) (o := 1) (v := .int .i64 0) (by simp)
    have rz2 := H.fz (b := w.heap.size + 2) (o := 2) (v := .int .i64 0) (by simp)
    have rz3 := H.fz (b := w.heap.size + 2) (o := 3) (v := .int .i64 0) (by simp)
    go_simp
    go_wp2
    obtain ⟨f0, f1, f2, f3, fb⟩ := H.fill4 (b := w.heap.size + 2) (x := .int .i64 0) (y := .int .i64 0) (z := .int .i64 0) (u := .int .i64 0) (by simp) (by simp) (by simp) (by simp) (by omega) (.int .i64 q.1) (.int .i64 q.2.1) (.int .i64 q.2.2.1) (.int .i64 q.2.2.2)
    refine bodyPost_ret (results_four rfl _ _ (w.heap.size + 2) (.int .i64 q.1) (.int .i64 q.2.1) (.int .i64 q.2.2.1) (.int .i64 q.2.2.2) _ rfl f0 f1 f2 f3 Tryd.underlying30 rfl (by kernel_rfl)) rfl ?_
    exact ⟨rfl, fb⟩
end Go.Proofs.YthbbgkpkijlclaaDoor.num
namespace Go.Proofs.YthbbgkpkijlclaaDoor.num
open Go.ChangeShapes Go.WideShapes Go.ChangeAt Go.RowKit
set_option linter.unusedVariables false

set_option maxRecDepth 100000 in
set_option maxHeartbeats 4000000 in
theorem iVWiden_bad (x y m t x2 y2 m2 t2 : Int) (l : List Int) (sv : Value) (hb : some10 (x, y, m, t) = false ∨ some10 (x2, y2, m2, t2) = false) (w : World) (hN : Gn w) (hR : Gv w 1 none8) (hQ : Gq w) :
    Calls Tryd.prog 33 #[.agg #[.int .i64 x, .int .i64 y, .int .i64 m, .int .i64 t], .agg #[.int .i64 x2, .int .i64 y2, .int .i64 m2, .int .i64 t2], sv] w fun e w' => e = .returned (.agg #[.int .i64 (widen10 (x, y, m, t) (x2, y2, m2, t2) l).1, .int .i64 (widen10 (x, y, m, t) (x2, y2, m2, t2) l).2.1, .int .i64 (widen10 (x, y, m, t) (x2, y2, m2, t2) l).2.2.1, .int .i64 (widen10 (x, y, m, t) (x2, y2, m2, t2) l).2.2.2]) ∧ Below w.heap.size w w' := by
  have e : widen10 (x, y, m, t) (x2, y2, m2, t2) l = join10 (x, y, m, t) (x2, y2, m2, t2) := by unfold widen10; rw [if_pos hb]
  rw [e]
  clear e
  have hJ := fun w (hN : Gn w) (hR : Gv w 1 none8) (hQ : Gq w) => iVJoin_xy x y m t x2 y2 m2 t2 w hN hR hQ
  generalize join10 (x, y, m, t) (x2, y2, m2, t2) = j at *
  cases h : some10 (x, y, m, t)
  · clear hb
    obtain ⟨W, hW, H⟩ : ∃ W, W = ((w.alloc (.cells #[.int .i64 x, .int .i64 y, .int .i64 m, .int .i64 t] 30)).alloc (.cells #[.int .i64 x2, .int .i64 y2, .int .i64 m2, .int .i64 t2] 30)).alloc (.cells #[.int .i64 0, .int .i64 0, .int .i64 0, .int .i64 0] 30) ∧ Hd w [(w.heap.size + 2, 0, .int .i64 0), (w.heap.size + 2, 1, .int .i64 0), (w.heap.size + 2, 2, .int .i64 0), (w.heap.size + 2, 3, .int .i64 0), (w.heap.size + 1, 0, .int .i64 x2), (w.heap.size + 1, 1, .int .i64 y2), (w.heap.size + 1, 2, .int .i64 m2), (w.heap.size + 1, 3, .int .i64 t2), (w.heap.size, 0, .int .i64 x), (w.heap.size, 1, .int .i64 y), (w.heap.size, 2, .int .i64 m), (w.heap.size, 3, .int .i64 t)] W := ⟨_, rfl, by
      have h := ((((Hd.start w).box4 (.int .i64 x) (.int .i64 y) (.int .i64 m) (.int .i64 t) 30).box4 (.int .i64 x2) (.int .i64 y2) (.int .i64 m2) (.int .i64 t2) 30).box4 (.int .i64 0) (.int .i64 0) (.int .i64 0) (.int .i64 0) 30)
      simp only [size_alloc1] at h
      exact h⟩
    go_enter Tryd.func33, Tryd.ntmps33
    go_wp2_with fail
    rw [← hW]
    clear hW
    have c0 := H.get (b := w.heap.size) (o := 0) (v := .int .i64 x) (by simp)
    have c1 := H.get (b := w.heap.size) (o := 1) (v := .int .i64 y) (by simp)
    have c2 := H.get (b := w.heap.size) (o := 2) (v := .int .i64 m) (by simp)
    have c3 := H.get (b := w.heap.size) (o := 3) (v := .int .i64 t) (by simp)
    have c4 := H.get (b := w.heap.size + 1) (o := 0) (v := .int .i64 x2) (by simp)
    have c5 := H.get (b := w.heap.size + 1) (o := 1) (v := .int .i64 y2) (by simp)
    have c6 := H.get (b := w.heap.size + 1) (o := 2) (v := .int .i64 m2) (by simp)
    have c7 := H.get (b := w.heap.size + 1) (o := 3) (v := .int .i64 t2) (by simp)
    have c8 := H.get (b := w.heap.size + 2) (o := 0) (v := .int .i64 0) (by simp)
    have c9 := H.get (b := w.heap.size + 2) (o := 1) (v := .int .i64 0) (by simp)
    have c10 := H.get (b := w.heap.size + 2) (o := 2) (v := .int .i64 0) (by simp)
    have c11 := H.get (b := w.heap.size + 2) (o := 3) (v := .int .i64 0) (by simp)
    have z0 := H.fz (b := w.heap.size + 2) (o := 0) (v := .int .i64 0) (by simp)
    have z1 := H.fz (b := w.heap.size + 2) (o := 1) (v := .int .i64 0) (by simp)
    have z2 := H.fz (b := w.heap.size + 2) (o := 2) (v := .int .i64 0) (by simp)
    have z3 := H.fz (b := w.heap.size + 2) (o := 3) (v := .int .i64 0) (by simp)
    obtain ⟨gs, n0, n1, n2, n3⟩ := Gn.all (hN.below H.below)
    go_wp2_with (first | (go_at_call 101; refine (isome_xy _ _ _ _ _ (hN.below H.below) (hR.below H.below)).mono ?_; rintro e w' ⟨rfl, hb⟩; (first | rw [h]); replace H := H.call hb; clear hb; have c0 := H.get (b := w.heap.size) (o := 0) (v := .int .i64 x) (by simp); have c1 := H.get (b := w.heap.size) (o := 1) (v := .int .i64 y) (by simp); have c2 := H.get (b := w.heap.size) (o := 2) (v := .int .i64 m) (by simp); have c3 := H.get (b := w.heap.size) (o := 3) (v := .int .i64 t) (by simp); have c4 := H.get (b := w.heap.size + 1) (o := 0) (v := .int .i64 x2) (by simp); have c5 := H.get (b := w.heap.size + 1) (o := 1) (v := .int .i64 y2) (by simp); have c6 := H.get (b := w.heap.size + 1) (o := 2) (v := .int .i64 m2) (by simp); have c7 := H.get (b := w.heap.size + 1) (o := 3) (v := .int .i64 t2) (by simp); have c8 := H.get (b := w.heap.size + 2) (o := 0) (v := .int .i64 0) (by simp); have c9 := H.get (b := w.heap.size + 2) (o := 1) (v := .int .i64 0) (by simp); have c10 := H.get (b := w.heap.size + 2) (o := 2) (v := .int .i64 0) (by simp); have c11 := H.get (b := w.heap.size + 2) (o := 3) (v := .int .i64 0) (by simp); have z0 := H.fz (b := w.heap.size + 2) (o := 0) (v := .int .i64 0) (by simp); have z1 := H.fz (b := w.heap.size + 2) (o := 1) (v := .int .i64 0) (by simp); have z2 := H.fz (b := w.heap.size + 2) (o := 2) (v := .int .i64 0) (by simp); have z3 := H.fz (b := w.heap.size + 2) (o := 3) (v := .int .i64 0) (by simp); obtain ⟨gs, n0, n1, n2, n3⟩ := Gn.all (hN.below H.below)) | (go_at_call 31; refine (hJ _ (hN.below H.below) (hR.below H.below) (Gv.below hQ H.below)).mono ?_; rintro e w' ⟨rfl, hb⟩; replace H := H.call hb; clear hb; have rc0 := H.get (b := w.heap.size + 2) (o := 0) (v := .int .i64 0) (by simp); have rc1 := H.get (b := w.heap.size + 2) (o := 1) (v := .int .i64 0) (by simp); have rc2 := H.get (b := w.heap.size + 2) (o := 2) (v := .int .i64 0) (by simp); have rc3 := H.get (b := w.heap.size + 2) (o := 3) (v := .int .i64 0) (by simp); have rz0 := H.fz (b := w.heap.size + 2) (o := 0) (v := .int .i64 0) (by simp); have rz1 := H.fz (b := w.heap.size + 2) (o := 1) (v := .int .i64 0) (by simp); have rz2 := H.fz (b := w.heap.size + 2) (o := 2) (v := .int .i64 0) (by simp); have rz3 := H.fz (b := w.heap.size + 2) (o := 3) (v := .int .i64 0) (by simp)))
    obtain ⟨f0, f1, f2, f3, fb⟩ := H.fill4 (b := w.heap.size + 2) (x := .int .i64 0) (y := .int .i64 0) (z := .int .i64 0) (u := .int .i64 0) (by simp) (by simp) (by simp) (by simp) (by omega) (.int .i64 j.1) (.int .i64 j.2.1) (.int .i64 j.2.2.1) (.int .i64 j.2.2.2)
    refine bodyPost_ret (results_four rfl _ _ (w.heap.size + 2) (.int .i64 j.1) (.int .i64 j.2.1) (.int .i64 j.2.2.1) (.int .i64 j.2.2.2) _ rfl f0 f1 f2 f3 Tryd.underlying30 rfl (by kernel_rfl)) rfl ?_
    exact ⟨rfl, fb⟩
  · have h2 : some10 (x2, y2, m2, t2) = false := by rw [h] at hb; simpa using hb
    clear hb
    obtain ⟨W, hW, H⟩ : ∃ W, W = ((w.alloc (.cells #[.int .i64 x, .int .i64 y, .int .i64 m, .int .i64 t] 30)).alloc (.cells #[.int .i64 x2, .int .i64 y2, .int .i64 m2, .int .i64 t2] 30)).alloc (.cells #[.int .i64 0, .int .i64 0, .int .i64 0, .int .i64 0] 30) ∧ Hd w [(w.heap.size + 2, 0, .int .i64 0), (w.heap.size + 2, 1, .int .i64 0), (w.heap.size + 2, 2, .int .i64 0), (w.heap.size + 2, 3, .int .i64 0), (w.heap.size + 1, 0, .int .i64 x2), (w.heap.size + 1, 1, .int .i64 y2), (w.heap.size + 1, 2, .int .i64 m2), (w.heap.size + 1, 3, .int .i64 t2), (w.heap.size, 0, .int .i64 x), (w.heap.size, 1, .int .i64 y), (w.heap.size, 2, .int .i64 m), (w.heap.size, 3, .int .i64 t)] W := ⟨_, rfl, by
      have h := ((((Hd.start w).box4 (.int .i64 x) (.int .i64 y) (.int .i64 m) (.int .i64 t) 30).box4 (.int .i64 x2) (.int .i64 y2) (.int .i64 m2) (.int .i64 t2) 30).box4 (.int .i64 0) (.int .i64 0) (.int .i64 0) (.int .i64 0) 30)
      simp only [size_alloc1] at h
      exact h⟩
    go_enter Tryd.func33, Tryd.ntmps33
    go_wp2_with fail
    rw [← hW]
    clear hW
    have c0 := H.get (b := w.heap.size) (o := 0) (v := .int .i64 x) (by simp)
    have c1 := H.get (b := w.heap.size) (o := 1) (v := .int .i64 y) (by simp)
    have c2 := H.get (b := w.heap.size) (o := 2) (v := .int .i64 m) (by simp)
    have c3 := H.get (b := w.heap.size) (o := 3) (v := .int .i64 t) (by simp)
    have c4 := H.get (b := w.heap.size + 1) (o := 0) (v := .int .i64 x2) (by simp)
    have c5 := H.get (b := w.heap.size + 1) (o := 1) (v := .int .i64 y2) (by simp)
    have c6 := H.get (b := w.heap.size + 1) (o := 2) (v := .int .i64 m2) (by simp)
    have c7 := H.get (b := w.heap.size + 1) (o := 3) (v := .int .i64 t2) (by simp)
    have c8 := H.get (b := w.heap.size + 2) (o := 0) (v := .int .i64 0) (by simp)
    have c9 := H.get (b := w.heap.size + 2) (o := 1) (v := .int .i64 0) (by simp)
    have c10 := H.get (b := w.heap.size + 2) (o := 2) (v := .int .i64 0) (by simp)
    have c11 := H.get (b := w.heap.size + 2) (o := 3) (v := .int .i64 0) (by simp)
    have z0 := H.fz (b := w.heap.size + 2) (o := 0) (v := .int .i64 0) (by simp)
    have z1 := H.fz (b := w.heap.size + 2) (o := 1) (v := .int .i64 0) (by simp)
    have z2 := H.fz (b := w.heap.size + 2) (o := 2) (v := .int .i64 0) (by simp)
    have z3 := H.fz (b := w.heap.size + 2) (o := 3) (v := .int .i64 0) (by simp)
    obtain ⟨gs, n0, n1, n2, n3⟩ := Gn.all (hN.below H.below)
    go_wp2_with (first | (go_at_call 101; refine (isome_xy _ _ _ _ _ (hN.below H.below) (hR.below H.below)).mono ?_; rintro e w' ⟨rfl, hb⟩; (first | rw [h] | rw [h2]); replace H := H.call hb; clear hb; have c0 := H.get (b := w.heap.size) (o := 0) (v := .int .i64 x) (by simp); have c1 := H.get (b := w.heap.size) (o := 1) (v := .int .i64 y) (by simp); have c2 := H.get (b := w.heap.size) (o := 2) (v := .int .i64 m) (by simp); have c3 := H.get (b := w.heap.size) (o := 3) (v := .int .i64 t) (by simp); have c4 := H.get (b := w.heap.size + 1) (o := 0) (v := .int .i64 x2) (by simp); have c5 := H.get (b := w.heap.size + 1) (o := 1) (v := .int .i64 y2) (by simp); have c6 := H.get (b := w.heap.size + 1) (o := 2) (v := .int .i64 m2) (by simp); have c7 := H.get (b := w.heap.size + 1) (o := 3) (v := .int .i64 t2) (by simp); have c8 := H.get (b := w.heap.size + 2) (o := 0) (v := .int .i64 0) (by simp); have c9 := H.get (b := w.heap.size + 2) (o := 1) (v := .int .i64 0) (by simp); have c10 := H.get (b := w.heap.size + 2) (o := 2) (v := .int .i64 0) (by simp); have c11 := H.get (b := w.heap.size + 2) (o := 3) (v := .int .i64 0) (by simp); have z0 := H.fz (b := w.heap.size + 2) (o := 0) (v := .int .i64 0) (by simp); have z1 := H.fz (b := w.heap.size + 2) (o := 1) (v := .int .i64 0) (by simp); have z2 := H.fz (b := w.heap.size + 2) (o := 2) (v := .int .i64 0) (by simp); have z3 := H.fz (b := w.heap.size + 2) (o := 3) (v := .int .i64 0) (by simp); obtain ⟨gs, n0, n1, n2, n3⟩ := Gn.all (hN.below H.below)) | (go_at_call 31; refine (hJ _ (hN.below H.below) (hR.below H.below) (Gv.below hQ H.below)).mono ?_; rintro e w' ⟨rfl, hb⟩; replace H := H.call hb; clear hb; have rc0 := H.get (b := w.heap.size + 2) (o := 0) (v := .int .i64 0) (by simp); have rc1 := H.get (b := w.heap.size + 2) (o := 1) (v := .int .i64 0) (by simp); have rc2 := H.get (b := w.heap.size + 2) (o := 2) (v := .int .i64 0) (by simp); have rc3 := H.get (b := w.heap.size + 2) (o := 3) (v := .int .i64 0) (by simp); have rz0 := H.fz (b := w.heap.size + 2) (o := 0) (v := .int .i64 0) (by simp); have rz1 := H.fz (b := w.heap.size + 2) (o := 1) (v := .int .i64 0) (by simp); have rz2 := H.fz (b := w.heap.size + 2) (o := 2) (v := .int .i64 0) (by simp); have rz3 := H.fz (b := w.heap.size + 2) (o := 3) (v := .int .i64 0) (by simp)))
    obtain ⟨f0, f1, f2, f3, fb⟩ := H.fill4 (b := w.heap.size + 2) (x := .int .i64 0) (y := .int .i64 0) (z := .int .i64 0) (u := .int .i64 0) (by simp) (by simp) (by simp) (by simp) (by omega) (.int .i64 j.1) (.int .i64 j.2.1) (.int .i64 j.2.2.1) (.int .i64 j.2.2.2)
    refine bodyPost_ret (results_four rfl _ _ (w.heap.size + 2) (.int .i64 j.1) (.int .i64 j.2.1) (.int .i64 j.2.2.1) (.int .i64 j.2.2.2) _ rfl f0 f1 f2 f3 Tryd.underlying30 rfl (by kernel_rfl)) rfl ?_
    exact ⟨rfl, fb⟩
set_option maxRecDepth 100000 in
set_option maxHeartbeats 4000000 in
theorem iVWiden_some {base : Nat} {ok : Int → Prop} (x y m t x2 y2 m2 t2 : Int) (l : List Int) (sv : Value) (h : some10 (x, y, m, t) = true) (h2 : some10 (x2, y2, m2, t2) = true) (w : World) (hs : rws.Seq 1 rws.ci ok base w sv l) (hN : Gn w) (hR : Gv w 1 none8) (hQ : Gq w) :
    Calls Tryd.prog 33 #[.agg #[.int .i64 x, .int .i64 y, .int .i64 m, .int .i64 t], .agg #[.int .i64 x2, .int .i64 y2, .int .i64 m2, .int .i64 t2], sv] w fun e w' => e = .returned (.agg #[.int .i64 (widen10 (x, y, m, t) (x2, y2, m2, t2) l).1, .int .i64 (widen10 (x, y, m, t) (x2, y2, m2, t2) l).2.1, .int .i64 (widen10 (x, y, m, t) (x2, y2, m2, t2) l).2.2.1, .int .i64 (widen10 (x, y, m, t) (x2, y2, m2, t2) l).2.2.2]) ∧ Below w.heap.size w w' := by
  have e : widen10 (x, y, m, t) (x2, y2, m2, t2) l = make10 (widen8 (x, y) (x2, y2) l) (join9 (m, t) (m2, t2)) := by unfold widen10; rw [if_neg (by simp [h, h2])]; rfl
  rw [e]
  clear e
  have hW := fun w (hs : rws.Seq 1 rws.ci ok base w sv l) (hR : Gv w 1 none8) => iWiden_xy x y x2 y2 l sv w hs hR
  have hK := fun w (hQ : Gq w) => iRestJoin_xy m t m2 t2 w hQ
  generalize widen8 (x, y) (x2, y2) l = d at *
  generalize join9 (m, t) (m2, t2) = k at *
  obtain ⟨d1, d2⟩ := d
  obtain ⟨r1, r2⟩ := k
  have hM := fun w (hN : Gn w) (hR : Gv w 1 none8) => iMake_xy d1 d2 r1 r2 w hN hR
  generalize make10 (d1, d2) (r1, r2) = q at *
  obtain ⟨W, hW, H⟩ : ∃ W, W = ((w.alloc (.cells #[.int .i64 x, .int .i64 y, .int .i64 m, .int .i64 t] 30)).alloc (.cells #[.int .i64 x2, .int .i64 y2, .int .i64 m2, .int .i64 t2] 30)).alloc (.cells #[.int .i64 0, .int .i64 0, .int .i64 0, .int .i64 0] 30) ∧ Hd w [(w.heap.size + 2, 0, .int .i64 0), (w.heap.size + 2, 1, .int .i64 0), (w.heap.size + 2, 2, .int .i64 0), (w.heap.size + 2, 3, .int .i64 0), (w.heap.size + 1, 0, .int .i64 x2), (w.heap.size + 1, 1, .int .i64 y2), (w.heap.size + 1, 2, .int .i64 m2), (w.heap.size + 1, 3, .int .i64 t2), (w.heap.size, 0, .int .i64 x), (w.heap.size, 1, .int .i64 y), (w.heap.size, 2, .int .i64 m), (w.heap.size, 3, .int .i64 t)] W := ⟨_, rfl, by
    have h := ((((Hd.start w).box4 (.int .i64 x) (.int .i64 y) (.int .i64 m) (.int .i64 t) 30).box4 (.int .i64 x2) (.int .i64 y2) (.int .i64 m2) (.int .i64 t2) 30).box4 (.int .i64 0) (.int .i64 0) (.int .i64 0) (.int .i64 0) 30)
    simp only [size_alloc1] at h
    exact h⟩
  go_enter Tryd.func33, Tryd.ntmps33
  go_wp2_with fail
  rw [← hW]
  clear hW
  have c0 := H.get (b := w.heap.size) (o := 0) (v := .int .i64 x) (by simp)
  have c1 := H.get (b := w.heap.size) (o := 1) (v := .int .i64 y) (by simp)
  have c2 := H.get (b := w.heap.size) (o := 2) (v := .int .i64 m) (by simp)
  have c3 := H.get (b := w.heap.size) (o := 3) (v := .int .i64 t) (by simp)
  have c4 := H.get (b := w.heap.size + 1) (o := 0) (v := .int .i64 x2) (by simp)
  have c5 := H.get (b := w.heap.size + 1) (o := 1) (v := .int .i64 y2) (by simp)
  have c6 := H.get (b := w.heap.size + 1) (o := 2) (v := .int .i64 m2) (by simp)
  have c7 := H.get (b := w.heap.size + 1) (o := 3) (v := .int .i64 t2) (by simp)
  have c8 := H.get (b := w.heap.size + 2) (o := 0) (v := .int .i64 0) (by simp)
  have c9 := H.get (b := w.heap.size + 2) (o := 1) (v := .int .i64 0) (by simp)
  have c10 := H.get (b := w.heap.size + 2) (o := 2) (v := .int .i64 0) (by simp)
  have c11 := H.get (b := w.heap.size + 2) (o := 3) (v := .int .i64 0) (by simp)
  have z0 := H.fz (b := w.heap.size + 2) (o := 0) (v := .int .i64 0) (by simp)
  have z1 := H.fz (b := w.heap.size + 2) (o := 1) (v := .int .i64 0) (by simp)
  have z2 := H.fz (b := w.heap.size + 2) (o := 2) (v := .int .i64 0) (by simp)
  have z3 := H.fz (b := w.heap.size + 2) (o := 3) (v := .int .i64 0) (by simp)
  obtain ⟨gs, n0, n1, n2, n3⟩ := Gn.all (hN.below H.below)
  go_wp2_with (first | (go_at_call 101; refine (isome_xy _ _ _ _ _ (hN.below H.below) (hR.below H.below)).mono ?_; rintro e w' ⟨rfl, hb⟩; (first | rw [h] | rw [h2]); replace H := H.call hb; clear hb; have c0 := H.get (b := w.heap.size) (o := 0) (v := .int .i64 x) (by simp); have c1 := H.get (b := w.heap.size) (o := 1) (v := .int .i64 y) (by simp); have c2 := H.get (b := w.heap.size) (o := 2) (v := .int .i64 m) (by simp); have c3 := H.get (b := w.heap.size) (o := 3) (v := .int .i64 t) (by simp); have c4 := H.get (b := w.heap.size + 1) (o := 0) (v := .int .i64 x2) (by simp); have c5 := H.get (b := w.heap.size + 1) (o := 1) (v := .int .i64 y2) (by simp); have c6 := H.get (b := w.heap.size + 1) (o := 2) (v := .int .i64 m2) (by simp); have c7 := H.get (b := w.heap.size + 1) (o := 3) (v := .int .i64 t2) (by simp); have c8 := H.get (b := w.heap.size + 2) (o := 0) (v := .int .i64 0) (by simp); have c9 := H.get (b := w.heap.size + 2) (o := 1) (v := .int .i64 0) (by simp); have c10 := H.get (b := w.heap.size + 2) (o := 2) (v := .int .i64 0) (by simp); have c11 := H.get (b := w.heap.size + 2) (o := 3) (v := .int .i64 0) (by simp); have z0 := H.fz (b := w.heap.size + 2) (o := 0) (v := .int .i64 0) (by simp); have z1 := H.fz (b := w.heap.size + 2) (o := 1) (v := .int .i64 0) (by simp); have z2 := H.fz (b := w.heap.size + 2) (o := 2) (v := .int .i64 0) (by simp); have z3 := H.fz (b := w.heap.size + 2) (o := 3) (v := .int .i64 0) (by simp); obtain ⟨gs, n0, n1, n2, n3⟩ := Gn.all (hN.below H.below)))
  apply wp_region_free2 6 4 5 7 8 (.cells #[.int .i64 0, .int .i64 0, .int .i64 0, .int .i64 0] 98) (.cells #[.int .i64 0, .int .i64 0, .int .i64 0, .int .i64 0] 98) (by decide) (by decide) (Nat.le_of_ble_eq_true rfl) (by kernel_rfl) (by kernel_rfl) (by kernel_rfl) (by kernel_rfl) (by intro o ho; have ho' := Option.some.inj ho; subst ho'; intro a w; kernel_rfl) (by intro o ho; have ho' := Option.some.inj ho; subst ho'; intro a w; kernel_rfl)
  case hq =>
    intro W hWB
    replace H := H.call hWB
    have k0 := fun p : Over _ => H.over (b := w.heap.size) (o := 0) (v := .int .i64 x) (by simp) p
    have k1 := fun p : Over _ => H.over (b := w.heap.size) (o := 1) (v := .int .i64 y) (by simp) p
    have k2 := fun p : Over _ => H.over (b := w.heap.size) (o := 2) (v := .int .i64 m) (by simp) p
    have k3 := fun p : Over _ => H.over (b := w.heap.size) (o := 3) (v := .int .i64 t) (by simp) p
    have k4 := fun p : Over _ => H.over (b := w.heap.size + 1) (o := 0) (v := .int .i64 x2) (by simp) p
    have k5 := fun p : Over _ => H.over (b := w.heap.size + 1) (o := 1) (v := .int .i64 y2) (by simp) p
    have k6 := fun p : Over _ => H.over (b := w.heap.size + 1) (o := 2) (v := .int .i64 m2) (by simp) p
    have k7 := fun p : Over _ => H.over (b := w.heap.size + 1) (o := 3) (v := .int .i64 t2) (by simp) p
    simp only [rep, List.take_succ_cons, List.take_zero, List.contains_cons, List.contains_nil, Nat.reduceBEq, Bool.or_false, Bool.or_true, Bool.false_eq_true, ↓reduceIte, Nat.reduceAdd, Nat.zero_add, tv, tw, Bool.or_self, beq_self_eq_true]
    repeat (go_big_quiet_step (first | (go_at_call 93; rename_i p; refine (parts_xy _ _ _ _ _).mono ?_; rintro e' w' ⟨rfl, hb1⟩; exact ⟨rfl, p.next hb1⟩)))
    exact wpQuiet_nil rfl
  case hk =>
    intro w4 g g2 hb hg0 hg1 hg hg3 hg4 hg5 hne
    simp only [List.drop_succ_cons, List.drop_zero, Act.put, ptr0, List.setIfInBounds_toArray, List.set_cons_succ, List.set_cons_zero]
    have hl0 := H.lt (b := w.heap.size + 2) (o := 0) (v := .int .i64 0) (by simp)
    have H1 := ((H.call hb).new4 hg1 hg).new4 hg4 hg5
    have dc0 := H1.get (b := g) (o := 0) (v := .int .i64 0) (by simp)
    have dc1 := H1.get (b := g) (o := 1) (v := .int .i64 0) (by simp)
    have dc2 := H1.get (b := g) (o := 2) (v := .int .i64 0) (by simp)
    have dc3 := H1.get (b := g) (o := 3) (v := .int .i64 0) (by simp)
    have dc4 := H1.get (b := g2) (o := 0) (v := .int .i64 0) (by simp)
    have dc5 := H1.get (b := g2) (o := 1) (v := .int .i64 0) (by simp)
    have dc6 := H1.get (b := g2) (o := 2) (v := .int .i64 0) (by simp)
    have dc7 := H1.get (b := g2) (o := 3) (v := .int .i64 0) (by simp)
    have dz0 := H1.fz (b := g) (o := 0) (v := .int .i64 0) (by simp)
    have dz1 := H1.fz (b := g) (o := 1) (v := .int .i64 0) (by simp)
    have dz2 := H1.fz (b := g) (o := 2) (v := .int .i64 0) (by simp)
    have dz3 := H1.fz (b := g) (o := 3) (v := .int .i64 0) (by simp)
    have dz4 := H1.fz (b := g2) (o := 0) (v := .int .i64 0) (by simp)
    have dz5 := H1.fz (b := g2) (o := 1) (v := .int .i64 0) (by simp)
    have dz6 := H1.fz (b := g2) (o := 2) (v := .int .i64 0) (by simp)
    have dz7 := H1.fz (b := g2) (o := 3) (v := .int .i64 0) (by simp)
    obtain ⟨w5, hw5, H5⟩ : ∃ W5, W5 = ((((((((w4.setCell ⟨g, 0, none⟩ (.int .i64 x)).setCell ⟨g, 1, none⟩ (.int .i64 y)).setCell ⟨g, 2, none⟩ (.int .i64 m)).setCell ⟨g, 3, none⟩ (.int .i64 t)).setCell ⟨g2, 0, none⟩ (.int .i64 x2)).setCell ⟨g2, 1, none⟩ (.int .i64 y2)).setCell ⟨g2, 2, none⟩ (.int .i64 m2)).setCell ⟨g2, 3, none⟩ (.int .i64 t2)) ∧ Hd w [(g2, 0, .int .i64 x2), (g2, 1, .int .i64 y2), (g2, 2, .int .i64 m2), (g2, 3, .int .i64 t2), (g, 0, .int .i64 x), (g, 1, .int .i64 y), (g, 2, .int .i64 m), (g, 3, .int .i64 t), (w.heap.size + 2, 0, .int .i64 0), (w.heap.size + 2, 1, .int .i64 0), (w.heap.size + 2, 2, .int .i64 0), (w.heap.size + 2, 3, .int .i64 0), (w.heap.size + 1, 0, .int .i64 x2), (w.heap.size + 1, 1, .int .i64 y2), (w.heap.size + 1, 2, .int .i64 m2), (w.heap.size + 1, 3, .int .i64 t2), (w.heap.size, 0, .int .i64 x), (w.heap.size, 1, .int .i64 y), (w.heap.size, 2, .int .i64 m), (w.heap.size, 3, .int .i64 t)] W5 := ⟨_, rfl, by
      have k1 : Hd w [(g, 0, .int .i64 0), (g, 1, .int .i64 0), (g, 2, .int .i64 0), (g, 3, .int .i64 0), (g2, 0, .int .i64 0), (g2, 1, .int .i64 0), (g2, 2, .int .i64 0), (g2, 3, .int .i64 0), (w.heap.size + 2, 0, .int .i64 0), (w.heap.size + 2, 1, .int .i64 0), (w.heap.size + 2, 2, .int .i64 0), (w.heap.size + 2, 3, .int .i64 0), (w.heap.size + 1, 0, .int .i64 x2), (w.heap.size + 1, 1, .int .i64 y2), (w.heap.size + 1, 2, .int .i64 m2), (w.heap.size + 1, 3, .int .i64 t2), (w.heap.size, 0, .int .i64 x), (w.heap.size, 1, .int .i64 y), (w.heap.size, 2, .int .i64 m), (w.heap.size, 3, .int .i64 t)] w4 := H1.weak (by simp; try grind)
      have k2 := Hd.setF k1 (by omega) (by simp; omega) (.int .i64 x) (.int .i64 y) (.int .i64 m) (.int .i64 t)
      have k3 : Hd w [(g2, 0, .int .i64 0), (g2, 1, .int .i64 0), (g2, 2, .int .i64 0), (g2, 3, .int .i64 0), (g, 0, .int .i64 x), (g, 1, .int .i64 y), (g, 2, .int .i64 m), (g, 3, .int .i64 t), (w.heap.size + 2, 0, .int .i64 0), (w.heap.size + 2, 1, .int .i64 0), (w.heap.size + 2, 2, .int .i64 0), (w.heap.size + 2, 3, .int .i64 0), (w.heap.size + 1, 0, .int .i64 x2), (w.heap.size + 1, 1, .int .i64 y2), (w.heap.size + 1, 2, .int .i64 m2), (w.heap.size + 1, 3, .int .i64 t2), (w.heap.size, 0, .int .i64 x), (w.heap.size, 1, .int .i64 y), (w.heap.size, 2, .int .i64 m), (w.heap.size, 3, .int .i64 t)] _ := k2.weak (by simp; try grind)
      exact Hd.setF k3 (by omega) (by simp; omega) (.int .i64 x2) (.int .i64 y2) (.int .i64 m2) (.int .i64 t2)⟩
    go_simp
    go_wp2_with fail
    rw [← hw5]
    clear hw5 H H1 hb
    have H := H5
    clear H5
    replace hN := hN.below H.below
    replace hR := hR.below H.below
    replace hQ := Gv.below hQ H.below
    replace hs := hs.below ((H.below).mono (Nat.le_refl _))
    clear c0 c1 c2 c3 c4 c5 c6 c7 c8 c9 c10 c11 z0 z1 z2 z3 gs n0 n1 n2 n3 dc0 dc1 dc2 dc3 dc4 dc5 dc6 dc7 dz0 dz1 dz2 dz3 dz4 dz5 dz6 dz7
    have k0 := fun p : Over _ => H.over (b := g) (o := 0) (v := .int .i64 x) (by simp) p
    have k1 := fun p : Over _ => H.over (b := g) (o := 1) (v := .int .i64 y) (by simp) p
    have k2 := fun p : Over _ => H.over (b := g) (o := 2) (v := .int .i64 m) (by simp) p
    have k3 := fun p : Over _ => H.over (b := g) (o := 3) (v := .int .i64 t) (by simp) p
    have k4 := fun p : Over _ => H.over (b := g2) (o := 0) (v := .int .i64 x2) (by simp) p
    have k5 := fun p : Over _ => H.over (b := g2) (o := 1) (v := .int .i64 y2) (by simp) p
    have k6 := fun p : Over _ => H.over (b := g2) (o := 2) (v := .int .i64 m2) (by simp) p
    have k7 := fun p : Over _ => H.over (b := g2) (o := 3) (v := .int .i64 t2) (by simp) p
    refine wp_region_tail_over rfl rfl rfl rfl (by kernel_rfl) (by kernel_rfl) (by kernel_rfl) ?_
    simp only [List.dropLast, tv, List.cons_append, List.nil_append]
    repeat (go_big_quiet_step (first | (go_at_call 103; rename_i p; refine (hW _ (hs.below p.below) (hR.over p)).mono ?_; rintro e' w' ⟨rfl, hb1⟩; exact ⟨rfl, p.next hb1⟩) | (go_at_call 71; rename_i p; refine (hK _ (Gv.over hQ p)).mono ?_; rintro e' w' ⟨rfl, hb1⟩; exact ⟨rfl, p.next hb1⟩) | (go_at_call 22; rename_i p; refine (hM _ (hN.over p) (hR.over p)).mono ?_; rintro e' w' ⟨rfl, hb1⟩; exact ⟨rfl, p.next hb1⟩)))
    refine wpQuiet_nil ?_
    rintro _ ⟨p, rfl⟩
    replace H := H.call p.below
    clear k0 k1 k2 k3 k4 k5 k6 k7
    generalize p.w = w6 at *
    clear p
    have rc0 := H.get (b := w.heap.size + 2) (o := 0) (v := .int .i64 0) (by simp)
    have rc1 := H.get (b := w.heap.size + 2) (o := 1) (v := .int .i64 0) (by simp)
    have rc2 := H.get (b := w.heap.size + 2) (o := 2) (v := .int .i64 0) (by simp)
    have rc3 := H.get (b := w.heap.size + 2) (o := 3) (v := .int .i64 0) (by simp)
    have rz0 := H.fz (b := w.heap.size + 2) (o := 0) (v := .int .i64 0) (by simp)
    have rz1 := H.fz (b := w.heap.size + 2) (o := 1) (v := .int .i64 0) (by simp)
    have rz2 := H.fz (b := w.heap.size + 2) (o := 2) (v := .int .i64 0) (by simp)
    have rz3 := H.fz (b := w.heap.size + 2) (o := 3) (v := .int .i64 0) (by simp)
    go_simp
    go_wp2
    obtain ⟨f0, f1, f2, f3, fb⟩ := H.fill4 (b := w.heap.size + 2) (x := .int .i64 0) (y := .int .i64 0) (z := .int .i64 0) (u := .int .i64 0) (by simp) (by simp) (by simp) (by simp) (by omega) (.int .i64 q.1) (.int .i64 q.2.1) (.int .i64 q.2.2.1) (.int .i64 q.2.2.2)
    refine bodyPost_ret (results_four rfl _ _ (w.heap.size + 2) (.int .i64 q.1) (.int .i64 q.2.1) (.int .i64 q.2.2.1) (.int .i64 q.2.2.2) _ rfl f0 f1 f2 f3 Tryd.underlying30 rfl (by kernel_rfl)) rfl ?_
    exact ⟨rfl, fb⟩
theorem iVWiden_xy {base : Nat} {ok : Int → Prop} (x y m t x2 y2 m2 t2 : Int) (l : List Int) (sv : Value) (w : World) (hs : rws.Seq 1 rws.ci ok base w sv l) (hN : Gn w) (hR : Gv w 1 none8) (hQ : Gq w) :
    Calls Tryd.prog 33 #[.agg #[.int .i64 x, .int .i64 y, .int .i64 m, .int .i64 t], .agg #[.int .i64 x2, .int .i64 y2, .int .i64 m2, .int .i64 t2], sv] w fun e w' => e = .returned (.agg #[.int .i64 (widen10 (x, y, m, t) (x2, y2, m2, t2) l).1, .int .i64 (widen10 (x, y, m, t) (x2, y2, m2, t2) l).2.1, .int .i64 (widen10 (x, y, m, t) (x2, y2, m2, t2) l).2.2.1, .int .i64 (widen10 (x, y, m, t) (x2, y2, m2, t2) l).2.2.2]) ∧ Below w.heap.size w w' := by
  by_cases hb : some10 (x, y, m, t) = false ∨ some10 (x2, y2, m2, t2) = false
  · exact iVWiden_bad x y m t x2 y2 m2 t2 l sv hb w hN hR hQ
  · simp only [not_or, Bool.not_eq_false] at hb
    exact iVWiden_some x y m t x2 y2 m2 t2 l sv hb.1 hb.2 w hs hN hR hQ
end Go.Proofs.YthbbgkpkijlclaaDoor.num
namespace Go.Proofs.YthbbgkpkijlclaaDoor.fnExactValWiden
open Go.ChangeShapes Go.WideShapes Go.ChangeAt Go.RowKit Go.Proofs.YthbbgkpkijlclaaDoor.num
set_option linter.unusedVariables false

/-- The variables that the row lists. -/
abbrev laid : List (String × DataW Unit) := Rows.fnExactValWidenRow.laid
/-- The door's own heap meets the condition. -/
theorem door_met (os : Os) (args : Array Value) : laidMetH Tryd.prog laid ((World.doorLaid Tryd.prog 400 os).forCall (fun _ _ => 0) ⟨#[], args, []⟩).memory :=
  laidMetH_of_parts3 (fuel := 8) (laidMet_of_run' 8 (by kernel_rfl) (by kernel_rfl)) (by kernel_rfl) (by kernel_rfl)
theorem laid_of {W : World} (h : laidMetH Tryd.prog laid W) : Gn W ∧ Gv W 1 (1, 0) ∧ Gv W 2 (1, 0) := by
  rw [MakeChecks.laidMetH_plain _ _ _ (by kernel_rfl)] at h
  exact ⟨gn_of_head (by kernel_rfl) (by kernel_rfl) h, gv_of_head (by kernel_rfl) (by kernel_rfl) (laidMet.tail h), gv_of_headQ (by kernel_rfl) (by kernel_rfl) (laidMet.tail (laidMet.tail h))⟩
set_option maxRecDepth 100000 in
set_option maxHeartbeats 4000000 in
theorem walk (x y m t x2 y2 m2 t2 : Int) (a : Option Addr) (cap : Nat) (l : List Int) (w : World) (hs : rws.Ints 0 w (.slice a l.length cap) l) (hN : Gn w) (hR : Gv w 1 (1, 0)) (hQ : Gv w 2 (1, 0)) :
    Calls Tryd.prog 12 #[.agg #[.int .i64 x, .int .i64 y, .int .i64 m, .int .i64 t], .agg #[.int .i64 x2, .int .i64 y2, .int .i64 m2, .int .i64 t2], .slice a l.length cap] w fun e w' => e = .returned (.bool true) ∧ Below w.heap.size w w' := by
  obtain ⟨W, hW, H⟩ : ∃ W, W = (w.alloc (.cells #[.int .i64 x, .int .i64 y, .int .i64 m, .int .i64 t] 56)).alloc (.cells #[.int .i64 x2, .int .i64 y2, .int .i64 m2, .int .i64 t2] 56) ∧ Hd w [(w.heap.size + 1, 0, .int .i64 x2), (w.heap.size + 1, 1, .int .i64 y2), (w.heap.size + 1, 2, .int .i64 m2), (w.heap.size + 1, 3, .int .i64 t2), (w.heap.size, 0, .int .i64 x), (w.heap.size, 1, .int .i64 y), (w.heap.size, 2, .int .i64 m), (w.heap.size, 3, .int .i64 t)] W := ⟨_, rfl, by
    have h := (((Hd.start w).box4 (.int .i64 x) (.int .i64 y) (.int .i64 m) (.int .i64 t) 56).box4 (.int .i64 x2) (.int .i64 y2) (.int .i64 m2) (.int .i64 t2) 56)
    simp only [size_alloc1] at h
    exact h⟩
  by_cases hlen : 1048576 < l.length
  · go_enter Tryd.func12, Tryd.ntmps12
    go_wp2
    go_ret
    exact ⟨rfl, ((Below.refl _ _).alloc (Nat.le_refl _) _).alloc (by simp) _⟩
  replace hlen : l.length ≤ 1048576 := by omega
  have hc2 : cap ≤ 9223372036854775807 := by
    obtain ⟨_, _, e, _, hm⟩ := hs.shape
    cases e
    exact hm
  go_enter Tryd.func12, Tryd.ntmps12
  go_wp2_with fail
  rw [← hW]
  clear hW
  have c0 := H.get (b := w.heap.size) (o := 0) (v := .int .i64 x) (by simp)
  have c1 := H.get (b := w.heap.size) (o := 1) (v := .int .i64 y) (by simp)
  have c2 := H.get (b := w.heap.size) (o := 2) (v := .int .i64 m) (by simp)
  have c3 := H.get (b := w.heap.size) (o := 3) (v := .int .i64 t) (by simp)
  have c4 := H.get (b := w.heap.size + 1) (o := 0) (v := .int .i64 x2) (by simp)
  have c5 := H.get (b := w.heap.size + 1) (o := 1) (v := .int .i64 y2) (by simp)
  have c6 := H.get (b := w.heap.size + 1) (o := 2) (v := .int .i64 m2) (by simp)
  have c7 := H.get (b := w.heap.size + 1) (o := 3) (v := .int .i64 t2) (by simp)
  have l0 := H.lt (b := w.heap.size) (o := 0) (v := .int .i64 x) (by simp)
  have l1 := H.lt (b := w.heap.size + 1) (o := 0) (v := .int .i64 x2) (by simp)
  go_cut [7] from 7 (fun t7 wx => ∃ g, t7 = .pointer (some ⟨g, 0, none⟩) ∧ w.heap.size + 1 < g ∧ Hd w ((g, 0, .int .i64 (widen10 (x, y, m, t) (x2, y2, m2, t2) l).1) :: (g, 1, .int .i64 (widen10 (x, y, m, t) (x2, y2, m2, t2) l).2.1) :: (g, 2, .int .i64 (widen10 (x, y, m, t) (x2, y2, m2, t2) l).2.2.1) :: (g, 3, .int .i64 (widen10 (x, y, m, t) (x2, y2, m2, t2) l).2.2.2) :: [(w.heap.size + 1, 0, .int .i64 x2), (w.heap.size + 1, 1, .int .i64 y2), (w.heap.size + 1, 2, .int .i64 m2), (w.heap.size + 1, 3, .int .i64 t2), (w.heap.size, 0, .int .i64 x), (w.heap.size, 1, .int .i64 y), (w.heap.size, 2, .int .i64 m), (w.heap.size, 3, .int .i64 t)]) wx)
  case first =>
    go_region_held3 (fun w' => w'.cell? ⟨w.heap.size, 0, none⟩ = some (.int .i64 x) ∧ w'.cell? ⟨w.heap.size, 1, none⟩ = some (.int .i64 y) ∧ w'.cell? ⟨w.heap.size, 2, none⟩ = some (.int .i64 m) ∧ w'.cell? ⟨w.heap.size, 3, none⟩ = some (.int .i64 t) ∧ w'.cell? ⟨w.heap.size + 1, 0, none⟩ = some (.int .i64 x2) ∧ w'.cell? ⟨w.heap.size + 1, 1, none⟩ = some (.int .i64 y2) ∧ w'.cell? ⟨w.heap.size + 1, 2, none⟩ = some (.int .i64 m2) ∧ w'.cell? ⟨w.heap.size + 1, 3, none⟩ = some (.int .i64 t2)) (first | exact ⟨c0, c1, c2, c3, c4, c5, c6, c7⟩ | (simp [go_sem, *]; done)) (first | (go_at_call 48; refine (toVal_xy _ _ _ _ _).mono ?_; rintro e w' ⟨rfl, hb⟩; (first | (replace H := H.call hb) | (replace H := (H.drewN 1).call hb) | (replace H := (H.box4 _ _ _ _ _).call hb) | (replace H := ((H.box4 _ _ _ _ _).drewN 1).call hb) | (replace H := ((H.drewN 1).box4 _ _ _ _ _).call hb)); obtain ⟨n0, ⟨n1, n2, n3, n4⟩, n5, n6, n7, n8⟩ := H.topF; have c0 := H.get (b := w.heap.size) (o := 0) (v := .int .i64 x) (by simp); have c1 := H.get (b := w.heap.size) (o := 1) (v := .int .i64 y) (by simp); have c2 := H.get (b := w.heap.size) (o := 2) (v := .int .i64 m) (by simp); have c3 := H.get (b := w.heap.size) (o := 3) (v := .int .i64 t) (by simp); have c4 := H.get (b := w.heap.size + 1) (o := 0) (v := .int .i64 x2) (by simp); have c5 := H.get (b := w.heap.size + 1) (o := 1) (v := .int .i64 y2) (by simp); have c6 := H.get (b := w.heap.size + 1) (o := 2) (v := .int .i64 m2) (by simp); have c7 := H.get (b := w.heap.size + 1) (o := 3) (v := .int .i64 t2) (by simp); have l0 := H.lt (b := w.heap.size) (o := 0) (v := .int .i64 x) (by simp); have l1 := H.lt (b := w.heap.size + 1) (o := 0) (v := .int .i64 x2) (by simp)) | (go_at_call 50; refine (rws.toI_any l _ _ (by first | exact hs.below H.below | exact hs.below (H.drewN 1).below | exact hs.below (H.box4 _ _ _ _ _).below | exact hs.below ((H.box4 _ _ _ _ _).drewN 1).below) hlen).mono ?_; rintro e w' ⟨⟨v', rfl, hr⟩, hb⟩; (first | (replace H := H.call hb) | (replace H := (H.drewN 1).call hb) | (replace H := (H.box4 _ _ _ _ _).call hb) | (replace H := ((H.box4 _ _ _ _ _).drewN 1).call hb) | (replace H := ((H.drewN 1).box4 _ _ _ _ _).call hb)); obtain ⟨n0, ⟨n1, n2, n3, n4⟩, n5, n6, n7, n8⟩ := H.topF; have c0 := H.get (b := w.heap.size) (o := 0) (v := .int .i64 x) (by simp); have c1 := H.get (b := w.heap.size) (o := 1) (v := .int .i64 y) (by simp); have c2 := H.get (b := w.heap.size) (o := 2) (v := .int .i64 m) (by simp); have c3 := H.get (b := w.heap.size) (o := 3) (v := .int .i64 t) (by simp); have c4 := H.get (b := w.heap.size + 1) (o := 0) (v := .int .i64 x2) (by simp); have c5 := H.get (b := w.heap.size + 1) (o := 1) (v := .int .i64 y2) (by simp); have c6 := H.get (b := w.heap.size + 1) (o := 2) (v := .int .i64 m2) (by simp); have c7 := H.get (b := w.heap.size + 1) (o := 3) (v := .int .i64 t2) (by simp); have l0 := H.lt (b := w.heap.size) (o := 0) (v := .int .i64 x) (by simp); have l1 := H.lt (b := w.heap.size + 1) (o := 0) (v := .int .i64 x2) (by simp); have HV := hr.seq (ok := fun _ => True) (fun _ => rfl) (fun _ _ _ => trivial)) | (go_at_call 36; refine (sVWiden_xy _ _ _ _ _ _ _ _ l _ _ (by first | exact HV | exact HV.below (Below.refl _ _) | exact HV.below (rws.below1 _ _))).mono ?_; rintro e w' ⟨rfl, hb⟩; (first | (replace H := H.call hb) | (replace H := (H.drewN 1).call hb) | (replace H := (H.box4 _ _ _ _ _).call hb) | (replace H := ((H.box4 _ _ _ _ _).drewN 1).call hb) | (replace H := ((H.drewN 1).box4 _ _ _ _ _).call hb)); obtain ⟨n0, ⟨n1, n2, n3, n4⟩, n5, n6, n7, n8⟩ := H.topF; have c0 := H.get (b := w.heap.size) (o := 0) (v := .int .i64 x) (by simp); have c1 := H.get (b := w.heap.size) (o := 1) (v := .int .i64 y) (by simp); have c2 := H.get (b := w.heap.size) (o := 2) (v := .int .i64 m) (by simp); have c3 := H.get (b := w.heap.size) (o := 3) (v := .int .i64 t) (by simp); have c4 := H.get (b := w.heap.size + 1) (o := 0) (v := .int .i64 x2) (by simp); have c5 := H.get (b := w.heap.size + 1) (o := 1) (v := .int .i64 y2) (by simp); have c6 := H.get (b := w.heap.size + 1) (o := 2) (v := .int .i64 m2) (by simp); have c7 := H.get (b := w.heap.size + 1) (o := 3) (v := .int .i64 t2) (by simp); have l0 := H.lt (b := w.heap.size) (o := 0) (v := .int .i64 x) (by simp); have l1 := H.lt (b := w.heap.size + 1) (o := 0) (v := .int .i64 x2) (by simp)))
    all_goals
      go_wp2_with fail
      go_meet
      first
        | exact ⟨_, rfl, by omega, H.box4 _ _ _ _ _⟩
        | exact ⟨_, rfl, by omega, H.setF (by omega) (by simp; omega) _ _ _ _⟩
  case rest =>
    obtain ⟨g, rfl, hg, H'⟩ := hcut
    clear H c0 c1 c2 c3 c4 c5 c6 c7 l0 l1
    have H := H'
    clear H'
    have hI := fun base ok sv w (hs : rws.Seq 1 rws.ci ok base w sv l) (hN : Gn w) (hR : Gv w 1 none8) (hQ : Gq w) => iVWiden_xy (base := base) (ok := ok) x y m t x2 y2 m2 t2 l sv w hs hN hR hQ
    generalize widen10 (x, y, m, t) (x2, y2, m2, t2) l = q at *
    go_wp2_with (go_at_call 50; refine (rws.toI_any l _ _ (hs.below H.below) hlen).mono ?_; rintro e wB ⟨⟨v', rfl, hr⟩, hb⟩; replace H := H.call hb; have HX := hr.seq (ok := fun _ => True) (fun _ => rfl) (fun _ _ _ => trivial); have HB := Hd.start wB; clear hr hb)
    apply wp_region_free1 7 6 9 (.cells #[.int .i64 0, .int .i64 0, .int .i64 0, .int .i64 0] 30) (Nat.le_of_ble_eq_true rfl) (by kernel_rfl) (by kernel_rfl) (by kernel_rfl) (by kernel_rfl) (by intro o ho; have ho' := Option.some.inj ho; subst ho'; intro a w; kernel_rfl)
    case hq =>
      intro W hWB
      replace H := H.call hWB
      have hN1 := hN.below H.below
      have hR1 := hR.below H.below
      have hQ1 := Gv.below hQ H.below
      have HX1 := HX.below (HB.call hWB).below
      have k0 := fun p : Over _ => H.over (b := g) (o := 0) (v := .int .i64 q.1) (by simp) p
      have k1 := fun p : Over _ => H.over (b := g) (o := 1) (v := .int .i64 q.2.1) (by simp) p
      have k2 := fun p : Over _ => H.over (b := g) (o := 2) (v := .int .i64 q.2.2.1) (by simp) p
      have k3 := fun p : Over _ => H.over (b := g) (o := 3) (v := .int .i64 q.2.2.2) (by simp) p
      have k4 := fun p : Over _ => H.over (b := w.heap.size + 1) (o := 0) (v := .int .i64 x2) (by simp) p
      have k5 := fun p : Over _ => H.over (b := w.heap.size + 1) (o := 1) (v := .int .i64 y2) (by simp) p
      have k6 := fun p : Over _ => H.over (b := w.heap.size + 1) (o := 2) (v := .int .i64 m2) (by simp) p
      have k7 := fun p : Over _ => H.over (b := w.heap.size + 1) (o := 3) (v := .int .i64 t2) (by simp) p
      have k8 := fun p : Over _ => H.over (b := w.heap.size) (o := 0) (v := .int .i64 x) (by simp) p
      have k9 := fun p : Over _ => H.over (b := w.heap.size) (o := 1) (v := .int .i64 y) (by simp) p
      have k10 := fun p : Over _ => H.over (b := w.heap.size) (o := 2) (v := .int .i64 m) (by simp) p
      have k11 := fun p : Over _ => H.over (b := w.heap.size) (o := 3) (v := .int .i64 t) (by simp) p
      simp only [rep, List.take_succ_cons, List.take_zero, List.contains_cons, List.contains_nil, Nat.reduceBEq, Bool.or_false, Bool.false_eq_true, ↓reduceIte, Nat.reduceAdd, Nat.zero_add, tv, tw, Bool.or_self, beq_self_eq_true]
      repeat (go_big_quiet_step (first | (go_at_call 48; rename_i p; refine (toVal_xy _ _ _ _ _).mono ?_; rintro e' w' ⟨rfl, hb1⟩; exact ⟨rfl, p.next hb1⟩) | (go_at_call 33; rename_i p; refine (hI _ _ _ _ (HX1.below p.below) (hN1.over p) (hR1.over p) (Gv.over hQ1 p)).mono ?_; rintro e' w' ⟨rfl, hb1⟩; exact ⟨rfl, p.next hb1⟩)))
      exact wpQuiet_nil rfl
    case hk =>
      intro w4 g1 hb hg0 hg1 hg
      simp only [List.drop_succ_cons, List.drop_zero, Act.put, ptr0, List.setIfInBounds_toArray, List.set_cons_succ, List.set_cons_zero]
      have hl0 := H.lt (b := g) (o := 0) (v := .int .i64 q.1) (by simp)
      have hl1 := H.lt (b := w.heap.size + 1) (o := 0) (v := .int .i64 x2) (by simp)
      have hl2 := H.lt (b := w.heap.size) (o := 0) (v := .int .i64 x) (by simp)
      have H1 := (H.call hb).new4 hg1 hg
      have dc0 := H1.get (b := g1) (o := 0) (v := .int .i64 0) (by simp)
      have dc1 := H1.get (b := g1) (o := 1) (v := .int .i64 0) (by simp)
      have dc2 := H1.get (b := g1) (o := 2) (v := .int .i64 0) (by simp)
      have dc3 := H1.get (b := g1) (o := 3) (v := .int .i64 0) (by simp)
      have dz0 := H1.fz (b := g1) (o := 0) (v := .int .i64 0) (by simp)
      have dz1 := H1.fz (b := g1) (o := 1) (v := .int .i64 0) (by simp)
      have dz2 := H1.fz (b := g1) (o := 2) (v := .int .i64 0) (by simp)
      have dz3 := H1.fz (b := g1) (o := 3) (v := .int .i64 0) (by simp)
      obtain ⟨w5, hw5, H5⟩ : ∃ W5, W5 = ((((w4.setCell ⟨g1, 0, none⟩ (.int .i64 q.1)).setCell ⟨g1, 1, none⟩ (.int .i64 q.2.1)).setCell ⟨g1, 2, none⟩ (.int .i64 q.2.2.1)).setCell ⟨g1, 3, none⟩ (.int .i64 q.2.2.2)) ∧ Hd w [(g1, 0, .int .i64 q.1), (g1, 1, .int .i64 q.2.1), (g1, 2, .int .i64 q.2.2.1), (g1, 3, .int .i64 q.2.2.2), (g, 0, .int .i64 q.1), (g, 1, .int .i64 q.2.1), (g, 2, .int .i64 q.2.2.1), (g, 3, .int .i64 q.2.2.2), (w.heap.size + 1, 0, .int .i64 x2), (w.heap.size + 1, 1, .int .i64 y2), (w.heap.size + 1, 2, .int .i64 m2), (w.heap.size + 1, 3, .int .i64 t2), (w.heap.size, 0, .int .i64 x), (w.heap.size, 1, .int .i64 y), (w.heap.size, 2, .int .i64 m), (w.heap.size, 3, .int .i64 t)] W5 := ⟨_, rfl, by
        exact Hd.setF H1 (by omega) (by simp; omega) (.int .i64 q.1) (.int .i64 q.2.1) (.int .i64 q.2.2.1) (.int .i64 q.2.2.2)⟩
      have hx0_0 : g ≠ g1 := by omega
      have hy0_0 := H1.get (b := g) (o := 0) (v := .int .i64 q.1) (by simp)
      have hy0_1 := H1.get (b := g) (o := 1) (v := .int .i64 q.2.1) (by simp)
      have hy0_2 := H1.get (b := g) (o := 2) (v := .int .i64 q.2.2.1) (by simp)
      have hy0_3 := H1.get (b := g) (o := 3) (v := .int .i64 q.2.2.2) (by simp)
      have hb9 := hb
      clear hb hl0 hl1 hl2
      go_simp
      have HB5 : Hd wB [] w5 := by
        rw [hw5]
        exact ((((HB.call hb9).setOther (by omega) (by simp) _).setOther (by omega) (by simp) _).setOther (by omega) (by simp) _).setOther (by omega) (by simp) _
      go_wp2_with (first | (go_at_call 47; rw [← hw5]; clear hw5 H H1; have H := H5; clear H5; refine (eqVal_xy _ _ _ _ _ _ _ _ _).mono ?_; rintro e w' ⟨rfl, hb⟩; rw [show (decide (q.1 = q.1) && (decide (q.2.1 = q.2.1) && (decide (q.2.2.1 = q.2.2.1) && decide (q.2.2.2 = q.2.2.2)))) = true by simp]; replace H := H.call hb; replace HB5 := HB5.call hb; clear hb) | (go_at_call 50; refine (rws.toI_any l _ _ (hs.below H.below) hlen).mono ?_; rintro e w' ⟨⟨v2, rfl, hr⟩, hb⟩; replace H := H.call hb; replace HB5 := HB5.call hb; have HY := hr.seq (ok := fun _ => True) (fun _ => rfl) (fun _ _ _ => trivial)) | (go_at_call 51; refine (rws.eqI_same l _ _ _ (HX.below HB5.below) HY).mono ?_; rintro e w' ⟨rfl, hb⟩; replace H := H.call hb))
      go_ret
      exact ⟨rfl, H.below⟩
end Go.Proofs.YthbbgkpkijlclaaDoor.fnExactValWiden
namespace Go.Proofs.YthbbgkpkijlclaaDoor.fnExactValWiden
open Go.ChangeShapes Go.WideShapes Go.ChangeAt Go.RowKit Go.Proofs.YthbbgkpkijlclaaDoor.num
set_option linter.unusedVariables false

set_option maxRecDepth 100000 in
theorem lifted (os : Os) (started : os.Started) (H : Type) (enc : TypeId × Value → H) :
    ReturnsInHanded {} Tryd.checked os 12 .any (fun w args => (Rows.fnExactValWidenSpec.pre enc Tryd.prog Tryd.f12 [] false w args ∧ laidMetH Tryd.prog laid w) ∧ sizedMet enc Tryd.prog Tryd.f12 (OpenSpec.ofChange Rows.fnExactValWidenSpec) false w args)
      (Rows.fnExactValWidenSpec.post enc Tryd.prog Tryd.f12 false true false false) := by
  refine returnsInHanded_of_change_and (C := Tryd.checked) (X := fun w _ => laidMetH Tryd.prog laid w) (fun _ _ _ hh h => h.of_heap hh) own started (by kernel_rfl) Tryd.func12
    (ChangeSpec.witness_shaped (enc := enc) (C := Tryd.checked) (os := os) (X := fun w _ => laidMetH Tryd.prog laid w) false (World.doorLaid Tryd.prog 400 os) #[.agg #[.int .i64 0, .int .i64 0, .int .i64 0, .int .i64 0], .agg #[.int .i64 0, .int .i64 0, .int .i64 0, .int .i64 0], .slice none 0 0] 8 rfl (World.shaped_of_RefB (by kernel_rfl) (by kernel_rfl)) (by kernel_rfl) (by kernel_rfl) (by kernel_rfl) (door_met os _)) ?_
  intro W base args ds gs before hval0 hW _ _ hL _
  have hval : ∀ (j : Nat) t v, Tryd.f12.params[j]? = some t → args[j]? = some v → Value.okWide Tryd.prog W .any base t v := hval0
  have hW' := hW
  obtain ⟨p, q, hA0, hV0, rfl, hfz, hnd⟩ := hW
  have hA : DataW.TrodAll enc Tryd.prog W 0 (fun _ => true) true Tryd.f12.params.toList args.toList ds p := hA0
  have hV : DataW.TrodVars enc Tryd.prog W (fun _ => true) Rows.fnExactValWidenSpec.vars gs q := hV0
  rw [Tryd.params12] at hA hval
  obtain ⟨v0, vs0, d0, ds0, p0, q0, hargs, rfl, rfl, h0, r0⟩ := trodAll_cons hA
  obtain ⟨v1, vs1, d1, ds1, p1, q1, hvs0, rfl, rfl, h1, r1⟩ := trodAll_cons r0
  obtain ⟨v2, vs2, d2, ds2, p2, q2, hvs1, rfl, rfl, h2, r2⟩ := trodAll_cons r1
  obtain ⟨rfl, rfl, rfl⟩ := trodAll_nil r2
  obtain rfl : args = #[v0, v1, v2] := by cases args; simp_all
  have k0 := h0
  have lt0 : ∀ x ∈ p0, x.block < W.heap.size := by obtain ⟨m, hm⟩ := k0; exact DataW.trod_lt m _ _ _ hm
  obtain ⟨x0, y0, m0, t0, rfl⟩ := arg_four (okWide_struct Tryd.underlying56 (hval 0 56 v0 rfl rfl)) h0
  have k1 := h1
  have lt1 : ∀ x ∈ p1, x.block < W.heap.size := by obtain ⟨m, hm⟩ := k1; exact DataW.trod_lt m _ _ _ hm
  obtain ⟨x1, y1, m1, t1, rfl⟩ := arg_four (okWide_struct Tryd.underlying56 (hval 1 56 v1 rfl rfl)) h1
  have k2 := h2
  have lt2 : ∀ x ∈ p2, x.block < W.heap.size := by obtain ⟨m, hm⟩ := k2; exact DataW.trod_lt m _ _ _ hm
  obtain ⟨a2, len2, cap2, rfl⟩ := okWide_slice Tryd.underlying39 (hval 2 39 v2 rfl rfl)
  obtain ⟨z2, w2⟩ : ∃ z, rws.Ints 0 W (.slice a2 len2 cap2) z := by
    obtain ⟨fuel, hf⟩ := h2
    exact rws.ints_of (by simpa [Value.cells] using hf)
  obtain rfl : len2 = z2.length := by
    obtain ⟨_, _, e, _, _⟩ := w2.shape
    cases e
    rfl
  have hL' := laid_of hL
  clear hA0 hval0
  refine (walk x0 y0 m0 t0 x1 y1 m1 t1 a2 cap2 z2 W w2 hL'.1 hL'.2.1 hL'.2.2).mono fun e W' ⟨he, bel⟩ => ?_
  subst he
  have kV := Below.trodVars laidOut bel (ns := Rows.fnExactValWidenSpec.vars) (by kernel_rfl) hV
  have hlen : gs.length = 3 := vars_len hV
  match gs, hlen with
  | [g0, g1, g2], _ =>
    exact ⟨_, rfl, _, _, _, [], _, _, hW', trodAll_mk1 (shut_bool Tryd.underlying4 _), (trodAll_cons_mk (Below.trod laidOut (by kernel_rfl) (of_decide_eq_true (by kernel_rfl)) k0 bel lt0) (trodAll_cons_mk (Below.trod laidOut (by kernel_rfl) (of_decide_eq_true (by kernel_rfl)) k1 bel lt1) (trodAll_cons_mk (Below.trod laidOut (by kernel_rfl) (of_decide_eq_true (by kernel_rfl)) k2 bel lt2) trodAll_mk0))), kV, bel.frame _, fun h => by cases h⟩

theorem k0 : (Rows.fnExactValWidenRow.wf (OpenSpec.ofChange Rows.fnExactValWidenSpec)) = true := by kernel_rfl
theorem k3 : (Tryd.f12.params.all (Tryd.pinned.checked.prog.readableRec ·)) = true := by kernel_rfl
theorem k4 : (namedTie Tryd.pinned.checked.prog Rows.fnExactValWidenRow.named Rows.fnExactValWidenSpec.vars) = true := by kernel_rfl
theorem k5 : ((Rows.fnExactValWidenRow.stops == [])) = true := by kernel_rfl
theorem k7 : ((Rows.fnExactValWidenRow.knobs == [])) = true := by kernel_rfl
theorem k9 : ((Rows.fnExactValWidenRow.inPlace == Tryd.pinned.checked.prog.inPlace 12)) = true := by kernel_rfl
theorem k10 : ((Rows.fnExactValWidenRow.unfollowed == Tryd.pinned.checked.prog.unfollowed 12)) = true := by kernel_rfl
theorem k11 : ((Rows.fnExactValWidenRow.recurses == Tryd.pinned.checked.prog.recurses 12)) = true := by kernel_rfl
theorem k12 : ((Rows.fnExactValWidenRow.named == Tryd.pinned.checked.prog.varsNamed 12)) = true := by kernel_rfl
theorem k13 : ((Rows.fnExactValWidenRow.maps == (Tryd.f12.params.toList ++ Rows.fnExactValWidenSpec.plain.varTypes Tryd.pinned.checked.prog).any (Tryd.pinned.checked.prog.mapsRec ·))) = true := by kernel_rfl
theorem k14 : ((Rows.fnExactValWidenRow.ifaces == (Tryd.f12.params.toList ++ Rows.fnExactValWidenSpec.plain.varTypes Tryd.pinned.checked.prog).any (Tryd.pinned.checked.prog.ifacesRec ·))) = true := by kernel_rfl
theorem k15 : ((Rows.fnExactValWidenRow.mapsOut == Tryd.pinned.checked.prog.mapsAmong Tryd.f12.resultTypes.toList)) = true := by kernel_rfl
theorem k16 : ((Rows.fnExactValWidenRow.loops == (Tryd.f12.params.toList ++ Rows.fnExactValWidenSpec.plain.varTypes Tryd.pinned.checked.prog).any (Tryd.pinned.checked.prog.loopsFrom ·))) = true := by kernel_rfl
theorem k17 : ((Rows.fnExactValWidenRow.wideKeys == (Tryd.f12.params.toList ++ Rows.fnExactValWidenSpec.plain.varTypes Tryd.pinned.checked.prog ++ Tryd.f12.resultTypes.toList).any (Tryd.pinned.checked.prog.wideKeysFrom ·))) = true := by kernel_rfl
theorem k18 : (Rows.fnExactValWidenSpec.vars.all (Tryd.pinned.checked.prog.varReadable ·)) = true := by kernel_rfl
theorem k19 : (Tryd.f12.resultTypes.all (fun t => Tryd.pinned.checked.prog.readableRec t && decide (t < Tryd.pinned.checked.prog.types.size))) = true := by kernel_rfl
theorem k20 : ((Rows.fnExactValWidenRow.ifacesOut == Tryd.f12.resultTypes.toList.any (Tryd.pinned.checked.prog.ifacesRec ·))) = true := by kernel_rfl
theorem k21 : ((Rows.fnExactValWidenRow.loopsOut == Tryd.f12.resultTypes.toList.any (Tryd.pinned.checked.prog.loopsFrom ·))) = true := by kernel_rfl
theorem k22 : ((Rows.fnExactValWidenRow.plainKeys == Tryd.pinned.checked.prog.plainKeys)) = true := by kernel_rfl
theorem k23 : (Rows.fnExactValWidenRow.shortTexts.isNone) = true := by kernel_rfl
theorem k26 : ((Rows.fnExactValWidenRow.lifted == Tryd.pinned.checked.prog.liftsFinal)) = true := by kernel_rfl
theorem k27 : ((Tryd.pinned.checked.prog.make == some Rows.fnExactValWidenRow.make)) = true := by kernel_rfl
theorem k28 : ((Rows.fnExactValWidenRow.kinds == (if Rows.fnExactValWidenRow.domain.isEmpty then [] else Tryd.f12.params.toList.map fun t => match Tryd.pinned.checked.prog.underlying t with | some (.int k) => some k | _ => none))) = true := by kernel_rfl
theorem k29 : ((Rows.fnExactValWidenRow.pinned == Rows.fnExactValWidenRow.pinnedBy)) = true := by kernel_rfl
theorem k30 : ((Rows.fnExactValWidenRow.veiled == (Tryd.f12.params.toList ++ Rows.fnExactValWidenSpec.plain.varTypes Tryd.pinned.checked.prog ++ Tryd.f12.resultTypes.toList).any (Tryd.pinned.checked.prog.veiledRec ·))) = true := by kernel_rfl
theorem k31 : (Rows.fnExactValWidenRow.veiledFits Tryd.pinned.checked.prog Tryd.f12.params.toList (Tryd.f12.params.toList ++ Rows.fnExactValWidenSpec.plain.varTypes Tryd.pinned.checked.prog ++ Tryd.f12.resultTypes.toList)) = true := by kernel_rfl
set_option maxRecDepth 100000 in
set_option maxHeartbeats 4000000 in
theorem closed : joinedFacts Tryd.pinned.checked.prog 12 Tryd.f12 Rows.fnExactValWidenSpec Rows.fnExactValWidenRow = true := by
  unfold joinedFacts
  exact Go.Proofs.YthbbgkpkijlclaaDoor.num.and2 (Go.Proofs.YthbbgkpkijlclaaDoor.num.and2 (Go.Proofs.YthbbgkpkijlclaaDoor.num.and2 (Go.Proofs.YthbbgkpkijlclaaDoor.num.and2 (Go.Proofs.YthbbgkpkijlclaaDoor.num.and2 (Go.Proofs.YthbbgkpkijlclaaDoor.num.and2 (Go.Proofs.YthbbgkpkijlclaaDoor.num.and2 (Go.Proofs.YthbbgkpkijlclaaDoor.num.and2 (Go.Proofs.YthbbgkpkijlclaaDoor.num.and2 (Go.Proofs.YthbbgkpkijlclaaDoor.num.and2 (Go.Proofs.YthbbgkpkijlclaaDoor.num.and2 (Go.Proofs.YthbbgkpkijlclaaDoor.num.and2 (Go.Proofs.YthbbgkpkijlclaaDoor.num.and2 (Go.Proofs.YthbbgkpkijlclaaDoor.num.and2 (Go.Proofs.YthbbgkpkijlclaaDoor.num.and2 (Go.Proofs.YthbbgkpkijlclaaDoor.num.and2 (Go.Proofs.YthbbgkpkijlclaaDoor.num.and2 (Go.Proofs.YthbbgkpkijlclaaDoor.num.and2 (Go.Proofs.YthbbgkpkijlclaaDoor.num.and2 (Go.Proofs.YthbbgkpkijlclaaDoor.num.and2 (Go.Proofs.YthbbgkpkijlclaaDoor.num.and2 (Go.Proofs.YthbbgkpkijlclaaDoor.num.and2 (Go.Proofs.YthbbgkpkijlclaaDoor.num.and2 (Go.Proofs.YthbbgkpkijlclaaDoor.num.and2 (Go.Proofs.YthbbgkpkijlclaaDoor.num.and2 (Go.Proofs.YthbbgkpkijlclaaDoor.num.and2 (Go.Proofs.YthbbgkpkijlclaaDoor.num.and2 (Go.Proofs.YthbbgkpkijlclaaDoor.num.and2 (Go.Proofs.YthbbgkpkijlclaaDoor.num.and2 (Go.Proofs.YthbbgkpkijlclaaDoor.num.and2 (Go.Proofs.YthbbgkpkijlclaaDoor.num.and2 (k0) Go.Proofs.YthbbgkpkijlclaaDoor.num.kP1) Go.Proofs.YthbbgkpkijlclaaDoor.num.kP2) k3) k4) k5) Go.Proofs.YthbbgkpkijlclaaDoor.num.kP6) k7) Go.Proofs.YthbbgkpkijlclaaDoor.num.kP8) k9) k10) k11) k12) k13) k14) k15) k16) k17) k18) k19) k20) k21) k22) k23) Go.Proofs.YthbbgkpkijlclaaDoor.num.kP24) Go.Proofs.YthbbgkpkijlclaaDoor.num.kP25) k26) k27) k28) k29) k30) k31
theorem wfT : Rows.fnExactValWidenRow.wfByText (OpenSpec.ofChange Rows.fnExactValWidenSpec) = true := by kernel_rfl
theorem goesT : false = Rows.fnExactValWidenRow.goesBy Tryd.pinned.checked.prog := by kernel_rfl
theorem mainT : Tryd.pinned.checked.prog.mainIs = some (Rows.fnExactValWidenCard.stood.harness.1, Rows.fnExactValWidenCard.stood.harness.2.toList) := by kernel_rfl
theorem over : Rows.FnExactValWidenSaid :=
  OpenClaim.holds_of_wide 12 Tryd.f12 rfl rfl rfl rfl rfl rfl rfl ⟨rfl, rfl, rfl, rfl, rfl⟩ rfl rfl rfl rfl rfl (by kernel_rfl) Tryd.func12 closed
    (of_decide_eq_true (by kernel_rfl)) (by unfold Func.isWrapper; first | (rw [if_pos (by decide +kernel)]; kernel_rfl) | (rw [if_neg (by decide +kernel)]; exact ⟨rfl, rfl⟩))
    (fun os started H enc _ => lifted os started H enc)
end Go.Proofs.YthbbgkpkijlclaaDoor.fnExactValWiden
namespace Go.Proofs.YthbbgkpkijlclaaDoor
open Go
/-- THE STATEMENT: the tied card. -/
theorem fnExactValWiden_holds : Rows.FnExactValWidenCardSaid :=
  Claim7.holds_tied_plain_at .later [] [.data, .data, .data] true Rows.fnExactValWidenCard.stood.harness true
    fnExactValWiden.over (fun _ h => by cases h) fnExactValWiden.wfT (fun _ h => by cases h) fnExactValWiden_row_tie rfl ⟨rfl, rfl⟩ fnExactValWiden.mainT rfl
    (fun f fn hf hfn => by
      obtain rfl : f = 12 := Option.some.inj ((show Tryd.prog.funcNamed Rows.fnExactValWidenRow.func = some 12 by kernel_rfl).symm.trans hf) |>.symm
      obtain rfl : fn = Tryd.f12 := (Option.some.inj (Tryd.func12.symm.trans hfn)).symm
      exact ⟨Go.Proofs.YthbbgkpkijlclaaDoor.num.looksT, fun j t ht => by
        rw [Tryd.params12] at ht
        have hm : t ∈ [56, 56, 39] := by simpa using Array.mem_of_getElem? ht
        have hall : ([56, 56, 39].all fun u => !Tryd.prog.wantsStandIn u) = true := by kernel_rfl
        exact (show Tryd.prog.wantsStandIn t = false by simpa using List.all_eq_true.1 hall t hm)⟩)
    fnExactValWiden.goesT
#print axioms fnExactValWiden_holds
end Go.Proofs.YthbbgkpkijlclaaDoor
