/-
  The program's RangeCmp.
-/
import Derived.Test.YtjpiihjgbllieaaDoorTn
namespace Go.Proofs.YtjpiihjgbllieaaDoor.num
open Go.ChangeShapes Go.WideShapes Go.ChangeAt Go.RowKit
set_option linter.unusedVariables false

theorem Hd.two2 (w : World) (x y x2 y2 a b c d : Value) (t t2 t3 t4 : TypeId) : ∃ W, W = (((w.alloc (.cells #[x, y] t)).alloc (.cells #[x2, y2] t2)).alloc (.cells #[a, b] t3)).alloc (.cells #[c, d] t4) ∧
    Hd w [(w.heap.size + 3, 0, c), (w.heap.size + 3, 1, d), (w.heap.size + 2, 0, a), (w.heap.size + 2, 1, b), (w.heap.size + 1, 0, x2), (w.heap.size + 1, 1, y2), (w.heap.size, 0, x), (w.heap.size, 1, y)] W := by
  refine ⟨_, rfl, ?_⟩
  have h := ((((Hd.start w).box x y t).box x2 y2 t2).box a b t3).box c d t4
  rw [size_alloc1, size_alloc1, size_alloc1] at h
  exact h
theorem raw8_ok {c : Int} {a b : R8} (ha : rOk a = true) (hb : rOk b = true) : rOk (raw8 c a b).1 = true ∧ rOk (raw8 c a b).2 = true := by
  obtain ⟨h1, h2⟩ := raw8_in (c := c) ha hb
  rw [rIn_iff] at h1 h2
  exact ⟨h1.1, h2.1⟩
theorem Hd.top4 {w0 w : World} {L : List (Nat × Nat × Value)} {b : Nat} {x y z u : Value} (h : Hd w0 ((b, 0, x) :: (b, 1, y) :: (b, 2, z) :: (b, 3, u) :: L) w) :
    (b < w.heap.size ∧ w.cell? ⟨b, 0, none⟩ = some x ∧ w.cell? ⟨b, 1, none⟩ = some y ∧ w.cell? ⟨b, 2, none⟩ = some z ∧ w.cell? ⟨b, 3, none⟩ = some u) ∧ w.frozen? ⟨b, 0, none⟩ = false ∧ w.frozen? ⟨b, 1, none⟩ = false ∧ w.frozen? ⟨b, 2, none⟩ = false ∧ w.frozen? ⟨b, 3, none⟩ = false :=
  ⟨⟨h.lt (List.mem_cons_self ..), h.get (by simp), h.get (by simp), h.get (by simp), h.get (by simp)⟩, h.fz (v := x) (by simp), h.fz (v := y) (by simp), h.fz (v := z) (by simp), h.fz (v := u) (by simp)⟩
theorem Hd.set4 {w0 w : World} {L : List (Nat × Nat × Value)} {b : Nat} {x y z u : Value} (h : Hd w0 ((b, 0, x) :: (b, 1, y) :: (b, 2, z) :: (b, 3, u) :: L) w) (hb : w0.heap.size ≤ b) (hL : ∀ e ∈ L, e.1 ≠ b) (x' y' z' u' : Value) :
    Hd w0 ((b, 0, x') :: (b, 1, y') :: (b, 2, z') :: (b, 3, u') :: L) ((((w.setCell ⟨b, 0, none⟩ x').setCell ⟨b, 1, none⟩ y').setCell ⟨b, 2, none⟩ z').setCell ⟨b, 3, none⟩ u') := by
  obtain ⟨⟨hlt, c0, c1, c2, c3⟩, z0, z1, z2, z3⟩ := h.top4
  refine ⟨(((h.below.setCell (by exact hb) _).setCell (by exact hb) _).setCell (by exact hb) _).setCell (by exact hb) _, fun c o q hm => ?_⟩
  simp only [List.mem_cons, Prod.mk.injEq] at hm
  rcases hm with ⟨rfl, rfl, rfl⟩ | ⟨rfl, rfl, rfl⟩ | ⟨rfl, rfl, rfl⟩ | ⟨rfl, rfl, rfl⟩ | hm
  · exact ⟨by simpa using hlt, by simp [go_sem, *], by simpa using z0⟩
  · exact ⟨by simpa using hlt, by simp [go_sem, *], by simpa using z1⟩
  · exact ⟨by simpa using hlt, by simp [go_sem, *], by simpa using z2⟩
  · exact ⟨by simpa using hlt, by simp [go_sem, *], by simpa using z3⟩
  · have hne := hL _ hm
    obtain ⟨k1, k2, k3⟩ := h.cells c o q (by simp [hm])
    have hx : ∀ (v : World) (i : Nat) (a : Value), (v.setCell ⟨b, i, none⟩ a).cell? ⟨c, o, none⟩ = v.cell? ⟨c, o, none⟩ := fun v i a => by rw [World.cell?_setCell_other _ _ _ _ (by simp; try (intro hh; exact absurd hh hne))]
    exact ⟨by simpa using k1, by rw [hx, hx, hx, hx]; exact k2, by simpa using k3⟩
set_option maxRecDepth 100000 in
set_option maxHeartbeats 4000000 in
theorem iCmp_xy (c x y x2 y2 : Int) (w : World) (h : Gv w 1 none8) (ht : Tv w) :
    Calls Tryd.prog 40 #[.int .i64 c, .agg #[.int .i64 x, .int .i64 y], .agg #[.int .i64 x2, .int .i64 y2]] w fun e w' => e = .returned (.tuple #[(.agg #[.int .i64 ((rangeCmp c (x, y) (x2, y2)).1).1, .int .i64 ((rangeCmp c (x, y) (x2, y2)).1).2]), (.agg #[.int .i64 ((rangeCmp c (x, y) (x2, y2)).2).1, .int .i64 ((rangeCmp c (x, y) (x2, y2)).2).2])]) ∧ Below w.heap.size w w' := by
  obtain ⟨W, hW, H⟩ := Hd.two2 w (.int .i64 x) (.int .i64 y) (.int .i64 x2) (.int .i64 y2) (.int .i64 0) (.int .i64 0) (.int .i64 0) (.int .i64 0) 46 46 46 46
  obtain ⟨gs', g0', g1'⟩ := h.none
  cases k : (rSome (x, y) && rSome (x2, y2))
  · have e : rangeCmp c (x, y) (x2, y2) = (none8, none8) := by
      unfold rangeCmp
      rw [if_pos]
      rw [rSome_eq, rSome_eq] at k
      revert k
      cases rOk (x, y) <;> cases rOk (x2, y2) <;> cases isN (x, y) <;> cases isN (x2, y2) <;> simp
    rw [e]
    go_enter Tryd.func40, Tryd.ntmps40
    go_wp2_with fail
    rw [← hW]
    clear hW gs' g0' g1'
    have kf : (rSome (1, 0) && rSome (1, 0)) = false := rfl
    go_wp2_with (first | (go_at_call 86; refine (rangesOf_xy _ _ _ _ _).mono ?_; rintro e w2 ⟨rfl, hb⟩; (first | (replace H := H.call hb) | (replace H := (H.box4 _ _ _ _ _).call hb)); clear hb; (try (obtain ⟨⟨t0, t1, t2, t3, t4⟩, t5, t6, t7, t8⟩ := H.top4)); have a0 := H.get (b := w.heap.size) (o := 0) (v := .int .i64 x) (by simp); have a1 := H.get (b := w.heap.size) (o := 1) (v := .int .i64 y) (by simp); have b0 := H.get (b := w.heap.size + 1) (o := 0) (v := .int .i64 x2) (by simp); have b1 := H.get (b := w.heap.size + 1) (o := 1) (v := .int .i64 y2) (by simp); have l1 := H.lt (b := w.heap.size + 1) (o := 0) (v := .int .i64 x2) (by simp); have l2 := H.lt (b := w.heap.size + 2) (o := 0) (v := .int .i64 0) (by simp); have l3 := H.lt (b := w.heap.size + 3) (o := 0) (v := .int .i64 0) (by simp); have l0 := H.lt (b := w.heap.size) (o := 0) (v := .int .i64 x) (by simp); obtain ⟨gs, g0, g1, gz⟩ := (h.below H.below).none; have r20 := H.get (b := w.heap.size + 2) (o := 0) (v := .int .i64 0) (by simp); have z20 := H.fz (b := w.heap.size + 2) (o := 0) (v := .int .i64 0) (by simp); have r21 := H.get (b := w.heap.size + 2) (o := 1) (v := .int .i64 0) (by simp); have z21 := H.fz (b := w.heap.size + 2) (o := 1) (v := .int .i64 0) (by simp); have r30 := H.get (b := w.heap.size + 3) (o := 0) (v := .int .i64 0) (by simp); have z30 := H.fz (b := w.heap.size + 3) (o := 0) (v := .int .i64 0) (by simp); have r31 := H.get (b := w.heap.size + 3) (o := 1) (v := .int .i64 0) (by simp); have z31 := H.fz (b := w.heap.size + 3) (o := 1) (v := .int .i64 0) (by simp)) | (go_at_call 87; refine (bothR_xy _ _ _ _ _ (by first | exact h.below H.below | exact h.below (H.set4 (by omega) (by simp; omega) _ _ _ _).below)).mono ?_; rintro e w4 ⟨rfl, hb⟩; (first | rw [k] | rw [kf] | rw [k3]); (first | (replace H := H.call hb) | (replace H := (H.set4 (by omega) (by simp; omega) _ _ _ _).call hb)); clear hb; (try (obtain ⟨⟨t0, t1, t2, t3, t4⟩, t5, t6, t7, t8⟩ := H.top4)); have a0 := H.get (b := w.heap.size) (o := 0) (v := .int .i64 x) (by simp); have a1 := H.get (b := w.heap.size) (o := 1) (v := .int .i64 y) (by simp); have b0 := H.get (b := w.heap.size + 1) (o := 0) (v := .int .i64 x2) (by simp); have b1 := H.get (b := w.heap.size + 1) (o := 1) (v := .int .i64 y2) (by simp); have l1 := H.lt (b := w.heap.size + 1) (o := 0) (v := .int .i64 x2) (by simp); have l2 := H.lt (b := w.heap.size + 2) (o := 0) (v := .int .i64 0) (by simp); have l3 := H.lt (b := w.heap.size + 3) (o := 0) (v := .int .i64 0) (by simp); have l0 := H.lt (b := w.heap.size) (o := 0) (v := .int .i64 x) (by simp); obtain ⟨gs, g0, g1, gz⟩ := (h.below H.below).none; have r20 := H.get (b := w.heap.size + 2) (o := 0) (v := .int .i64 0) (by simp); have z20 := H.fz (b := w.heap.size + 2) (o := 0) (v := .int .i64 0) (by simp); have r21 := H.get (b := w.heap.size + 2) (o := 1) (v := .int .i64 0) (by simp); have z21 := H.fz (b := w.heap.size + 2) (o := 1) (v := .int .i64 0) (by simp); have r30 := H.get (b := w.heap.size + 3) (o := 0) (v := .int .i64 0) (by simp); have z30 := H.fz (b := w.heap.size + 3) (o := 0) (v := .int .i64 0) (by simp); have r31 := H.get (b := w.heap.size + 3) (o := 1) (v := .int .i64 0) (by simp); have z31 := H.fz (b := w.heap.size + 3) (o := 1) (v := .int .i64 0) (by simp)))
    go_region
    all_goals go_wp2_with fail
    all_goals refine bodyPost_ret (results_two_two rfl _ _ (w.heap.size + 2) (w.heap.size + 3) (.int .i64 1) (.int .i64 0) (.int .i64 1) (.int .i64 0) _ rfl rfl (by simp [go_sem, *]) (by simp [go_sem, *]) (by simp [go_sem, *]) (by simp [go_sem, *]) Tryd.underlying46 rfl (by kernel_rfl)) rfl ?_
    all_goals
      have hb2 : w.heap.size ≤ w.heap.size + 2 := Nat.le_add_right _ _
      have hb3 : w.heap.size ≤ w.heap.size + 3 := Nat.le_add_right _ _
      exact ⟨rfl, by first | exact ((((H.below.setCell hb2 _).setCell hb2 _).setCell hb3 _).setCell hb3 _).drew | exact (((H.below.setCell hb2 _).setCell hb2 _).setCell hb3 _).setCell hb3 _⟩
  · have ks := k
    rw [rSome_eq, rSome_eq] at ks
    simp only [Bool.and_eq_true, Bool.not_eq_true'] at ks
    obtain ⟨⟨o1, n1⟩, o2, n2⟩ := ks
    obtain ⟨hx1, hx2, hx3⟩ := ok_some o1 (by rw [n1]; simp)
    obtain ⟨hy1, hy2, hy3⟩ := ok_some o2 (by rw [n2]; simp)
    simp only at hx1 hx2 hx3 hy1 hy2 hy3
    have e : rangeCmp c (x, y) (x2, y2) = if isN (raw8 c (x, y) (x2, y2)).1 = true ∨ isN (raw8 c (x, y) (x2, y2)).2 = true then (none8, none8) else raw8 c (x, y) (x2, y2) := by
      unfold rangeCmp
      rw [if_neg (by simp [o1, o2, n1, n2])]
    have HR := fun (w : World) (h : Gv w 1 none8) (ht : Tv w) => compareR c x y x2 y2 hx1 hx2 hx3 hy1 hy2 hy3 w h ht
    obtain ⟨ro1, ro2⟩ := raw8_ok (c := c) o1 o2
    rw [e]
    clear e
    generalize raw8 c (x, y) (x2, y2) = R at *
    have kk : (rSome (R.1.1, R.1.2) && rSome (R.2.1, R.2.2)) = (!isN R.1 && !isN R.2) := by
      show (rSome R.1 && rSome R.2) = _
      unfold rSome
      rw [ro1, ro2]
      rfl
    clear hx1 hx2 hx3 hy1 hy2 hy3 o1 o2 n1 n2 ro1 ro2
    cases k3 : (!isN R.1 && !isN R.2)
    · rw [if_pos (by revert k3; cases isN R.1 <;> cases isN R.2 <;> simp)]
      rw [k3] at kk
      have k3 := kk
      clear kk
      go_enter Tryd.func40, Tryd.ntmps40
      go_wp2_with fail
      rw [← hW]
      clear hW gs' g0' g1'
      go_wp2_with (first | (go_at_call 86; refine (rangesOf_xy _ _ _ _ _).mono ?_; rintro e w2 ⟨rfl, hb⟩; (first | (replace H := H.call hb) | (replace H := (H.box4 _ _ _ _ _).call hb)); clear hb; (try (obtain ⟨⟨t0, t1, t2, t3, t4⟩, t5, t6, t7, t8⟩ := H.top4)); have a0 := H.get (b := w.heap.size) (o := 0) (v := .int .i64 x) (by simp); have a1 := H.get (b := w.heap.size) (o := 1) (v := .int .i64 y) (by simp); have b0 := H.get (b := w.heap.size + 1) (o := 0) (v := .int .i64 x2) (by simp); have b1 := H.get (b := w.heap.size + 1) (o := 1) (v := .int .i64 y2) (by simp); have l1 := H.lt (b := w.heap.size + 1) (o := 0) (v := .int .i64 x2) (by simp); have l2 := H.lt (b := w.heap.size + 2) (o := 0) (v := .int .i64 0) (by simp); have l3 := H.lt (b := w.heap.size + 3) (o := 0) (v := .int .i64 0) (by simp); have l0 := H.lt (b := w.heap.size) (o := 0) (v := .int .i64 x) (by simp); obtain ⟨gs, g0, g1, gz⟩ := (h.below H.below).none; have r20 := H.get (b := w.heap.size + 2) (o := 0) (v := .int .i64 0) (by simp); have z20 := H.fz (b := w.heap.size + 2) (o := 0) (v := .int .i64 0) (by simp); have r21 := H.get (b := w.heap.size + 2) (o := 1) (v := .int .i64 0) (by simp); have z21 := H.fz (b := w.heap.size + 2) (o := 1) (v := .int .i64 0) (by simp); have r30 := H.get (b := w.heap.size + 3) (o := 0) (v := .int .i64 0) (by simp); have z30 := H.fz (b := w.heap.size + 3) (o := 0) (v := .int .i64 0) (by simp); have r31 := H.get (b := w.heap.size + 3) (o := 1) (v := .int .i64 0) (by simp); have z31 := H.fz (b := w.heap.size + 3) (o := 1) (v := .int .i64 0) (by simp)) | (go_at_call 87; refine (bothR_xy _ _ _ _ _ (by first | exact h.below H.below | exact h.below (H.set4 (by omega) (by simp; omega) _ _ _ _).below)).mono ?_; rintro e w4 ⟨rfl, hb⟩; (first | rw [k] | rw [kf] | rw [k3]); (first | (replace H := H.call hb) | (replace H := (H.set4 (by omega) (by simp; omega) _ _ _ _).call hb)); clear hb; (try (obtain ⟨⟨t0, t1, t2, t3, t4⟩, t5, t6, t7, t8⟩ := H.top4)); have a0 := H.get (b := w.heap.size) (o := 0) (v := .int .i64 x) (by simp); have a1 := H.get (b := w.heap.size) (o := 1) (v := .int .i64 y) (by simp); have b0 := H.get (b := w.heap.size + 1) (o := 0) (v := .int .i64 x2) (by simp); have b1 := H.get (b := w.heap.size + 1) (o := 1) (v := .int .i64 y2) (by simp); have l1 := H.lt (b := w.heap.size + 1) (o := 0) (v := .int .i64 x2) (by simp); have l2 := H.lt (b := w.heap.size + 2) (o := 0) (v := .int .i64 0) (by simp); have l3 := H.lt (b := w.heap.size + 3) (o := 0) (v := .int .i64 0) (by simp); have l0 := H.lt (b := w.heap.size) (o := 0) (v := .int .i64 x) (by simp); obtain ⟨gs, g0, g1, gz⟩ := (h.below H.below).none; have r20 := H.get (b := w.heap.size + 2) (o := 0) (v := .int .i64 0) (by simp); have z20 := H.fz (b := w.heap.size + 2) (o := 0) (v := .int .i64 0) (by simp); have r21 := H.get (b := w.heap.size + 2) (o := 1) (v := .int .i64 0) (by simp); have z21 := H.fz (b := w.heap.size + 2) (o := 1) (v := .int .i64 0) (by simp); have r30 := H.get (b := w.heap.size + 3) (o := 0) (v := .int .i64 0) (by simp); have z30 := H.fz (b := w.heap.size + 3) (o := 0) (v := .int .i64 0) (by simp); have r31 := H.get (b := w.heap.size + 3) (o := 1) (v := .int .i64 0) (by simp); have z31 := H.fz (b := w.heap.size + 3) (o := 1) (v := .int .i64 0) (by simp)) | (go_at_call 102; refine (HR _ (h.below H.below) (ht.below H.below)).mono ?_; rintro e w5 ⟨rfl, hb⟩; replace H := H.call hb; clear hb; (try (obtain ⟨⟨t0, t1, t2, t3, t4⟩, t5, t6, t7, t8⟩ := H.top4)); have a0 := H.get (b := w.heap.size) (o := 0) (v := .int .i64 x) (by simp); have a1 := H.get (b := w.heap.size) (o := 1) (v := .int .i64 y) (by simp); have b0 := H.get (b := w.heap.size + 1) (o := 0) (v := .int .i64 x2) (by simp); have b1 := H.get (b := w.heap.size + 1) (o := 1) (v := .int .i64 y2) (by simp); have l1 := H.lt (b := w.heap.size + 1) (o := 0) (v := .int .i64 x2) (by simp); have l2 := H.lt (b := w.heap.size + 2) (o := 0) (v := .int .i64 0) (by simp); have l3 := H.lt (b := w.heap.size + 3) (o := 0) (v := .int .i64 0) (by simp); have l0 := H.lt (b := w.heap.size) (o := 0) (v := .int .i64 x) (by simp); obtain ⟨gs, g0, g1, gz⟩ := (h.below H.below).none; have r20 := H.get (b := w.heap.size + 2) (o := 0) (v := .int .i64 0) (by simp); have z20 := H.fz (b := w.heap.size + 2) (o := 0) (v := .int .i64 0) (by simp); have r21 := H.get (b := w.heap.size + 2) (o := 1) (v := .int .i64 0) (by simp); have z21 := H.fz (b := w.heap.size + 2) (o := 1) (v := .int .i64 0) (by simp); have r30 := H.get (b := w.heap.size + 3) (o := 0) (v := .int .i64 0) (by simp); have z30 := H.fz (b := w.heap.size + 3) (o := 0) (v := .int .i64 0) (by simp); have r31 := H.get (b := w.heap.size + 3) (o := 1) (v := .int .i64 0) (by simp); have z31 := H.fz (b := w.heap.size + 3) (o := 1) (v := .int .i64 0) (by simp)))
      go_region
      all_goals go_wp2_with fail
      all_goals refine bodyPost_ret (results_two_two rfl _ _ (w.heap.size + 2) (w.heap.size + 3) (.int .i64 1) (.int .i64 0) (.int .i64 1) (.int .i64 0) _ rfl rfl (by simp [go_sem, *]) (by simp [go_sem, *]) (by simp [go_sem, *]) (by simp [go_sem, *]) Tryd.underlying46 rfl (by kernel_rfl)) rfl ?_
      all_goals
        have hb2 : w.heap.size ≤ w.heap.size + 2 := Nat.le_add_right _ _
        have hb3 : w.heap.size ≤ w.heap.size + 3 := Nat.le_add_right _ _
        exact ⟨rfl, by first | exact ((((H.below.setCell hb2 _).setCell hb2 _).setCell hb3 _).setCell hb3 _).drew | exact (((H.below.setCell hb2 _).setCell hb2 _).setCell hb3 _).setCell hb3 _⟩
    · rw [if_neg (by revert k3; cases isN R.1 <;> cases isN R.2 <;> simp)]
      rw [k3] at kk
      have k3 := kk
      clear kk
      go_enter Tryd.func40, Tryd.ntmps40
      go_wp2_with fail
      rw [← hW]
      clear hW gs' g0' g1'
      go_wp2_with (first | (go_at_call 86; refine (rangesOf_xy _ _ _ _ _).mono ?_; rintro e w2 ⟨rfl, hb⟩; (first | (replace H := H.call hb) | (replace H := (H.box4 _ _ _ _ _).call hb)); clear hb; (try (obtain ⟨⟨t0, t1, t2, t3, t4⟩, t5, t6, t7, t8⟩ := H.top4)); have a0 := H.get (b := w.heap.size) (o := 0) (v := .int .i64 x) (by simp); have a1 := H.get (b := w.heap.size) (o := 1) (v := .int .i64 y) (by simp); have b0 := H.get (b := w.heap.size + 1) (o := 0) (v := .int .i64 x2) (by simp); have b1 := H.get (b := w.heap.size + 1) (o := 1) (v := .int .i64 y2) (by simp); have l1 := H.lt (b := w.heap.size + 1) (o := 0) (v := .int .i64 x2) (by simp); have l2 := H.lt (b := w.heap.size + 2) (o := 0) (v := .int .i64 0) (by simp); have l3 := H.lt (b := w.heap.size + 3) (o := 0) (v := .int .i64 0) (by simp); have l0 := H.lt (b := w.heap.size) (o := 0) (v := .int .i64 x) (by simp); obtain ⟨gs, g0, g1, gz⟩ := (h.below H.below).none; have r20 := H.get (b := w.heap.size + 2) (o := 0) (v := .int .i64 0) (by simp); have z20 := H.fz (b := w.heap.size + 2) (o := 0) (v := .int .i64 0) (by simp); have r21 := H.get (b := w.heap.size + 2) (o := 1) (v := .int .i64 0) (by simp); have z21 := H.fz (b := w.heap.size + 2) (o := 1) (v := .int .i64 0) (by simp); have r30 := H.get (b := w.heap.size + 3) (o := 0) (v := .int .i64 0) (by simp); have z30 := H.fz (b := w.heap.size + 3) (o := 0) (v := .int .i64 0) (by simp); have r31 := H.get (b := w.heap.size + 3) (o := 1) (v := .int .i64 0) (by simp); have z31 := H.fz (b := w.heap.size + 3) (o := 1) (v := .int .i64 0) (by simp)) | (go_at_call 87; refine (bothR_xy _ _ _ _ _ (by first | exact h.below H.below | exact h.below (H.set4 (by omega) (by simp; omega) _ _ _ _).below)).mono ?_; rintro e w4 ⟨rfl, hb⟩; (first | rw [k] | rw [kf] | rw [k3]); (first | (replace H := H.call hb) | (replace H := (H.set4 (by omega) (by simp; omega) _ _ _ _).call hb)); clear hb; (try (obtain ⟨⟨t0, t1, t2, t3, t4⟩, t5, t6, t7, t8⟩ := H.top4)); have a0 := H.get (b := w.heap.size) (o := 0) (v := .int .i64 x) (by simp); have a1 := H.get (b := w.heap.size) (o := 1) (v := .int .i64 y) (by simp); have b0 := H.get (b := w.heap.size + 1) (o := 0) (v := .int .i64 x2) (by simp); have b1 := H.get (b := w.heap.size + 1) (o := 1) (v := .int .i64 y2) (by simp); have l1 := H.lt (b := w.heap.size + 1) (o := 0) (v := .int .i64 x2) (by simp); have l2 := H.lt (b := w.heap.size + 2) (o := 0) (v := .int .i64 0) (by simp); have l3 := H.lt (b := w.heap.size + 3) (o := 0) (v := .int .i64 0) (by simp); have l0 := H.lt (b := w.heap.size) (o := 0) (v := .int .i64 x) (by simp); obtain ⟨gs, g0, g1, gz⟩ := (h.below H.below).none; have r20 := H.get (b := w.heap.size + 2) (o := 0) (v := .int .i64 0) (by simp); have z20 := H.fz (b := w.heap.size + 2) (o := 0) (v := .int .i64 0) (by simp); have r21 := H.get (b := w.heap.size + 2) (o := 1) (v := .int .i64 0) (by simp); have z21 := H.fz (b := w.heap.size + 2) (o := 1) (v := .int .i64 0) (by simp); have r30 := H.get (b := w.heap.size + 3) (o := 0) (v := .int .i64 0) (by simp); have z30 := H.fz (b := w.heap.size + 3) (o := 0) (v := .int .i64 0) (by simp); have r31 := H.get (b := w.heap.size + 3) (o := 1) (v := .int .i64 0) (by simp); have z31 := H.fz (b := w.heap.size + 3) (o := 1) (v := .int .i64 0) (by simp)) | (go_at_call 102; refine (HR _ (h.below H.below) (ht.below H.below)).mono ?_; rintro e w5 ⟨rfl, hb⟩; replace H := H.call hb; clear hb; (try (obtain ⟨⟨t0, t1, t2, t3, t4⟩, t5, t6, t7, t8⟩ := H.top4)); have a0 := H.get (b := w.heap.size) (o := 0) (v := .int .i64 x) (by simp); have a1 := H.get (b := w.heap.size) (o := 1) (v := .int .i64 y) (by simp); have b0 := H.get (b := w.heap.size + 1) (o := 0) (v := .int .i64 x2) (by simp); have b1 := H.get (b := w.heap.size + 1) (o := 1) (v := .int .i64 y2) (by simp); have l1 := H.lt (b := w.heap.size + 1) (o := 0) (v := .int .i64 x2) (by simp); have l2 := H.lt (b := w.heap.size + 2) (o := 0) (v := .int .i64 0) (by simp); have l3 := H.lt (b := w.heap.size + 3) (o := 0) (v := .int .i64 0) (by simp); have l0 := H.lt (b := w.heap.size) (o := 0) (v := .int .i64 x) (by simp); obtain ⟨gs, g0, g1, gz⟩ := (h.below H.below).none; have r20 := H.get (b := w.heap.size + 2) (o := 0) (v := .int .i64 0) (by simp); have z20 := H.fz (b := w.heap.size + 2) (o := 0) (v := .int .i64 0) (by simp); have r21 := H.get (b := w.heap.size + 2) (o := 1) (v := .int .i64 0) (by simp); have z21 := H.fz (b := w.heap.size + 2) (o := 1) (v := .int .i64 0) (by simp); have r30 := H.get (b := w.heap.size + 3) (o := 0) (v := .int .i64 0) (by simp); have z30 := H.fz (b := w.heap.size + 3) (o := 0) (v := .int .i64 0) (by simp); have r31 := H.get (b := w.heap.size + 3) (o := 1) (v := .int .i64 0) (by simp); have z31 := H.fz (b := w.heap.size + 3) (o := 1) (v := .int .i64 0) (by simp)))
      go_region
      all_goals go_wp2_with fail
      all_goals refine bodyPost_ret (results_two_two rfl _ _ (w.heap.size + 2) (w.heap.size + 3) (.int .i64 R.1.1) (.int .i64 R.1.2) (.int .i64 R.2.1) (.int .i64 R.2.2) _ rfl rfl (by simp [go_sem, *]) (by simp [go_sem, *]) (by simp [go_sem, *]) (by simp [go_sem, *]) Tryd.underlying46 rfl (by kernel_rfl)) rfl ?_
      all_goals
        have hb2 : w.heap.size ≤ w.heap.size + 2 := Nat.le_add_right _ _
        have hb3 : w.heap.size ≤ w.heap.size + 3 := Nat.le_add_right _ _
        exact ⟨rfl, by first | exact ((((H.below.setCell hb2 _).setCell hb2 _).setCell hb3 _).setCell hb3 _).drew | exact (((H.below.setCell hb2 _).setCell hb2 _).setCell hb3 _).setCell hb3 _⟩
end Go.Proofs.YtjpiihjgbllieaaDoor.num
