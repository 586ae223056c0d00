/-
  The program's RangeIn.
-/
import Derived.Test.YthbbgkpkijlclaaDoorTd
namespace Go.Proofs.YthbbgkpkijlclaaDoor.num
open Go.ChangeShapes Go.WideShapes Go.ChangeAt Go.RowKit
set_option linter.unusedVariables false

theorem join8_rIn {a b : R8} (ha : rOk a = true) (hb : rOk b = true) : rIn a b = (decide ((join8 a b).1 = b.1) && decide ((join8 a b).2 = b.2)) := by
  rw [Bool.eq_iff_iff, rIn_iff]
  unfold join8
  rw [if_neg (by simp [ha, hb])]
  rw [rOk_iff] at ha hb
  split
  · rename_i n
    rw [isN_iff] at n
    simp only [decide_true, Bool.and_self, iff_true]
    rw [rOk_iff, rOk_iff]
    omega
  · rename_i n
    rw [isN_iff] at n
    split
    · rename_i n2
      rw [isN_iff] at n2
      simp only [Bool.and_eq_true, decide_eq_true_eq]
      rw [rOk_iff, rOk_iff]
      omega
    · rename_i n2
      rw [isN_iff] at n2
      simp only [Bool.and_eq_true, decide_eq_true_eq]
      rw [rOk_iff, rOk_iff]
      omega
set_option maxRecDepth 100000 in
set_option maxHeartbeats 4000000 in
theorem iIn_xy (x y x2 y2 : Int) (w : World) (h : Gv w 1 none8) :
    Calls Tryd.prog 69 #[.agg #[.int .i64 x, .int .i64 y], .agg #[.int .i64 x2, .int .i64 y2]] w fun e w' => e = .returned (.bool (rIn (x, y) (x2, y2))) ∧ Below w.heap.size w w' := by
  obtain ⟨W, hW, H⟩ := Hd.two w (.int .i64 x) (.int .i64 y) (.int .i64 x2) (.int .i64 y2) 24 24
  cases k : rOk (x, y)
  · have e : rIn (x, y) (x2, y2) = false := by unfold rIn; simp [k]
    rw [e]
    go_enter Tryd.func69, Tryd.ntmps69
    go_wp2_with fail
    rw [← hW]
    clear hW
    have k0 := fun p : Over W => H.over (b := w.heap.size) (o := 0) (v := .int .i64 x) (by simp) p
    have k1 := fun p : Over W => H.over (b := w.heap.size) (o := 1) (v := .int .i64 y) (by simp) p
    have k2' := fun p : Over W => H.over (b := w.heap.size + 1) (o := 0) (v := .int .i64 x2) (by simp) p
    have k3 := fun p : Over W => H.over (b := w.heap.size + 1) (o := 1) (v := .int .i64 y2) (by simp) p
    have hg := h.below H.below
    refine wp_region_over (by kernel_rfl) (by kernel_rfl) ?_
    repeat (go_big_quiet_step (first | (go_at_call 63; rename_i p; refine (iOk_xy _ _ _ (hg.over p)).mono ?_; rintro e' w' ⟨rfl, hb1⟩; exact ⟨by rw [k], p.next hb1⟩) | (go_at_call 100; rename_i p; refine (iJoin_xy _ _ _ _ _ (hg.over p)).mono ?_; rintro e' w' ⟨rfl, hb1⟩; exact ⟨rfl, p.next hb1⟩)))
    refine wpQuiet_nil ?_
    rintro _ ⟨p, rfl⟩
    replace H := H.call p.below
    go_wp2_with fail
    go_ret
    exact ⟨rfl, H.below⟩
  · cases k2 : rOk (x2, y2)
    · have e : rIn (x, y) (x2, y2) = false := by unfold rIn; simp [k2]
      rw [e]
      go_enter Tryd.func69, Tryd.ntmps69
      go_wp2_with fail
      rw [← hW]
      clear hW
      have k0 := fun p : Over W => H.over (b := w.heap.size) (o := 0) (v := .int .i64 x) (by simp) p
      have k1 := fun p : Over W => H.over (b := w.heap.size) (o := 1) (v := .int .i64 y) (by simp) p
      have k2' := fun p : Over W => H.over (b := w.heap.size + 1) (o := 0) (v := .int .i64 x2) (by simp) p
      have k3 := fun p : Over W => H.over (b := w.heap.size + 1) (o := 1) (v := .int .i64 y2) (by simp) p
      have hg := h.below H.below
      refine wp_region_over (by kernel_rfl) (by kernel_rfl) ?_
      repeat (go_big_quiet_step (first | (go_at_call 63; rename_i p; refine (iOk_xy _ _ _ (hg.over p)).mono ?_; rintro e' w' ⟨rfl, hb1⟩; exact ⟨by first | rw [k] | rw [k2], p.next hb1⟩) | (go_at_call 100; rename_i p; refine (iJoin_xy _ _ _ _ _ (hg.over p)).mono ?_; rintro e' w' ⟨rfl, hb1⟩; exact ⟨rfl, p.next hb1⟩)))
      refine wpQuiet_nil ?_
      rintro _ ⟨p, rfl⟩
      replace H := H.call p.below
      go_wp2_with fail
      go_ret
      exact ⟨rfl, H.below⟩
    · rw [join8_rIn k k2]
      generalize hj : join8 (x, y) (x2, y2) = q
      by_cases e : q.1 = x2 ∧ q.2 = y2
      · obtain ⟨rfl, rfl⟩ := e
        go_enter Tryd.func69, Tryd.ntmps69
        go_wp2_with fail
        rw [← hW]
        clear hW
        have k0 := fun p : Over W => H.over (b := w.heap.size) (o := 0) (v := .int .i64 x) (by simp) p
        have k1 := fun p : Over W => H.over (b := w.heap.size) (o := 1) (v := .int .i64 y) (by simp) p
        have k2' := fun p : Over W => H.over (b := w.heap.size + 1) (o := 0) (v := .int .i64 q.1) (by simp) p
        have k3 := fun p : Over W => H.over (b := w.heap.size + 1) (o := 1) (v := .int .i64 q.2) (by simp) p
        have hg := h.below H.below
        refine wp_region_over (by kernel_rfl) (by kernel_rfl) ?_
        repeat (go_big_quiet_step (first | (go_at_call 63; rename_i p; refine (iOk_xy _ _ _ (hg.over p)).mono ?_; rintro e' w' ⟨rfl, hb1⟩; exact ⟨by first | rw [k] | rw [k2], p.next hb1⟩) | (go_at_call 100; rename_i p; refine (iJoin_xy _ _ _ _ _ (hg.over p)).mono ?_; rintro e' w' ⟨rfl, hb1⟩; exact ⟨by rw [hj], p.next hb1⟩)))
        refine wpQuiet_nil ?_
        rintro _ ⟨p, rfl⟩
        replace H := H.call p.below
        go_wp2_with fail
        go_ret
        exact ⟨ret_bool (by simp), H.below⟩
      · have he : ∀ {α : Type} (a b : α), (if q.1 = x2 then (if q.2 = y2 then a else b) else b) = b := by
          intro α a b
          by_cases e1 : q.1 = x2
          · rw [if_pos e1, if_neg (fun k => e ⟨e1, k⟩)]
          · rw [if_neg e1]
        go_enter Tryd.func69, Tryd.ntmps69
        go_wp2_with fail
        rw [← hW]
        clear hW
        have k0 := fun p : Over W => H.over (b := w.heap.size) (o := 0) (v := .int .i64 x) (by simp) p
        have k1 := fun p : Over W => H.over (b := w.heap.size) (o := 1) (v := .int .i64 y) (by simp) p
        have k2' := fun p : Over W => H.over (b := w.heap.size + 1) (o := 0) (v := .int .i64 x2) (by simp) p
        have k3 := fun p : Over W => H.over (b := w.heap.size + 1) (o := 1) (v := .int .i64 y2) (by simp) p
        have hg := h.below H.below
        refine wp_region_over (by kernel_rfl) (by kernel_rfl) ?_
        repeat (go_big_quiet_step (first | (go_at_call 63; rename_i p; refine (iOk_xy _ _ _ (hg.over p)).mono ?_; rintro e' w' ⟨rfl, hb1⟩; exact ⟨by first | rw [k] | rw [k2], p.next hb1⟩) | (go_at_call 100; rename_i p; refine (iJoin_xy _ _ _ _ _ (hg.over p)).mono ?_; rintro e' w' ⟨rfl, hb1⟩; exact ⟨by rw [hj], p.next hb1⟩)))
        refine wpQuiet_nil ?_
        rintro _ ⟨p, rfl⟩
        replace H := H.call p.below
        go_wp2_with fail
        go_ret
        exact ⟨ret_bool (by simp; omega), H.below⟩
end Go.Proofs.YthbbgkpkijlclaaDoor.num
