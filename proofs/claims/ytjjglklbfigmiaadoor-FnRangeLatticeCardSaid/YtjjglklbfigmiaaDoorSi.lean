/-
  The model's range that is made: add, corners.
-/
import Derived.Test.YtjjglklbfigmiaaDoorSh
import Derived.Test.YtjjglklbfigmiaaDoorSD
namespace Go.Proofs.YtjjglklbfigmiaaDoor.num
open Go.ChangeShapes Go.WideShapes Go.ChangeAt Go.RowKit
set_option linter.unusedVariables false


theorem Hd.sub {w0 w : World} {L L' : List (Nat × Nat × Value)} (h : Hd w0 L w) (hs : ∀ t, t ∈ L' → t ∈ L) : Hd w0 L' w := ⟨h.below, fun b o v hm => h.cells b o v (hs _ hm)⟩
theorem Hd.put {w0 w : World} {L : List (Nat × Nat × Value)} (h : Hd w0 L w) {b o : Nat} {v : Value} (hm : (b, o, v) ∈ L) (hb : w0.heap.size ≤ b) (u : Value) (L' : List (Nat × Nat × Value))
    (hL' : ∀ c p x, (c, p, x) ∈ L' → (c = b ∧ p = o ∧ x = u) ∨ ((c, p, x) ∈ L ∧ ¬ (c = b ∧ p = o))) : Hd w0 L' (w.setCell ⟨b, o, none⟩ u) := by
  refine ⟨h.below.setCell (by exact hb) _, fun c p x hx => ?_⟩
  rcases hL' c p x hx with ⟨rfl, rfl, rfl⟩ | ⟨h1, h2⟩
  · obtain ⟨k1, k2, k3⟩ := h.cells _ _ _ hm
    refine ⟨by simpa using k1, ?_, by simpa using k3⟩
    rw [World.cell?_setCell_same _ _ _ (by rw [k2])]
  · obtain ⟨k1, k2, k3⟩ := h.cells _ _ _ h1
    refine ⟨by simpa using k1, ?_, by simpa using k3⟩
    rw [World.cell?_setCell_other _ _ _ _ (by simp; intro e1 e2; exact h2 ⟨by omega, by omega⟩)]
    exact k2
/-- The cells of a range that is made. -/
abbrev mkR (g : Nat) (s : Bool) (lo hi : Int) : List (Nat × Nat × Value) := [(g, 0, .bool s), (g, 1, .int .i64 lo), (g, 2, .int .i64 hi)]
theorem mkR_lo {w0 w : World} {L : List (Nat × Nat × Value)} {g : Nat} {s : Bool} {lo hi : Int} (h : Hd w0 (mkR g s lo hi ++ L) w) (hb : w0.heap.size ≤ g) (hL : ∀ t ∈ L, t.1 ≠ g) (v : Int) : Hd w0 (mkR g s v hi ++ L) (w.setCell ⟨g, 1, none⟩ (.int .i64 v)) := by
  refine h.put (b := g) (o := 1) (v := .int .i64 lo) (by simp) hb _ _ (fun c p x hx => ?_)
  rcases List.mem_append.1 hx with hx | hx
  · simp only [mkR, List.mem_cons, List.not_mem_nil, or_false, Prod.mk.injEq] at hx
    rcases hx with ⟨rfl, rfl, rfl⟩ | ⟨rfl, rfl, rfl⟩ | ⟨rfl, rfl, rfl⟩
    · exact .inr ⟨by simp, by omega⟩
    · exact .inl ⟨rfl, rfl, rfl⟩
    · exact .inr ⟨by simp, by omega⟩
  · exact .inr ⟨List.mem_append_right _ hx, fun h => hL _ hx h.1⟩
theorem mkR_hi {w0 w : World} {L : List (Nat × Nat × Value)} {g : Nat} {s : Bool} {lo hi : Int} (h : Hd w0 (mkR g s lo hi ++ L) w) (hb : w0.heap.size ≤ g) (hL : ∀ t ∈ L, t.1 ≠ g) (v : Int) : Hd w0 (mkR g s lo v ++ L) (w.setCell ⟨g, 2, none⟩ (.int .i64 v)) := by
  refine h.put (b := g) (o := 2) (v := .int .i64 hi) (by simp) hb _ _ (fun c p x hx => ?_)
  rcases List.mem_append.1 hx with hx | hx
  · simp only [mkR, List.mem_cons, List.not_mem_nil, or_false, Prod.mk.injEq] at hx
    rcases hx with ⟨rfl, rfl, rfl⟩ | ⟨rfl, rfl, rfl⟩ | ⟨rfl, rfl, rfl⟩
    · exact .inr ⟨by simp, by omega⟩
    · exact .inr ⟨by simp, by omega⟩
    · exact .inl ⟨rfl, rfl, rfl⟩
  · exact .inr ⟨List.mem_append_right _ hx, fun h => hL _ hx h.1⟩
theorem mkR_some {w0 w : World} {L : List (Nat × Nat × Value)} {g : Nat} {s : Bool} {lo hi : Int} (h : Hd w0 (mkR g s lo hi ++ L) w) (hb : w0.heap.size ≤ g) (hL : ∀ t ∈ L, t.1 ≠ g) : Hd w0 (mkR g true lo hi ++ L) (w.setCell ⟨g, 0, none⟩ (.bool true)) := by
  refine h.put (b := g) (o := 0) (v := .bool s) (by simp) hb _ _ (fun c p x hx => ?_)
  rcases List.mem_append.1 hx with hx | hx
  · simp only [mkR, List.mem_cons, List.not_mem_nil, or_false, Prod.mk.injEq] at hx
    rcases hx with ⟨rfl, rfl, rfl⟩ | ⟨rfl, rfl, rfl⟩ | ⟨rfl, rfl, rfl⟩
    · exact .inl ⟨rfl, rfl, rfl⟩
    · exact .inr ⟨by simp, by omega⟩
    · exact .inr ⟨by simp, by omega⟩
  · exact .inr ⟨List.mem_append_right _ hx, fun h => hL _ hx h.1⟩
/-- The ends of a range that is made, with a number more. -/
def adLo (s : Bool) (lo v : Int) : Int := if s = true then min lo v else v
def adHi (s : Bool) (hi v : Int) : Int := if s = true then max hi v else v
set_option maxRecDepth 100000 in
set_option maxHeartbeats 4000000 in
theorem add_any {w0 w : World} {L : List (Nat × Nat × Value)} {g : Nat} {s : Bool} {lo hi : Int} (v : Int) (H : Hd w0 (mkR g s lo hi ++ L) w) (hb : w0.heap.size ≤ g) (hL : ∀ t ∈ L, t.1 ≠ g) :
    Calls Tryd.prog 107 #[.pointer (some ⟨g, 0, none⟩), .int .i64 v] w fun e w' => (∃ u, e = .returned u) ∧ Hd w0 (mkR g true (adLo s lo v) (adHi s hi v) ++ L) w' := by
  cases s
  · skip
    have c0 := H.get (b := g) (o := 0) (v := .bool false) (by simp)
    have c1 := H.get (b := g) (o := 1) (v := .int .i64 lo) (by simp)
    have c2 := H.get (b := g) (o := 2) (v := .int .i64 hi) (by simp)
    have z0 := H.fz (b := g) (o := 0) (v := .bool false) (by simp)
    have z1 := H.fz (b := g) (o := 1) (v := .int .i64 lo) (by simp)
    have z2 := H.fz (b := g) (o := 2) (v := .int .i64 hi) (by simp)
    have e1 : adLo false lo v = v := by unfold adLo; simp; try omega
    have e2 : adHi false hi v = v := by unfold adHi; simp; try omega
    rw [e1, e2]
    go_enter Tryd.func107, Tryd.ntmps107
    go_wp2
    go_end0
    exact ⟨⟨_, rfl⟩, mkR_some (mkR_hi (mkR_lo H hb hL v) hb hL v) hb hL⟩
  · by_cases q1 : v < lo
    · by_cases q2 : hi < v
      · skip
        have c0 := H.get (b := g) (o := 0) (v := .bool true) (by simp)
        have c1 := H.get (b := g) (o := 1) (v := .int .i64 lo) (by simp)
        have c2 := H.get (b := g) (o := 2) (v := .int .i64 hi) (by simp)
        have z0 := H.fz (b := g) (o := 0) (v := .bool true) (by simp)
        have z1 := H.fz (b := g) (o := 1) (v := .int .i64 lo) (by simp)
        have z2 := H.fz (b := g) (o := 2) (v := .int .i64 hi) (by simp)
        have e1 : adLo true lo v = v := by unfold adLo; simp; try omega
        have e2 : adHi true hi v = v := by unfold adHi; simp; try omega
        rw [e1, e2]
        go_enter Tryd.func107, Tryd.ntmps107
        go_wp2
        go_end0
        exact ⟨⟨_, rfl⟩, mkR_some (mkR_hi (mkR_lo H hb hL v) hb hL v) hb hL⟩
      · skip
        have c0 := H.get (b := g) (o := 0) (v := .bool true) (by simp)
        have c1 := H.get (b := g) (o := 1) (v := .int .i64 lo) (by simp)
        have c2 := H.get (b := g) (o := 2) (v := .int .i64 hi) (by simp)
        have z0 := H.fz (b := g) (o := 0) (v := .bool true) (by simp)
        have z1 := H.fz (b := g) (o := 1) (v := .int .i64 lo) (by simp)
        have z2 := H.fz (b := g) (o := 2) (v := .int .i64 hi) (by simp)
        have e1 : adLo true lo v = v := by unfold adLo; simp; try omega
        have e2 : adHi true hi v = hi := by unfold adHi; simp; try omega
        rw [e1, e2]
        go_enter Tryd.func107, Tryd.ntmps107
        go_wp2
        go_end0
        exact ⟨⟨_, rfl⟩, mkR_some (mkR_lo H hb hL v) hb hL⟩
    · by_cases q2 : hi < v
      · skip
        have c0 := H.get (b := g) (o := 0) (v := .bool true) (by simp)
        have c1 := H.get (b := g) (o := 1) (v := .int .i64 lo) (by simp)
        have c2 := H.get (b := g) (o := 2) (v := .int .i64 hi) (by simp)
        have z0 := H.fz (b := g) (o := 0) (v := .bool true) (by simp)
        have z1 := H.fz (b := g) (o := 1) (v := .int .i64 lo) (by simp)
        have z2 := H.fz (b := g) (o := 2) (v := .int .i64 hi) (by simp)
        have e1 : adLo true lo v = lo := by unfold adLo; simp; try omega
        have e2 : adHi true hi v = v := by unfold adHi; simp; try omega
        rw [e1, e2]
        go_enter Tryd.func107, Tryd.ntmps107
        go_wp2
        go_end0
        exact ⟨⟨_, rfl⟩, mkR_some (mkR_hi H hb hL v) hb hL⟩
      · skip
        have c0 := H.get (b := g) (o := 0) (v := .bool true) (by simp)
        have c1 := H.get (b := g) (o := 1) (v := .int .i64 lo) (by simp)
        have c2 := H.get (b := g) (o := 2) (v := .int .i64 hi) (by simp)
        have z0 := H.fz (b := g) (o := 0) (v := .bool true) (by simp)
        have z1 := H.fz (b := g) (o := 1) (v := .int .i64 lo) (by simp)
        have z2 := H.fz (b := g) (o := 2) (v := .int .i64 hi) (by simp)
        have e1 : adLo true lo v = lo := by unfold adLo; simp; try omega
        have e2 : adHi true hi v = hi := by unfold adHi; simp; try omega
        rw [e1, e2]
        go_enter Tryd.func107, Tryd.ntmps107
        go_wp2
        go_end0
        exact ⟨⟨_, rfl⟩, mkR_some H hb hL⟩
theorem adLo_le (s : Bool) (lo a b : Int) : adLo true (adLo s lo a) b = adLo s lo (min a b) := by unfold adLo; cases s <;> simp <;> omega
theorem adHi_le (s : Bool) (hi a b : Int) : adHi true (adHi s hi a) b = adHi s hi (max a b) := by unfold adHi; cases s <;> simp <;> omega
set_option maxRecDepth 100000 in
set_option maxHeartbeats 4000000 in
theorem corners_any {w0 w : World} {L : List (Nat × Nat × Value)} {g : Nat} {s : Bool} {lo hi : Int} (op x y x2 y2 : Int) (H : Hd w0 (mkR g s lo hi ++ L) w) (hb : w0.heap.size ≤ g) (hL : ∀ t ∈ L, t.1 ≠ g)
    (ho1 : 1 ≤ op) (ho2 : op ≤ 13) (ha1 : -2147483648 ≤ x) (ha2 : x ≤ 2147483647) (ha3 : -2147483648 ≤ y) (ha4 : y ≤ 2147483647) (hb1 : -2147483648 ≤ x2) (hb2 : x2 ≤ 2147483647) (hb3 : -2147483648 ≤ y2) (hb4 : y2 ≤ 2147483647)
    (hz : op = 4 ∨ op = 5 → ¬ x2 = 0 ∧ ¬ y2 = 0) (hs : op = 9 ∨ op = 10 → (0 ≤ x2 ∧ x2 ≤ 31) ∧ (0 ≤ y2 ∧ y2 ≤ 31)) :
    Calls Tryd.prog 74 #[.pointer (some ⟨g, 0, none⟩), .int .i64 op, .agg #[.int .i64 x, .int .i64 y], .agg #[.int .i64 x2, .int .i64 y2]] w fun e w' => (∃ u, e = .returned u) ∧
      Hd w0 (mkR g true (adLo s lo (cLo op (x, y) (x2, y2))) (adHi s hi (cHi op (x, y) (x2, y2))) ++ L) w' := by
  have hg : g < w.heap.size := (H.cells g 0 (.bool s) (by simp)).1
  have H1 := (H.box (.int .i64 x) (.int .i64 y) 25).box (.int .i64 x2) (.int .i64 y2) 25
  rw [size_alloc1] at H1
  have H := H1.sub (L' := mkR g s lo hi ++ ([(w.heap.size, 0, .int .i64 x), (w.heap.size, 1, .int .i64 y), (w.heap.size + 1, 0, .int .i64 x2), (w.heap.size + 1, 1, .int .i64 y2)] ++ L)) (by
    intro t ht
    simp only [List.mem_append, List.mem_cons, List.not_mem_nil, or_false] at ht ⊢
    rcases ht with (h | h | h) | (h | h | h | h) | h <;> simp [h])
  have hL2 : ∀ t ∈ ([(w.heap.size, 0, .int .i64 x), (w.heap.size, 1, .int .i64 y), (w.heap.size + 1, 0, .int .i64 x2), (w.heap.size + 1, 1, .int .i64 y2)] ++ L : List (Nat × Nat × Value)), t.1 ≠ g := by
    intro t ht
    rcases List.mem_append.1 ht with h | h
    · simp only [List.mem_cons, List.not_mem_nil, or_false] at h
      rcases h with rfl | rfl | rfl | rfl <;> simp only <;> omega
    · exact hL t h
  clear H1 hL
  generalize hW : (w.alloc (.cells #[.int .i64 x, .int .i64 y] 25)).alloc (.cells #[.int .i64 x2, .int .i64 y2] 25) = W at *
  have E := fun (a b : Int) (w : World) (ha : a = x ∨ a = y) (hb : b = x2 ∨ b = y2) => l1Exact_any op a b ho1 ho2 (by omega) (by omega) (by omega) (by omega) (fun h => by have := hz h; omega) (fun h => by have := hs h; omega) w
  have hfin : Hd w0 (mkR g true (adLo true (adLo true (adLo true (adLo s lo (exactV op x x2)) (exactV op x y2)) (exactV op y x2)) (exactV op y y2)) (adHi true (adHi true (adHi true (adHi s hi (exactV op x x2)) (exactV op x y2)) (exactV op y x2)) (exactV op y y2)) ++ ([(w.heap.size, 0, .int .i64 x), (w.heap.size, 1, .int .i64 y), (w.heap.size + 1, 0, .int .i64 x2), (w.heap.size + 1, 1, .int .i64 y2)] ++ L)) = Hd w0 (mkR g true (adLo s lo (cLo op (x, y) (x2, y2))) (adHi s hi (cHi op (x, y) (x2, y2))) ++ ([(w.heap.size, 0, .int .i64 x), (w.heap.size, 1, .int .i64 y), (w.heap.size + 1, 0, .int .i64 x2), (w.heap.size + 1, 1, .int .i64 y2)] ++ L)) := by
    rw [adLo_le, adLo_le, adLo_le, adHi_le, adHi_le, adHi_le]
    have e1 : min (exactV op x x2) (min (exactV op x y2) (min (exactV op y x2) (exactV op y y2))) = cLo op (x, y) (x2, y2) := by unfold cLo; simp only; omega
    have e2 : max (exactV op x x2) (max (exactV op x y2) (max (exactV op y x2) (exactV op y y2))) = cHi op (x, y) (x2, y2) := by unfold cHi; simp only; omega
    rw [e1, e2]
  have c0 := H.get (b := w.heap.size) (o := 0) (v := .int .i64 x) (by simp)
  have c1 := H.get (b := w.heap.size) (o := 1) (v := .int .i64 y) (by simp)
  have c2 := H.get (b := w.heap.size + 1) (o := 0) (v := .int .i64 x2) (by simp)
  have c3 := H.get (b := w.heap.size + 1) (o := 1) (v := .int .i64 y2) (by simp)
  go_enter Tryd.func74, Tryd.ntmps74
  go_wp2_with (first
    | (go_at_call 99; refine (E _ _ _ (by first | exact .inl rfl | exact .inr rfl) (by first | exact .inl rfl | exact .inr rfl)).mono ?_; rintro e w' ⟨rfl, rfl⟩)
    | (go_at_call 107; refine (add_any _ H hb hL2).mono ?_; rintro e w' ⟨⟨u, rfl⟩, H⟩; have c0 := H.get (b := w.heap.size) (o := 0) (v := .int .i64 x) (by simp); have c1 := H.get (b := w.heap.size) (o := 1) (v := .int .i64 y) (by simp); have c2 := H.get (b := w.heap.size + 1) (o := 0) (v := .int .i64 x2) (by simp); have c3 := H.get (b := w.heap.size + 1) (o := 1) (v := .int .i64 y2) (by simp)))
  go_end0
  refine ⟨⟨_, rfl⟩, ?_⟩
  rw [hfin] at H
  refine H.sub ?_
  intro t ht
  simp only [mkR, List.mem_append, List.mem_cons, List.not_mem_nil, or_false] at ht ⊢
  rcases ht with h | h | h | h <;> simp [h]
end Go.Proofs.YtjjglklbfigmiaaDoor.num
