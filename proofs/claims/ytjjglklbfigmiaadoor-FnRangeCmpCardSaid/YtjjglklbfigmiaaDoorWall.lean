/-
  Drawn ranges and comparisons; the laws' numbers within a range; a comparison that holds.
-/
import Derived.Test.YtjjglklbfigmiaaDoorSp8
import Derived.Test.YtjjglklbfigmiaaDoorAt8
import Derived.Test.YtjjglklbfigmiaaDoorSa
import Derived.Test.YtjjglklbfigmiaaDoorBits
import Derived.Test.YtjjglklbfigmiaaDoorTf
import Derived.Test.YtjjglklbfigmiaaDoorSf
import Derived.Deep.RegionHeld3
import Derived.Test.YtjjglklbfigmiaaDoorTe
import Derived.Test.YtjjglklbfigmiaaDoorQe
namespace Go.Proofs.YtjjglklbfigmiaaDoor.num
open Go.ChangeShapes Go.WideShapes Go.ChangeAt Go.RowKit
set_option linter.unusedVariables false


set_option maxRecDepth 100000 in
set_option maxHeartbeats 4000000 in
theorem drawJoin8_any (w : World) (a : Option Addr) (len cap : Nat) (h : Code8 w a len) (hl : len ≤ cap) (hm : cap ≤ 9223372036854775807) :
    Calls Tryd.prog 51 #[.slice a len cap] w fun e w' => (∃ lo hi lo2 hi2 : Int, e = .returned (.tuple #[.agg #[.int .i64 lo, .int .i64 hi], .agg #[.int .i64 lo2, .int .i64 hi2]]) ∧ (I64 lo ∧ I64 hi) ∧ (I64 lo2 ∧ I64 hi2)) ∧ Below w.heap.size w w' := by
  obtain ⟨W, hW, H⟩ := Hd.two w (.int .i64 0) (.int .i64 0) (.int .i64 0) (.int .i64 0) 25 25
  have hc := h.below H.below
  have hsz : W.heap.size = w.heap.size + 2 := by rw [hW]; simp
  go_enter Tryd.func51, Tryd.ntmps51
  go_wp2_with fail
  rw [← hW]
  clear hW h
  refine (open_any W a len cap hc hl hm).mono ?_
  rintro e w1 ⟨rfl, hst⟩
  have H1 := H.call (hst.below)
  have h := Rk.of_st hst
  have hr : W.heap.size < w1.heap.size := h.lt
  clear hst hc H
  generalize hrr : W.heap.size = r at *
  have hge : w.heap.size + 2 ≤ r := by omega
  clear hsz hrr
  have HH := hide H1
  clear H1
  go_wp2_with fail
  refine (l8Two_rk _ _ _ _ h (by omega)).mono ?_
  rintro e w2 ⟨⟨lo, hi, lo2, hi2, rfl, hbd⟩, h⟩
  have hs2 := h.size
  have b4 : w2.cell? ⟨w.heap.size, 0, none⟩ = some (.int .i64 0) := h.cell (by omega) (by omega) ((unhide HH).get (by simp))
  have b5 : w2.cell? ⟨w.heap.size, 1, none⟩ = some (.int .i64 0) := h.cell (by omega) (by omega) ((unhide HH).get (by simp))
  have b6 : w2.cell? ⟨w.heap.size + 1, 0, none⟩ = some (.int .i64 0) := h.cell (by omega) (by omega) ((unhide HH).get (by simp))
  have b7 : w2.cell? ⟨w.heap.size + 1, 1, none⟩ = some (.int .i64 0) := h.cell (by omega) (by omega) ((unhide HH).get (by simp))
  have y4 : w2.frozen? ⟨w.heap.size, 0, none⟩ = false := h.fz (by omega) (by omega) ((unhide HH).fz (v := .int .i64 0) (by simp))
  have y5 : w2.frozen? ⟨w.heap.size, 1, none⟩ = false := h.fz (by omega) (by omega) ((unhide HH).fz (v := .int .i64 0) (by simp))
  have y6 : w2.frozen? ⟨w.heap.size + 1, 0, none⟩ = false := h.fz (by omega) (by omega) ((unhide HH).fz (v := .int .i64 0) (by simp))
  have y7 : w2.frozen? ⟨w.heap.size + 1, 1, none⟩ = false := h.fz (by omega) (by omega) ((unhide HH).fz (v := .int .i64 0) (by simp))
  have L2 : Hd w2 [] w2 := Hd.start w2
  have L4 := (L2.box (.int .i64 lo) (.int .i64 hi) 25).box (.int .i64 lo2) (.int .i64 hi2) 25
  rw [size_alloc1] at L4
  have hbw : Below w.heap.size w w2 := (unhide HH).below.trans (h.below (by omega) (by omega))
  have hlt : w.heap.size + 2 ≤ w2.heap.size := by omega
  clear h hs2 HH
  go_upto_region 3 with fail
  have hB4 : Below w2.heap.size w2 ((w2.alloc (.cells #[.int .i64 lo, .int .i64 hi] 25)).alloc (.cells #[.int .i64 lo2, .int .i64 hi2] 25)) := L4.below
  generalize (w2.alloc (.cells #[.int .i64 lo, .int .i64 hi] 25)).alloc (.cells #[.int .i64 lo2, .int .i64 hi2] 25) = W4 at *
  have c0 := L4.get (b := w2.heap.size) (o := 0) (v := .int .i64 lo) (by simp)
  have c1 := L4.get (b := w2.heap.size) (o := 1) (v := .int .i64 hi) (by simp)
  have c2 := L4.get (b := w2.heap.size + 1) (o := 0) (v := .int .i64 lo2) (by simp)
  have c3 := L4.get (b := w2.heap.size + 1) (o := 1) (v := .int .i64 hi2) (by simp)
  have d4 : W4.cell? ⟨w.heap.size, 0, none⟩ = some (.int .i64 0) := by rw [hB4.cell (p := ⟨w.heap.size, 0, none⟩) (by show w.heap.size < _; omega)]; exact b4
  have d5 : W4.cell? ⟨w.heap.size, 1, none⟩ = some (.int .i64 0) := by rw [hB4.cell (p := ⟨w.heap.size, 1, none⟩) (by show w.heap.size < _; omega)]; exact b5
  have d6 : W4.cell? ⟨w.heap.size + 1, 0, none⟩ = some (.int .i64 0) := by rw [hB4.cell (p := ⟨w.heap.size + 1, 0, none⟩) (by show w.heap.size + 1 < _; omega)]; exact b6
  have d7 : W4.cell? ⟨w.heap.size + 1, 1, none⟩ = some (.int .i64 0) := by rw [hB4.cell (p := ⟨w.heap.size + 1, 1, none⟩) (by show w.heap.size + 1 < _; omega)]; exact b7
  have x4 : W4.frozen? ⟨w.heap.size, 0, none⟩ = false := by rw [hB4.frozen (p := ⟨w.heap.size, 0, none⟩) (by show w.heap.size < _; omega)]; exact y4
  have x5 : W4.frozen? ⟨w.heap.size, 1, none⟩ = false := by rw [hB4.frozen (p := ⟨w.heap.size, 1, none⟩) (by show w.heap.size < _; omega)]; exact y5
  have x6 : W4.frozen? ⟨w.heap.size + 1, 0, none⟩ = false := by rw [hB4.frozen (p := ⟨w.heap.size + 1, 0, none⟩) (by show w.heap.size + 1 < _; omega)]; exact y6
  have x7 : W4.frozen? ⟨w.heap.size + 1, 1, none⟩ = false := by rw [hB4.frozen (p := ⟨w.heap.size + 1, 1, none⟩) (by show w.heap.size + 1 < _; omega)]; exact y7
  have hb4 : Below w.heap.size w W4 := below_up hbw (by omega) hB4
  clear b4 b5 b6 b7 y4 y5 y6 y7 L2 L4 hB4 hbw
  generalize hg : w2.heap.size = g at *
  clear hg
  go_region
  go_wp2_with fail
  refine bodyPost_ret (results_two_two rfl _ _ w.heap.size (w.heap.size + 1) (.int .i64 lo) (.int .i64 hi) (.int .i64 lo2) (.int .i64 hi2) _ rfl rfl (by simp [go_sem, d4]) (by simp [go_sem, d5]) (by simp [go_sem, d6]) (by simp [go_sem, d7]) Tryd.underlying25 rfl (by kernel_rfl)) rfl ?_
  exact ⟨⟨_, _, _, _, rfl, hbd⟩, by first | exact ((((hb4.setCell (by exact Nat.le_refl _) _).setCell (by exact Nat.le_refl _) _).setCell (by exact Nat.le_add_right _ _) _).setCell (by exact Nat.le_add_right _ _) _) | exact ((((hb4.setCell (by exact Nat.le_refl _) _).setCell (by exact Nat.le_refl _) _).setCell (by exact Nat.le_add_right _ _) _).setCell (by exact Nat.le_add_right _ _) _).drew⟩
end Go.Proofs.YtjjglklbfigmiaaDoor.num
namespace Go.Proofs.YtjjglklbfigmiaaDoor.num
open Go.ChangeShapes Go.WideShapes Go.ChangeAt Go.RowKit
set_option linter.unusedVariables false

theorem or_bound {a b : Int} (h0 : 0 ≤ a) (h1 : a ≤ 4294967295) (k0 : 0 ≤ b) (k1 : b ≤ 4294967295) : 0 ≤ bits .or .i64 a b ∧ bits .or .i64 a b ≤ 4294967295 := by
  have e : bits .or .i64 a b = IntKind.i64.wrap (((BitVec.ofInt 64 a) ||| (BitVec.ofInt 64 b)).toNat : Int) := rfl
  obtain ⟨x, rfl⟩ := Int.eq_ofNat_of_zero_le h0
  obtain ⟨y, rfl⟩ := Int.eq_ofNat_of_zero_le k0
  have ex : (BitVec.ofInt 64 (x : Int)).toNat = x := by
    rw [BitVec.toNat_ofInt]; omega
  have ey : (BitVec.ofInt 64 (y : Int)).toNat = y := by
    rw [BitVec.toNat_ofInt]; omega
  rw [BitVec.toNat_or, ex, ey] at e
  have hb : x ||| y < 2 ^ 32 := Nat.or_lt_two_pow (by omega) (by omega)
  rw [e, IntWalk.i64_in _ ⟨by omega, by omega⟩]
  omega
theorem wide_bound {p q r s : Int} (p0 : 0 ≤ p) (p1 : p ≤ 255) (q0 : 0 ≤ q) (q1 : q ≤ 255) (r0 : 0 ≤ r) (r1 : r ≤ 255) (s0 : 0 ≤ s) (s1 : s ≤ 255) :
    0 ≤ bits .or .i64 (bits .or .i64 (bits .or .i64 (p * 16777216) (q * 65536)) (r * 256)) s ∧ bits .or .i64 (bits .or .i64 (bits .or .i64 (p * 16777216) (q * 65536)) (r * 256)) s ≤ 4294967295 := by
  have h1 := or_bound (a := p * 16777216) (b := q * 65536) (by omega) (by omega) (by omega) (by omega)
  have h2 := or_bound (b := r * 256) h1.1 h1.2 (by omega) (by omega)
  exact or_bound h2.1 h2.2 s0 (by omega)
set_option maxRecDepth 100000 in
set_option maxHeartbeats 4000000 in
theorem wide_any (w : World) (a : Option Addr) (len cap : Nat) (i : Int) (h : Code8 w a len) (hl : len ≤ 1048576) (hi : 0 ≤ i) (hi2 : i ≤ 900000) :
    Calls Tryd.prog 53 #[.slice a len cap, .int .i64 i] w fun e w' => ∃ v : Int, e = .returned (.int .i64 v) ∧ 0 ≤ v ∧ v ≤ 4294967295 ∧ Below w.heap.size w w' := by
  have H := hide h
  clear h
  go_enter Tryd.func53, Tryd.ntmps53
  have BB := Below.refl w.heap.size w
  have e1 : IntKind.i64.wrap (i + 1) = i + 1 := IntWalk.i64_in _ ⟨by omega, by omega⟩
  have e2 : IntKind.i64.wrap (i + 2) = i + 2 := IntWalk.i64_in _ ⟨by omega, by omega⟩
  have e3 : IntKind.i64.wrap (i + 3) = i + 3 := IntWalk.i64_in _ ⟨by omega, by omega⟩
  go_wp2_with (go_at_call 54; refine (at_any _ _ _ _ _ ((unhide H).below BB) hl (by omega) (by omega)).mono ?_; rintro e w1 ⟨v, rfl, v0, v1, hb⟩; replace BB := below_up BB BB.size hb)
  go_ret
  exact ⟨_, rfl, (wide_bound (by assumption) (by assumption) (by assumption) (by assumption) (by assumption) (by assumption) (by assumption) (by assumption)).1, (wide_bound (by assumption) (by assumption) (by assumption) (by assumption) (by assumption) (by assumption) (by assumption) (by assumption)).2, BB⟩
end Go.Proofs.YtjjglklbfigmiaaDoor.num
namespace Go.Proofs.YtjjglklbfigmiaaDoor.num
open Go.ChangeShapes Go.WideShapes Go.ChangeAt Go.RowKit
set_option linter.unusedVariables false

set_option maxRecDepth 100000 in
set_option maxHeartbeats 4000000 in
theorem has_any {base : Nat} {ok : Int → Prop} (l : List Int) (v : Int) (sv : Value) (w : World) (h : rws.Seq 1 rws.ci ok base w sv l) :
    Calls Tryd.prog 44 #[sv, .int .i64 v] w fun e w' => e = .returned (.bool (l.contains v)) ∧ w' = w := by
  obtain ⟨a, cap, rfl, hc1, hc2⟩ := h.shape
  have H := hide h
  unfold maxLen at hc2
  clear h
  go_enter Tryd.func44, Tryd.ntmps44
  go_wp2
  go_loop [5] (fun i => ∃ j : Nat, j ≤ l.length ∧ i = .int .i64 j ∧ (l.take j).contains v = false) (fun i => l.length - (intOf i).toNat)
  case atStart => exact ⟨0, by omega, rfl, by simp⟩
  case round =>
    obtain ⟨j, hj, rfl, hn⟩ := hrel
    by_cases hlt : j < l.length
    · obtain ⟨t, ht⟩ : ∃ t, l[j]? = some t := ⟨_, List.getElem?_eq_getElem hlt⟩
      obtain ⟨b, off, rfl, hb, hc⟩ := (unhide H).atI ht
      have HN := hide hn
      have HT := hide ht
      clear hn ht
      cases q : (t == v)
      · go_wp2
        refine ⟨⟨j + 1, by omega, by go_num, ?_⟩, by simp [intOf]; omega⟩
        rw [List.take_add_one, unhide HT]
        have h1 := unhide HN
        simp at h1 q ⊢
        exact ⟨h1, fun k => q k.symm⟩
      · go_wp2
        go_ret
        refine ⟨ret_bool ?_, rfl⟩
        have := List.mem_of_getElem? (unhide HT)
        simp at q ⊢
        rw [← q]; exact this
    · obtain rfl : j = l.length := by omega
      rw [List.take_length] at hn
      go_wp2
      go_ret
      refine ⟨ret_bool ?_, rfl⟩
      simpa using hn
set_option maxRecDepth 100000 in
set_option maxHeartbeats 4000000 in
theorem within_any (w : World) (x y : Int) (a : Option Addr) (len cap : Nat) (i : Int) (h : Code8 w a len) (hl : len ≤ 1048576) (hi : 0 ≤ i) (hi2 : i ≤ 900000) :
    Calls Tryd.prog 42 #[.agg #[.int .i64 x, .int .i64 y], .slice a len cap, .int .i64 i] w fun e w' => ∃ v : Int, e = .returned (.int .i64 v) ∧ (rOk (x, y) = true → isN (x, y) = false → rHas (x, y) v = true) ∧ Below w.heap.size w w' := by
  obtain ⟨W, hW, H⟩ := Hd.one w (.int .i64 x) (.int .i64 y) 25
  have c0 := H.get (b := w.heap.size) (o := 0) (v := .int .i64 x) (by simp)
  have c1 := H.get (b := w.heap.size) (o := 1) (v := .int .i64 y) (by simp)
  have HC := hide h
  clear h
  have e5 : IntKind.i64.wrap (i + 5) = i + 5 := IntWalk.i64_in _ ⟨by omega, by omega⟩
  cases k : rOk (x, y)
  · by_cases hlt : y < x
    · go_enter Tryd.func42, Tryd.ntmps42
      go_wp2_with fail
      rw [← hW]
      clear hW
      go_wp2_with (first | (go_at_call 54; refine (at_any _ _ _ _ _ ((unhide HC).below H.below) hl (by omega) (by omega)).mono ?_; rintro e w1 ⟨v, rfl, v0, v1, hb⟩; replace H := H.call hb) | (go_at_call 18; refine (RangeOk_xy _ _ _).mono ?_; rintro e w2 ⟨rfl, hb⟩; rw [k]; replace H := H.call hb))
      go_ret
      exact ⟨_, rfl, fun k => (by cases k), H.below⟩
    · go_enter Tryd.func42, Tryd.ntmps42
      go_wp2_with fail
      rw [← hW]
      clear hW
      go_wp2_with (first | (go_at_call 54; refine (at_any _ _ _ _ _ ((unhide HC).below H.below) hl (by omega) (by omega)).mono ?_; rintro e w1 ⟨v, rfl, v0, v1, hb⟩; replace H := H.call hb) | (go_at_call 18; refine (RangeOk_xy _ _ _).mono ?_; rintro e w2 ⟨rfl, hb⟩; rw [k]; replace H := H.call hb))
      go_ret
      exact ⟨_, rfl, fun k => (by cases k), H.below⟩
  · by_cases hlt : y < x
    · have hn : isN (x, y) = true := (rOk_none_of k).2 hlt
      go_enter Tryd.func42, Tryd.ntmps42
      go_wp2_with fail
      rw [← hW]
      clear hW
      go_wp2_with (first | (go_at_call 54; refine (at_any _ _ _ _ _ ((unhide HC).below H.below) hl (by omega) (by omega)).mono ?_; rintro e w1 ⟨v, rfl, v0, v1, hb⟩; replace H := H.call hb) | (go_at_call 18; refine (RangeOk_xy _ _ _).mono ?_; rintro e w2 ⟨rfl, hb⟩; rw [k]; replace H := H.call hb))
      go_ret
      exact ⟨_, rfl, fun _ k => (by rw [hn] at k; cases k), H.below⟩
    · have hn : isN (x, y) = false := some_not (a := (x, y)) (by simp; omega)
      obtain ⟨o1, o2, o3⟩ := ok_some k (by rw [hn]; simp)
      simp only at o1 o2 o3
      have g1 : IntKind.i64.wrap (y - x) = y - x := IntWalk.i64_in _ ⟨by omega, by omega⟩
      have g2 : IntKind.i64.wrap (y - x + 1) = y - x + 1 := IntWalk.i64_in _ ⟨by omega, by omega⟩
      have hz : ((y - x + 1) == 0) = false := by simp; omega
      go_enter Tryd.func42, Tryd.ntmps42
      go_wp2_with fail
      rw [← hW]
      clear hW
      go_wp2_with (first | (go_at_call 54; refine (at_any _ _ _ _ _ ((unhide HC).below H.below) hl (by omega) (by omega)).mono ?_; rintro e w1 ⟨v, rfl, v0, v1, hb⟩; replace H := H.call hb; have d0 := H.get (b := w.heap.size) (o := 0) (v := .int .i64 x) (by simp); have d1 := H.get (b := w.heap.size) (o := 1) (v := .int .i64 y) (by simp)) | (go_at_call 18; refine (RangeOk_xy _ _ _).mono ?_; rintro e w2 ⟨rfl, hb⟩; rw [k]; replace H := H.call hb; have d0 := H.get (b := w.heap.size) (o := 0) (v := .int .i64 x) (by simp); have d1 := H.get (b := w.heap.size) (o := 1) (v := .int .i64 y) (by simp)) | (go_at_call 53; refine (wide_any _ _ _ _ _ ((unhide HC).below H.below) hl (by omega) (by omega)).mono ?_; rintro e w2 ⟨v, rfl, v0, v1, hb⟩; replace H := H.call hb; have d0 := H.get (b := w.heap.size) (o := 0) (v := .int .i64 x) (by simp); have d1 := H.get (b := w.heap.size) (o := 1) (v := .int .i64 y) (by simp)))
      · go_region_with (first
        | (go_at_call 54; refine (at_any _ _ _ _ _ ((unhide HC).below (by first | exact H.below | exact (H.drewN 1).below)) hl (by omega) (by omega)).mono ?_; rintro e w5 ⟨u, rfl, u0, u1, hb⟩; (first | (replace H := H.call hb) | (replace H := (H.drewN 1).call hb)); have d0 := H.get (b := w.heap.size) (o := 0) (v := .int .i64 x) (by simp); have d1 := H.get (b := w.heap.size) (o := 1) (v := .int .i64 y) (by simp); have m1 := Int.emod_nonneg (u % 3) (show y - x + 1 ≠ 0 by omega); have m2 := Int.emod_lt_of_pos (u % 3) (show 0 < y - x + 1 by omega); have n1 := Int.emod_nonneg u (show y - x + 1 ≠ 0 by omega); have n2 := Int.emod_lt_of_pos u (show 0 < y - x + 1 by omega); have gw1 : IntKind.i64.wrap (x + u % 3 % (y - x + 1)) = x + u % 3 % (y - x + 1) := IntWalk.i64_in _ ⟨by omega, by omega⟩; have gw2 : IntKind.i64.wrap (y - u % 3 % (y - x + 1)) = y - u % 3 % (y - x + 1) := IntWalk.i64_in _ ⟨by omega, by omega⟩; have gw3 : IntKind.i64.wrap (x + u % (y - x + 1)) = x + u % (y - x + 1) := IntWalk.i64_in _ ⟨by omega, by omega⟩))
        all_goals
          go_wp2_with fail
          go_ret
          exact ⟨_, rfl, fun _ _ => (by rw [rHas_iff]; simp only; omega), H.below⟩
      · go_region_with (first
        | (go_at_call 54; refine (at_any _ _ _ _ _ ((unhide HC).below (by first | exact H.below | exact (H.drewN 1).below)) hl (by omega) (by omega)).mono ?_; rintro e w5 ⟨u, rfl, u0, u1, hb⟩; (first | (replace H := H.call hb) | (replace H := (H.drewN 1).call hb)); have d0 := H.get (b := w.heap.size) (o := 0) (v := .int .i64 x) (by simp); have d1 := H.get (b := w.heap.size) (o := 1) (v := .int .i64 y) (by simp); have m1 := Int.emod_nonneg (u % 3) (show y - x + 1 ≠ 0 by omega); have m2 := Int.emod_lt_of_pos (u % 3) (show 0 < y - x + 1 by omega); have n1 := Int.emod_nonneg u (show y - x + 1 ≠ 0 by omega); have n2 := Int.emod_lt_of_pos u (show 0 < y - x + 1 by omega); have gw1 : IntKind.i64.wrap (x + u % 3 % (y - x + 1)) = x + u % 3 % (y - x + 1) := IntWalk.i64_in _ ⟨by omega, by omega⟩; have gw2 : IntKind.i64.wrap (y - u % 3 % (y - x + 1)) = y - u % 3 % (y - x + 1) := IntWalk.i64_in _ ⟨by omega, by omega⟩; have gw3 : IntKind.i64.wrap (x + u % (y - x + 1)) = x + u % (y - x + 1) := IntWalk.i64_in _ ⟨by omega, by omega⟩))
        all_goals
          go_wp2_with fail
          go_ret
          exact ⟨_, rfl, fun _ _ => (by rw [rHas_iff]; simp only; omega), H.below⟩
      · go_region_with (first
        | (go_at_call 53; refine (wide_any _ _ _ _ _ ((unhide HC).below (by first | exact H.below | exact (H.drewN 1).below)) hl (by omega) (by omega)).mono ?_; rintro e w5 ⟨u, rfl, u0, u1, hb⟩; (first | (replace H := H.call hb) | (replace H := (H.drewN 1).call hb)); have d0 := H.get (b := w.heap.size) (o := 0) (v := .int .i64 x) (by simp); have d1 := H.get (b := w.heap.size) (o := 1) (v := .int .i64 y) (by simp); have m1 := Int.emod_nonneg (u % 3) (show y - x + 1 ≠ 0 by omega); have m2 := Int.emod_lt_of_pos (u % 3) (show 0 < y - x + 1 by omega); have n1 := Int.emod_nonneg u (show y - x + 1 ≠ 0 by omega); have n2 := Int.emod_lt_of_pos u (show 0 < y - x + 1 by omega); have gw1 : IntKind.i64.wrap (x + u % 3 % (y - x + 1)) = x + u % 3 % (y - x + 1) := IntWalk.i64_in _ ⟨by omega, by omega⟩; have gw2 : IntKind.i64.wrap (y - u % 3 % (y - x + 1)) = y - u % 3 % (y - x + 1) := IntWalk.i64_in _ ⟨by omega, by omega⟩; have gw3 : IntKind.i64.wrap (x + u % (y - x + 1)) = x + u % (y - x + 1) := IntWalk.i64_in _ ⟨by omega, by omega⟩))
        all_goals
          go_wp2_with fail
          go_ret
          exact ⟨_, rfl, fun _ _ => (by rw [rHas_iff]; simp only; omega), H.below⟩
end Go.Proofs.YtjjglklbfigmiaaDoor.num
namespace Go.Proofs.YtjjglklbfigmiaaDoor.num
open Go.ChangeShapes Go.WideShapes Go.ChangeAt Go.RowKit
set_option linter.unusedVariables false

/-- Whether a comparison holds of two numbers. -/
def cmpB (c a b : Int) : Bool :=
  if c = 1 then a == b else if c = 2 then a != b else if c = 3 then decide (a < b) else if c = 4 then decide (a ≤ b)
  else if c = 5 then decide (b < a) else if c = 6 then decide (b ≤ a) else false
theorem implCmp_any (c a b : Int) (w : World) :
    Calls Tryd.prog 50 #[.int .i64 c, .int .i64 a, .int .i64 b] w fun e w' => e = .returned (.bool (cmpB c a b)) ∧ w' = w := by
  go_enter Tryd.func50, Tryd.ntmps50
  go_wp2
  all_goals go_ret
  all_goals (refine ⟨ret_bool ?_, rfl⟩; simp_all [cmpB])
set_option maxRecDepth 100000 in
set_option maxHeartbeats 4000000 in
theorem drawCmp8_any (w : World) (a : Option Addr) (len cap : Nat) (h : Code8 w a len) (hl : len ≤ cap) (hm : cap ≤ 9223372036854775807) :
    Calls Tryd.prog 49 #[.slice a len cap] w fun e w' => (∃ cc lo hi lo2 hi2 : Int, e = .returned (.tuple #[.int .i64 cc, .agg #[.int .i64 lo, .int .i64 hi], .agg #[.int .i64 lo2, .int .i64 hi2]]) ∧ (I64 lo ∧ I64 hi) ∧ (I64 lo2 ∧ I64 hi2)) ∧ Below w.heap.size w w' := by
  obtain ⟨W, hW, H⟩ := Hd.two w (.int .i64 0) (.int .i64 0) (.int .i64 0) (.int .i64 0) 25 25
  have hc := h.below H.below
  have hsz : W.heap.size = w.heap.size + 2 := by rw [hW]; simp
  go_enter Tryd.func49, Tryd.ntmps49
  go_wp2_with fail
  rw [← hW]
  clear hW h
  refine (open_any W a len cap hc hl hm).mono ?_
  rintro e w1 ⟨rfl, hst⟩
  have H1 := H.call (hst.below)
  have h := Rk.of_st hst
  have hr : W.heap.size < w1.heap.size := h.lt
  clear hst hc H
  generalize hrr : W.heap.size = r at *
  have hge : w.heap.size + 2 ≤ r := by omega
  clear hsz hrr
  have HH := hide H1
  clear H1
  go_wp2_with (first
    | (go_at_call 90; refine (pick_rk _ _ _ _ _ h (by omega) (by omega) (by omega)).mono ?_; rintro e wx ⟨v, rfl, v0, v1, h⟩)
    | (go_at_call 100; refine (l8Two_rk _ _ _ _ h (by omega)).mono ?_; rintro e w2 ⟨⟨lo, hi, lo2, hi2, rfl, hbd⟩, h⟩))
  all_goals
    have hs2 := h.size
    have b4 : w2.cell? ⟨w.heap.size, 0, none⟩ = some (.int .i64 0) := h.cell (by omega) (by omega) ((unhide HH).get (by simp))
    have b5 : w2.cell? ⟨w.heap.size, 1, none⟩ = some (.int .i64 0) := h.cell (by omega) (by omega) ((unhide HH).get (by simp))
    have b6 : w2.cell? ⟨w.heap.size + 1, 0, none⟩ = some (.int .i64 0) := h.cell (by omega) (by omega) ((unhide HH).get (by simp))
    have b7 : w2.cell? ⟨w.heap.size + 1, 1, none⟩ = some (.int .i64 0) := h.cell (by omega) (by omega) ((unhide HH).get (by simp))
    have y4 : w2.frozen? ⟨w.heap.size, 0, none⟩ = false := h.fz (by omega) (by omega) ((unhide HH).fz (v := .int .i64 0) (by simp))
    have y5 : w2.frozen? ⟨w.heap.size, 1, none⟩ = false := h.fz (by omega) (by omega) ((unhide HH).fz (v := .int .i64 0) (by simp))
    have y6 : w2.frozen? ⟨w.heap.size + 1, 0, none⟩ = false := h.fz (by omega) (by omega) ((unhide HH).fz (v := .int .i64 0) (by simp))
    have y7 : w2.frozen? ⟨w.heap.size + 1, 1, none⟩ = false := h.fz (by omega) (by omega) ((unhide HH).fz (v := .int .i64 0) (by simp))
    have L2 : Hd w2 [] w2 := Hd.start w2
    have L4 := (L2.box (.int .i64 lo) (.int .i64 hi) 25).box (.int .i64 lo2) (.int .i64 hi2) 25
    rw [size_alloc1] at L4
    have hbw : Below w.heap.size w w2 := (unhide HH).below.trans (h.below (by omega) (by omega))
    have hlt : w.heap.size + 2 ≤ w2.heap.size := by omega
    clear h hs2 HH
    have hB4 : Below w2.heap.size w2 ((w2.alloc (.cells #[.int .i64 lo, .int .i64 hi] 25)).alloc (.cells #[.int .i64 lo2, .int .i64 hi2] 25)) := L4.below
    generalize (w2.alloc (.cells #[.int .i64 lo, .int .i64 hi] 25)).alloc (.cells #[.int .i64 lo2, .int .i64 hi2] 25) = W4 at *
    have c0 := L4.get (b := w2.heap.size) (o := 0) (v := .int .i64 lo) (by simp)
    have c1 := L4.get (b := w2.heap.size) (o := 1) (v := .int .i64 hi) (by simp)
    have c2 := L4.get (b := w2.heap.size + 1) (o := 0) (v := .int .i64 lo2) (by simp)
    have c3 := L4.get (b := w2.heap.size + 1) (o := 1) (v := .int .i64 hi2) (by simp)
    have d4 : W4.cell? ⟨w.heap.size, 0, none⟩ = some (.int .i64 0) := by rw [hB4.cell (p := ⟨w.heap.size, 0, none⟩) (by show w.heap.size < _; omega)]; exact b4
    have d5 : W4.cell? ⟨w.heap.size, 1, none⟩ = some (.int .i64 0) := by rw [hB4.cell (p := ⟨w.heap.size, 1, none⟩) (by show w.heap.size < _; omega)]; exact b5
    have d6 : W4.cell? ⟨w.heap.size + 1, 0, none⟩ = some (.int .i64 0) := by rw [hB4.cell (p := ⟨w.heap.size + 1, 0, none⟩) (by show w.heap.size + 1 < _; omega)]; exact b6
    have d7 : W4.cell? ⟨w.heap.size + 1, 1, none⟩ = some (.int .i64 0) := by rw [hB4.cell (p := ⟨w.heap.size + 1, 1, none⟩) (by show w.heap.size + 1 < _; omega)]; exact b7
    have x4 : W4.frozen? ⟨w.heap.size, 0, none⟩ = false := by rw [hB4.frozen (p := ⟨w.heap.size, 0, none⟩) (by show w.heap.size < _; omega)]; exact y4
    have x5 : W4.frozen? ⟨w.heap.size, 1, none⟩ = false := by rw [hB4.frozen (p := ⟨w.heap.size, 1, none⟩) (by show w.heap.size < _; omega)]; exact y5
    have x6 : W4.frozen? ⟨w.heap.size + 1, 0, none⟩ = false := by rw [hB4.frozen (p := ⟨w.heap.size + 1, 0, none⟩) (by show w.heap.size + 1 < _; omega)]; exact y6
    have x7 : W4.frozen? ⟨w.heap.size + 1, 1, none⟩ = false := by rw [hB4.frozen (p := ⟨w.heap.size + 1, 1, none⟩) (by show w.heap.size + 1 < _; omega)]; exact y7
    have hb4 : Below w.heap.size w W4 := below_up hbw (by omega) hB4
    clear b4 b5 b6 b7 y4 y5 y6 y7 L2 L4 hB4 hbw
    generalize hg : w2.heap.size = g at *
    clear hg
    go_region
    go_wp2_with fail
    refine bodyPost_ret (results_tmp_two_two rfl _ _ w.heap.size (w.heap.size + 1) (.int .i64 lo) (.int .i64 hi) (.int .i64 lo2) (.int .i64 hi2) _ rfl rfl (by simp [go_sem, d4]) (by simp [go_sem, d5]) (by simp [go_sem, d6]) (by simp [go_sem, d7]) Tryd.underlying25 rfl (by kernel_rfl)) rfl ?_
    exact ⟨⟨_, _, _, _, _, rfl, hbd⟩, by first | exact ((((hb4.setCell (by exact Nat.le_refl _) _).setCell (by exact Nat.le_refl _) _).setCell (by exact Nat.le_add_right _ _) _).setCell (by exact Nat.le_add_right _ _) _) | exact ((((hb4.setCell (by exact Nat.le_refl _) _).setCell (by exact Nat.le_refl _) _).setCell (by exact Nat.le_add_right _ _) _).setCell (by exact Nat.le_add_right _ _) _).drew⟩
end Go.Proofs.YtjjglklbfigmiaaDoor.num
namespace Go.Proofs.YtjjglklbfigmiaaDoor.num
open Go.ChangeShapes Go.WideShapes Go.ChangeAt Go.RowKit

theorem cmpB_P {c a b : Int} (h : cmpB c a b = true) : cmpP c a b := by
  unfold cmpB at h
  unfold cmpP
  by_cases c1 : c = 1
  · subst c1; simp at h; exact .inl ⟨rfl, h⟩
  rw [if_neg c1] at h
  by_cases c2 : c = 2
  · subst c2; simp at h; exact .inr (.inl ⟨rfl, h⟩)
  rw [if_neg c2] at h
  by_cases c3 : c = 3
  · subst c3; simp at h; exact .inr (.inr (.inl ⟨rfl, h⟩))
  rw [if_neg c3] at h
  by_cases c4 : c = 4
  · subst c4; simp at h; exact .inr (.inr (.inr (.inl ⟨rfl, h⟩)))
  rw [if_neg c4] at h
  by_cases c5 : c = 5
  · subst c5; simp at h; exact .inr (.inr (.inr (.inr (.inl ⟨rfl, h⟩))))
  rw [if_neg c5] at h
  by_cases c6 : c = 6
  · subst c6; simp at h; exact .inr (.inr (.inr (.inr (.inr ⟨rfl, h⟩))))
  rw [if_neg c6] at h
  cases h
theorem cmp_key {c p q : Int} {A B : Prop} (h : cmpP c p q → A ∧ B) : cmpB c p q = false ∨ (cmpB c p q = true ∧ A ∧ B) := by
  cases hb : cmpB c p q
  · exact .inl rfl
  · exact .inr ⟨rfl, h (cmpB_P hb)⟩
end Go.Proofs.YtjjglklbfigmiaaDoor.num
