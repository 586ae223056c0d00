/-
  Rows of numbers and of bools: how much they hold, copies, and that they are the same.
-/
import Derived.Test.YtcdpfpdoiiaggaaRa
namespace Go.Proofs.Ytcdpfpdoiiaggaa.rws
open Go.RowKit Go.Proofs.Ytcdpfpdoiiaggaa.num
set_option linter.unusedVariables false

/-- A number's cell, a bool's. -/
def ci (x : Int) : List Value := [.int .i64 x]
def cb (x : Bool) : List Value := [.bool x]
abbrev Ints (base : Nat) (w : World) (v : Value) (l : List Int) : Prop := Seq 1 ci (fun x => (Lit.int .i64 x).wf = true) base w v l
abbrev Bools (base : Nat) (w : World) (v : Value) (l : List Bool) : Prop := Seq 1 cb (fun _ => True) base w v l
abbrev RInts (base : Nat) (w : World) (v : Value) (l : List Int) : Prop := Row 3 1 ci base w v l
abbrev RBools (base : Nat) (w : World) (v : Value) (l : List Bool) : Prop := Row 4 1 cb base w v l
theorem Seq.atI {ok : Int → Prop} {base : Nat} {w : World} {a : Option Addr} {n cap : Nat} {l : List Int} (h : Seq 1 ci ok base w (.slice a n cap) l) {j : Nat} {t : Int} (hj : l[j]? = some t) :
    ∃ b off, a = some ⟨b, off, none⟩ ∧ b < w.heap.size ∧ w.cell? ⟨b, off + j, none⟩ = some (.int .i64 t) := by
  obtain ⟨b, off, e1, e2, -, e3⟩ := h.at hj
  have := e3 0 _ rfl
  rw [Nat.mul_one, Nat.add_zero] at this
  exact ⟨b, off, e1, e2, this⟩
theorem Seq.atB {ok : Bool → Prop} {base : Nat} {w : World} {a : Option Addr} {n cap : Nat} {l : List Bool} (h : Seq 1 cb ok base w (.slice a n cap) l) {j : Nat} {t : Bool} (hj : l[j]? = some t) :
    ∃ b off, a = some ⟨b, off, none⟩ ∧ b < w.heap.size ∧ w.cell? ⟨b, off + j, none⟩ = some (.bool t) := by
  obtain ⟨b, off, e1, e2, -, e3⟩ := h.at hj
  have := e3 0 _ rfl
  rw [Nat.mul_one, Nat.add_zero] at this
  exact ⟨b, off, e1, e2, this⟩
/-- What is left, or -1. -/
def Left (left r : Int) (p : Prop) : Prop := r = -1 ∨ (0 ≤ r ∧ r ≤ left ∧ p)

set_option maxHeartbeats 4000000 in
set_option maxRecDepth 100000 in
theorem szI_any {base : Nat} (l : List Int) (left : Int) (v : Value) (w : World) (h : Ints base w v l) (h0 : 0 ≤ left) (h1 : left ≤ 1048576) :
    Calls Try.prog 13 #[v, .int .i64 left] w fun e w' => (∃ r : Int, e = .returned (.int .i64 r) ∧ Left left r (l.length ≤ 1048576)) ∧ w' = w := by
  obtain ⟨a, cap, rfl, hc1, hc2⟩ := h.shape
  unfold maxLen at hc2
  clear h
  have gw : IntKind.i64.wrap (left - (l.length : Int)) = left - (l.length : Int) := IntWalk.i64_in _ ⟨by omega, by omega⟩
  by_cases hneg : left - (l.length : Int) < 0
  · go_enter Try.func13, Try.ntmps13
    go_wp2
    go_ret
    exact ⟨⟨-1, rfl, .inl rfl⟩, rfl⟩
  · go_enter Try.func13, Try.ntmps13
    go_wp2
    go_ret
    exact ⟨⟨_, rfl, .inr ⟨by omega, by omega, by omega⟩⟩, rfl⟩

theorem infoI : (Try.prog.info? 3).map (fun i => (i.zero, i.size, i.bytes)) = some (some (.int .i64 0), 1, 8) := by kernel_rfl
set_option maxHeartbeats 4000000 in
set_option maxRecDepth 100000 in
theorem toI_any {base : Nat} (l : List Int) (v : Value) (w : World) (h : Ints base w v l) (h20 : l.length ≤ 1048576) :
    Calls Try.prog 16 #[v] w fun e w' => (∃ v', e = .returned v' ∧ RInts w.heap.size w' v' l) ∧ Below w.heap.size w w' := by
  obtain ⟨a, cap, rfl, hc1, hc2⟩ := h.shape
  obtain ⟨i0, hi, hz0, hz1, hz2⟩ := info_parts infoI
  have H := hide h
  unfold maxLen at hc2
  clear h
  have hlen : ∃ len, l.length = len := ⟨_, rfl⟩
  obtain ⟨len, hlen⟩ := hlen
  have HL := hide hlen
  rw [hlen] at h20 hc1 ⊢
  clear hlen
  go_enter Try.func16, Try.ntmps16
  go_wp2_with (at_make; refine wpList_make_full _ rfl _ _ 22 rfl w.heap.size 3 i0 _ 1 Try.underlying22 hi hz0 hz1 .i64 .i64 _ _ len rfl rfl rfl rfl (by rw [hz2]; omega) (by unfold maxLen; omega) (Nat.le_refl _) ?_; intro w1 hown hgrow)
  have B1 := hide ((Below.refl _ w).grown hgrow (Nat.le_refl _) (fun k hk => by cases hk))
  have hxl := hown.1
  generalize (madeCells _ _).toList = xs0 at hown hxl
  have R1 := hide hown
  clear hown hgrow
  go_loopw [4] (fun i wr => ∃ (j : Nat) (rest : List Value), j ≤ len ∧ i = .int .i64 j ∧ rest.length = len - j ∧ Hid (wr.ownsRow w.heap.size 3 1 (.slice (some ⟨w.heap.size, 0, none⟩) len len) len (((l.take j).map ci).flatten ++ rest)) ∧ Hid (Below w.heap.size w wr)) (fun i _ => len - (intOf i).toNat)
  case atStart => exact ⟨0, xs0, by omega, rfl, by omega, hide (by simpa using unhide R1), B1⟩
  case round =>
    obtain ⟨j, rest, hj, rfl, hrest, HR, HB⟩ := hrel
    by_cases hlt : j < len
    · have hl := unhide HL
      obtain ⟨t, ht⟩ : ∃ t, l[j]? = some t := ⟨_, List.getElem?_eq_getElem (by omega)⟩
      obtain ⟨b, off, rfl, hb, hc⟩ := ((unhide H).below (unhide HB)).atI ht
      have HT := hide ht
      obtain ⟨⟨y0, x0⟩, f0, hg2⟩ := row_at (unhide HR) (o := j) (by omega)
      clear ht hl
      go_wp2
      refine ⟨⟨j + 1, rest.drop 1, by omega, by go_num, by simp; omega, hide ?_, hide ?_⟩, by simp [intOf]; omega⟩
      · have hL : ((l.take j).map ci).flatten.length = j := by
          rw [map_len (k := 1) (fun _ => rfl)]
          have := unhide HL
          simp; omega
        rw [fill_snoc (unhide HT), show ci t = [Value.int .i64 t] from rfl, set1 _ rest j _ hL (by omega)]
        exact row_put (unhide HR) _
      · exact (unhide HB).setCell (p := ⟨w.heap.size, j, none⟩) (Nat.le_refl _) _
    · obtain rfl : j = len := by omega
      obtain rfl : rest = [] := List.length_eq_zero_iff.1 (by omega)
      go_wp2
      go_ret
      refine ⟨⟨_, rfl, ?_⟩, unhide HB⟩
      have := unhide HR
      have hz := unhide HL
      rw [List.append_nil, List.take_of_length_le (by omega), ← hz] at this
      rw [← hz]
      exact this

set_option maxHeartbeats 4000000 in
set_option maxRecDepth 100000 in
theorem szB_any {base : Nat} (l : List Bool) (left : Int) (v : Value) (w : World) (h : Bools base w v l) (h0 : 0 ≤ left) (h1 : left ≤ 1048576) :
    Calls Try.prog 14 #[v, .int .i64 left] w fun e w' => (∃ r : Int, e = .returned (.int .i64 r) ∧ Left left r (l.length ≤ 1048576)) ∧ w' = w := by
  obtain ⟨a, cap, rfl, hc1, hc2⟩ := h.shape
  unfold maxLen at hc2
  clear h
  have gw : IntKind.i64.wrap (left - (l.length : Int)) = left - (l.length : Int) := IntWalk.i64_in _ ⟨by omega, by omega⟩
  by_cases hneg : left - (l.length : Int) < 0
  · go_enter Try.func14, Try.ntmps14
    go_wp2
    go_ret
    exact ⟨⟨-1, rfl, .inl rfl⟩, rfl⟩
  · go_enter Try.func14, Try.ntmps14
    go_wp2
    go_ret
    exact ⟨⟨_, rfl, .inr ⟨by omega, by omega, by omega⟩⟩, rfl⟩

theorem infoB : (Try.prog.info? 4).map (fun i => (i.zero, i.size, i.bytes)) = some (some (.bool false), 1, 1) := by kernel_rfl
set_option maxHeartbeats 4000000 in
set_option maxRecDepth 100000 in
theorem toB_any {base : Nat} (l : List Bool) (v : Value) (w : World) (h : Bools base w v l) (h20 : l.length ≤ 1048576) :
    Calls Try.prog 17 #[v] w fun e w' => (∃ v', e = .returned v' ∧ RBools w.heap.size w' v' l) ∧ Below w.heap.size w w' := by
  obtain ⟨a, cap, rfl, hc1, hc2⟩ := h.shape
  obtain ⟨i0, hi, hz0, hz1, hz2⟩ := info_parts infoB
  have H := hide h
  unfold maxLen at hc2
  clear h
  have hlen : ∃ len, l.length = len := ⟨_, rfl⟩
  obtain ⟨len, hlen⟩ := hlen
  have HL := hide hlen
  rw [hlen] at h20 hc1 ⊢
  clear hlen
  go_enter Try.func17, Try.ntmps17
  go_wp2_with (at_make; refine wpList_make_full _ rfl _ _ 23 rfl w.heap.size 4 i0 _ 1 Try.underlying23 hi hz0 hz1 .i64 .i64 _ _ len rfl rfl rfl rfl (by rw [hz2]; omega) (by unfold maxLen; omega) (Nat.le_refl _) ?_; intro w1 hown hgrow)
  have B1 := hide ((Below.refl _ w).grown hgrow (Nat.le_refl _) (fun k hk => by cases hk))
  have hxl := hown.1
  generalize (madeCells _ _).toList = xs0 at hown hxl
  have R1 := hide hown
  clear hown hgrow
  go_loopw [4] (fun i wr => ∃ (j : Nat) (rest : List Value), j ≤ len ∧ i = .int .i64 j ∧ rest.length = len - j ∧ Hid (wr.ownsRow w.heap.size 4 1 (.slice (some ⟨w.heap.size, 0, none⟩) len len) len (((l.take j).map cb).flatten ++ rest)) ∧ Hid (Below w.heap.size w wr)) (fun i _ => len - (intOf i).toNat)
  case atStart => exact ⟨0, xs0, by omega, rfl, by omega, hide (by simpa using unhide R1), B1⟩
  case round =>
    obtain ⟨j, rest, hj, rfl, hrest, HR, HB⟩ := hrel
    by_cases hlt : j < len
    · have hl := unhide HL
      obtain ⟨t, ht⟩ : ∃ t, l[j]? = some t := ⟨_, List.getElem?_eq_getElem (by omega)⟩
      obtain ⟨b, off, rfl, hb, hc⟩ := ((unhide H).below (unhide HB)).atB ht
      have HT := hide ht
      obtain ⟨⟨y0, x0⟩, f0, hg2⟩ := row_at (unhide HR) (o := j) (by omega)
      clear ht hl
      go_wp2
      refine ⟨⟨j + 1, rest.drop 1, by omega, by go_num, by simp; omega, hide ?_, hide ?_⟩, by simp [intOf]; omega⟩
      · have hL : ((l.take j).map cb).flatten.length = j := by
          rw [map_len (k := 1) (fun _ => rfl)]
          have := unhide HL
          simp; omega
        rw [fill_snoc (unhide HT), show cb t = [Value.bool t] from rfl, set1 _ rest j _ hL (by omega)]
        exact row_put (unhide HR) _
      · exact (unhide HB).setCell (p := ⟨w.heap.size, j, none⟩) (Nat.le_refl _) _
    · obtain rfl : j = len := by omega
      obtain rfl : rest = [] := List.length_eq_zero_iff.1 (by omega)
      go_wp2
      go_ret
      refine ⟨⟨_, rfl, ?_⟩, unhide HB⟩
      have := unhide HR
      have hz := unhide HL
      rw [List.append_nil, List.take_of_length_le (by omega), ← hz] at this
      rw [← hz]
      exact this

set_option maxHeartbeats 4000000 in
set_option maxRecDepth 100000 in
theorem eqI_same {b1 b2 : Nat} (l : List Int) (v1 v2 : Value) (w : World) {ok1 ok2 : Int → Prop} (h1 : Seq 1 ci ok1 b1 w v1 l) (h2 : Seq 1 ci ok2 b2 w v2 l) :
    Calls Try.prog 8 #[v1, v2] w fun e w' => e = .returned (.bool true) ∧ Below w.heap.size w w' := by
  obtain ⟨a1, cap1, rfl, hc1, hm1⟩ := h1.shape
  obtain ⟨a2, cap2, rfl, hc2, hm2⟩ := h2.shape
  have H := hide (And.intro h1 h2)
  unfold maxLen at hm1 hm2
  clear h1 h2
  go_enter Try.func8, Try.ntmps8
  go_wp2
  go_loopw [5] (fun i wr => ∃ j : Nat, j ≤ l.length ∧ i = .int .i64 j ∧ Hid (Below w.heap.size w wr)) (fun i _ => l.length - (intOf i).toNat)
  case atStart => exact ⟨0, by omega, rfl, hide (Below.refl _ _)⟩
  case round =>
    obtain ⟨j, hj, rfl, HB⟩ := hrel
    by_cases hlt : j < l.length
    · obtain ⟨t, ht⟩ : ∃ t, l[j]? = some t := ⟨_, List.getElem?_eq_getElem hlt⟩
      obtain ⟨g1, o1, rfl, hg1, c1⟩ := ((unhide H).1.below (unhide HB)).atI ht
      obtain ⟨g2, o2, rfl, hg2, c2⟩ := ((unhide H).2.below (unhide HB)).atI ht
      clear ht
      go_wp2
      go_region
      all_goals go_wp2
      all_goals go_roundw
      all_goals first
        | exact ⟨j + 1, by omega, by go_num, bel_drew HB⟩
        | (simp [intOf]; omega)
    · go_wp2
      go_ret
      exact ⟨rfl, unhide HB⟩

set_option maxHeartbeats 4000000 in
set_option maxRecDepth 100000 in
theorem eqB_same {b1 b2 : Nat} (l : List Bool) (v1 v2 : Value) (w : World) {ok1 ok2 : Bool → Prop} (h1 : Seq 1 cb ok1 b1 w v1 l) (h2 : Seq 1 cb ok2 b2 w v2 l) :
    Calls Try.prog 20 #[v1, v2] w fun e w' => e = .returned (.bool true) ∧ Below w.heap.size w w' := by
  obtain ⟨a1, cap1, rfl, hc1, hm1⟩ := h1.shape
  obtain ⟨a2, cap2, rfl, hc2, hm2⟩ := h2.shape
  have H := hide (And.intro h1 h2)
  unfold maxLen at hm1 hm2
  clear h1 h2
  go_enter Try.func20, Try.ntmps20
  go_wp2
  go_loopw [5] (fun i wr => ∃ j : Nat, j ≤ l.length ∧ i = .int .i64 j ∧ Hid (Below w.heap.size w wr)) (fun i _ => l.length - (intOf i).toNat)
  case atStart => exact ⟨0, by omega, rfl, hide (Below.refl _ _)⟩
  case round =>
    obtain ⟨j, hj, rfl, HB⟩ := hrel
    by_cases hlt : j < l.length
    · obtain ⟨t, ht⟩ : ∃ t, l[j]? = some t := ⟨_, List.getElem?_eq_getElem hlt⟩
      obtain ⟨g1, o1, rfl, hg1, c1⟩ := ((unhide H).1.below (unhide HB)).atB ht
      obtain ⟨g2, o2, rfl, hg2, c2⟩ := ((unhide H).2.below (unhide HB)).atB ht
      clear ht
      go_wp2
      go_region
      all_goals go_wp2
      all_goals go_roundw
      all_goals first
        | exact ⟨j + 1, by omega, by go_num, bel_drew HB⟩
        | (simp [intOf]; omega)
    · go_wp2
      go_ret
      exact ⟨rfl, unhide HB⟩
end Go.Proofs.Ytcdpfpdoiiaggaa.rws
