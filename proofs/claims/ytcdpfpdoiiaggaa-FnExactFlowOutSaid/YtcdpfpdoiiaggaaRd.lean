/-
  Rows of edges.
-/
import Derived.Test.YtcdpfpdoiiaggaaRc
import Derived.Deep.RegionWith
import Derived.BigRegion
namespace Go.Proofs.Ytcdpfpdoiiaggaa.rws
open Go.RowKit Go.Proofs.Ytcdpfpdoiiaggaa.num
set_option linter.unusedVariables false

/-- An edge. -/
structure Ed where
  a : Int
  b : Int
  c : Int
  d : Int
  e : Int
def ce (t : Ed) : List Value := [.int .i64 t.a, .int .i64 t.b, .int .i64 t.c, .int .i64 t.d, .int .i64 t.e]
abbrev Eds (base : Nat) (w : World) (v : Value) (l : List Ed) : Prop := Seq 5 ce (fun t => (Lit.int .i64 t.a).wf = true) base w v l
abbrev REds (base : Nat) (w : World) (v : Value) (l : List Ed) : Prop := Row 41 5 ce base w v l
theorem Seq.atE {ok : Ed → Prop} {base : Nat} {w : World} {a : Option Addr} {n cap : Nat} {l : List Ed} (h : Seq 5 ce ok base w (.slice a n cap) l) {j : Nat} {t : Ed} (hj : l[j]? = some t) :
    ∃ b off, a = some ⟨b, off, none⟩ ∧ b < w.heap.size ∧ ok t ∧ w.cell? ⟨b, off + j * 5, none⟩ = some (.int .i64 t.a) ∧ w.cell? ⟨b, off + j * 5 + 1, none⟩ = some (.int .i64 t.b) ∧ w.cell? ⟨b, off + j * 5 + 2, none⟩ = some (.int .i64 t.c) ∧ w.cell? ⟨b, off + j * 5 + 3, none⟩ = some (.int .i64 t.d) ∧ w.cell? ⟨b, off + j * 5 + 4, none⟩ = some (.int .i64 t.e) := by
  obtain ⟨b, off, e1, e2, e0, e3⟩ := h.at hj
  exact ⟨b, off, e1, e2, e0, e3 0 _ rfl, e3 1 _ rfl, e3 2 _ rfl, e3 3 _ rfl, e3 4 _ rfl⟩

set_option maxHeartbeats 4000000 in
set_option maxRecDepth 100000 in
theorem szE_any {base : Nat} (l : List Ed) (left : Int) (v : Value) (w : World) (h : Eds base w v l) (h0 : 0 ≤ left) (h1 : left ≤ 1048576) :
    Calls Try.prog 15 #[v, .int .i64 left] w fun e w' => (∃ r : Int, e = .returned (.int .i64 r) ∧ Left left r (l.length ≤ 1048576)) ∧ w' = w := by
  obtain ⟨a, cap, rfl, hc1, hc2⟩ := h.shape
  unfold maxLen at hc2
  clear h
  have gw : IntKind.i64.wrap (left - (l.length : Int)) = left - (l.length : Int) := IntWalk.i64_in _ ⟨by omega, by omega⟩
  by_cases hneg : left - (l.length : Int) < 0
  · go_enter Try.func15, Try.ntmps15
    go_wp2
    go_ret
    exact ⟨⟨-1, rfl, .inl rfl⟩, rfl⟩
  · go_enter Try.func15, Try.ntmps15
    go_wp2
    go_ret
    exact ⟨⟨_, rfl, .inr ⟨by omega, by omega, by omega⟩⟩, rfl⟩

set_option maxHeartbeats 4000000 in
set_option maxRecDepth 100000 in
theorem toEdge_any (a b c d e : Int) (w : World) :
    Calls Try.prog 24 #[.agg #[.int .i64 a, .int .i64 b, .int .i64 c, .int .i64 d, .int .i64 e]] w fun x w' => x = .returned (.agg #[.int .i64 a, .int .i64 b, .int .i64 c, .int .i64 d, .int .i64 e]) ∧ Below w.heap.size w w' := by
  go_enter Try.func24, Try.ntmps24
  go_wp2
  refine bodyPost_ret (results_cell1 rfl _ _ (w.heap.size + 1) 41 _ (0, 0) _ rfl (at_alloc (at_new1 _ _ _)) Try.underlying41 rfl (by kernel_rfl)) rfl ?_
  exact ⟨rfl, below3 _ _ _ _⟩
theorem infoE : (Try.prog.info? 41).map (fun i => (i.zero, i.size, i.bytes)) = some (some (.agg #[.int .i64 0, .int .i64 0, .int .i64 0, .int .i64 0, .int .i64 0]), 5, 40) := by kernel_rfl
set_option maxHeartbeats 4000000 in
set_option maxRecDepth 100000 in
theorem toE_any {base : Nat} (l : List Ed) (v : Value) (w : World) (h : Eds base w v l) (h20 : l.length ≤ 1048576) :
    Calls Try.prog 18 #[v] w fun e w' => (∃ v', e = .returned v' ∧ REds w.heap.size w' v' l) ∧ Below w.heap.size w w' := by
  obtain ⟨a, cap, rfl, hc1, hc2⟩ := h.shape
  obtain ⟨i0, hi, hz0, hz1, hz2⟩ := info_parts infoE
  have H := hide h
  unfold maxLen at hc2
  clear h
  have hlen : ∃ len, l.length = len := ⟨_, rfl⟩
  obtain ⟨len, hlen⟩ := hlen
  have HL := hide hlen
  rw [hlen] at h20 hc1 ⊢
  clear hlen
  go_enter Try.func18, Try.ntmps18
  go_wp2_with (at_make; refine wpList_make_full _ rfl _ _ 29 rfl w.heap.size 41 i0 _ 5 Try.underlying29 hi hz0 hz1 .i64 .i64 _ _ len rfl rfl rfl rfl (by rw [hz2]; omega) (by unfold maxLen; omega) (Nat.le_refl _) ?_; intro w1 hown hgrow)
  have B1 := hide ((Below.refl _ w).grown hgrow (Nat.le_refl _) (fun k hk => by cases hk))
  have hxl := hown.1
  generalize (madeCells _ _).toList = xs0 at hown hxl
  have R1 := hide hown
  clear hown hgrow
  go_loopw [4] (fun i wr => ∃ (j : Nat) (rest : List Value), j ≤ len ∧ i = .int .i64 j ∧ rest.length = (len - j) * 5 ∧ Hid (wr.ownsRow w.heap.size 41 5 (.slice (some ⟨w.heap.size, 0, none⟩) len len) len (((l.take j).map ce).flatten ++ rest)) ∧ Hid (Below w.heap.size w wr)) (fun i _ => len - (intOf i).toNat)
  case atStart => exact ⟨0, xs0, by omega, rfl, by omega, hide (by simpa using unhide R1), B1⟩
  case round =>
    obtain ⟨j, rest, hj, rfl, hrest, HR, HB⟩ := hrel
    by_cases hlt : j < len
    · have hl := unhide HL
      obtain ⟨t, ht⟩ : ∃ t, l[j]? = some t := ⟨_, List.getElem?_eq_getElem (by omega)⟩
      obtain ⟨b, off, rfl, hb, -, c0, c1, c2, c3, c4⟩ := ((unhide H).below (unhide HB)).atE ht
      have HT := hide ht
      have htt := toEdge_any t.a t.b t.c t.d t.e
      clear ht hl
      go_wp2_with (go_at_call 24; refine (htt _).mono ?_; rintro e w2 ⟨rfl, hb1⟩; have R2 := hide (row_below (unhide HR) (fun g hg => hb1.block g (row_lt (unhide HR) g hg).2)); obtain ⟨⟨y0, x0⟩, f0, hg2⟩ := row_at (unhide R2) (o := j * 5) (by omega); obtain ⟨⟨y1, x1⟩, f1, -⟩ := row_at (unhide R2) (o := j * 5 + 1) (by omega); obtain ⟨⟨y2, x2⟩, f2, -⟩ := row_at (unhide R2) (o := j * 5 + 2) (by omega); obtain ⟨⟨y3, x3⟩, f3, -⟩ := row_at (unhide R2) (o := j * 5 + 3) (by omega); obtain ⟨⟨y4, x4⟩, f4, -⟩ := row_at (unhide R2) (o := j * 5 + 4) (by omega))
      refine ⟨⟨j + 1, rest.drop 5, by omega, by go_num, by simp; omega, hide ?_, hide ?_⟩, by simp [intOf]; omega⟩
      · have hL : ((l.take j).map ce).flatten.length = j * 5 := by
          rw [map_len (k := 5) (fun _ => rfl)]
          have := unhide HL
          simp; omega
        rw [fill_snoc (unhide HT), show ce t = [.int .i64 t.a, .int .i64 t.b, .int .i64 t.c, .int .i64 t.d, .int .i64 t.e] from rfl, set5 _ rest (j * 5) _ _ _ _ _ hL (by omega)]
        exact row_put (row_put (row_put (row_put (row_put (unhide R2) _) _) _) _) _
      · exact ((((((unhide HB).trans (hb1.mono (unhide HB).size)).setCell (p := ⟨w.heap.size, j * 5, none⟩) (Nat.le_refl _) _).setCell (p := ⟨w.heap.size, j * 5 + 1, none⟩) (Nat.le_refl _) _).setCell (p := ⟨w.heap.size, j * 5 + 2, none⟩) (Nat.le_refl _) _).setCell (p := ⟨w.heap.size, j * 5 + 3, none⟩) (Nat.le_refl _) _).setCell (p := ⟨w.heap.size, j * 5 + 4, none⟩) (Nat.le_refl _) _
    · obtain rfl : j = len := by omega
      obtain rfl : rest = [] := List.length_eq_zero_iff.1 (by omega)
      go_wp2
      go_ret
      refine ⟨⟨_, rfl, ?_⟩, unhide HB⟩
      have := unhide HR
      have hz := unhide HL
      rw [List.append_nil, List.take_of_length_le (by omega), ← hz] at this
      rw [← hz]
      exact this

theorem eqEdge_same (a b c d e : Int) (w : World) : Calls Try.prog 25 #[.agg #[.int .i64 a, .int .i64 b, .int .i64 c, .int .i64 d, .int .i64 e], .agg #[.int .i64 a, .int .i64 b, .int .i64 c, .int .i64 d, .int .i64 e]] w fun x w' => x = .returned (.bool true) ∧ Below w.heap.size w w' := by
  go_enter Try.func25, Try.ntmps25
  go_wp2
  go_ret
  exact ⟨rfl, below2 _ _ _⟩
set_option maxHeartbeats 4000000 in
set_option maxRecDepth 100000 in
theorem eqE_same {b1 b2 : Nat} {ok1 ok2 : Ed → Prop} (l : List Ed) (v1 v2 : Value) (w : World) (h1 : Seq 5 ce ok1 b1 w v1 l) (h2 : Seq 5 ce ok2 b2 w v2 l) :
    Calls Try.prog 21 #[v1, v2] w fun e w' => e = .returned (.bool true) ∧ Below w.heap.size w w' := by
  obtain ⟨a1, cap1, rfl, hc1, hm1⟩ := h1.shape
  obtain ⟨a2, cap2, rfl, hc2, hm2⟩ := h2.shape
  have H := hide (And.intro h1 h2)
  unfold maxLen at hm1 hm2
  clear h1 h2
  go_enter Try.func21, Try.ntmps21
  go_wp2
  go_loopw [5] (fun i wr => ∃ j : Nat, j ≤ l.length ∧ i = .int .i64 j ∧ Hid (Below w.heap.size w wr)) (fun i _ => l.length - (intOf i).toNat)
  case atStart => exact ⟨0, by omega, rfl, hide (Below.refl _ _)⟩
  case round =>
    obtain ⟨j, hj, rfl, HB⟩ := hrel
    by_cases hlt : j < l.length
    · obtain ⟨t, ht⟩ : ∃ t, l[j]? = some t := ⟨_, List.getElem?_eq_getElem hlt⟩
      obtain ⟨g1, o1, rfl, hg1, -, c0, c1, c2, c3, c4⟩ := ((unhide H).1.below (unhide HB)).atE ht
      obtain ⟨g2, o2, rfl, hg2, -, d0, d1, d2, d3, d4⟩ := ((unhide H).2.below (unhide HB)).atE ht
      have heq := eqEdge_same t.a t.b t.c t.d t.e
      clear ht
      go_wp2
      go_region_with (go_at_call 25; refine (heq _).mono ?_; rintro e w1 ⟨rfl, hb1⟩)
      all_goals go_wp2
      all_goals go_roundw
      all_goals first
        | exact ⟨j + 1, by omega, by go_num, bel_next HB (Nat.le_refl _) ⟨hb1.os, hb1.tape, hb1.output, hb1.size, hb1.block⟩⟩
        | (simp [intOf]; omega)
    · go_wp2
      go_ret
      exact ⟨rfl, unhide HB⟩

set_option maxHeartbeats 4000000 in
set_option maxRecDepth 100000 in
theorem markE_any {base lo hi n : Nat} {xs : List Value} (k : Int) (v : Value) (w : World) (h : w.ownsRow base 41 5 v n xs) (hv : ∀ g, v.ownBlock = some g → lo ≤ g ∧ g < hi) (h20 : n ≤ 1048576) (k0 : 1 ≤ k) (k1 : k ≤ 1099511627776) :
    Calls Try.prog 23 #[v, .int .i64 k] w fun e w' => e = .returned (.int .i64 (k + 5 * n)) ∧ Marked lo hi w w' := by
  obtain ⟨a, cap, rfl, hc1, hc2, ha⟩ := row_head h
  have R1 := hide h
  have HV := hide hv
  unfold maxLen at hc2
  clear h hv
  go_enter Try.func23, Try.ntmps23
  go_wp2
  go_loopw [1, 5] (fun kv i wr => ∃ (j : Nat), j ≤ n ∧ i = .int .i64 j ∧ kv = .int .i64 (k + 5 * j) ∧ Hid (∃ xs, wr.ownsRow base 41 5 (.slice a n cap) n xs) ∧ Hid (Marked lo hi w wr)) (fun _ i _ => n - (intOf i).toNat)
  case atStart => exact ⟨0, by omega, rfl, by simp, hide ⟨_, unhide R1⟩, hide (Marked.refl _ _ _)⟩
  case round =>
    obtain ⟨j, hj, rfl, rfl, HR, HM⟩ := hrel
    by_cases hlt : j < n
    · obtain ⟨g, rfl⟩ := ha (by omega)
      obtain ⟨xr, hr⟩ := unhide HR
      obtain ⟨⟨y0, x0⟩, f0, hg2⟩ := row_at hr (o := j * 5) (by omega)
      obtain ⟨⟨y1, x1⟩, f1, -⟩ := row_at hr (o := j * 5 + 1) (by omega)
      obtain ⟨⟨y2, x2⟩, f2, -⟩ := row_at hr (o := j * 5 + 2) (by omega)
      obtain ⟨⟨y3, x3⟩, f3, -⟩ := row_at hr (o := j * 5 + 3) (by omega)
      obtain ⟨⟨y4, x4⟩, f4, -⟩ := row_at hr (o := j * 5 + 4) (by omega)
      have HR2 := hide hr
      have hgb := (unhide HV) g rfl
      clear ha hr
      go_wp2
      refine ⟨⟨j + 1, by omega, by go_num, by go_num, hide ⟨_, row_put (row_put (row_put (row_put (row_put (unhide HR2) _) _) _) _) _⟩, hide (((((unhide HM).set hgb.1 hgb.2 _).set hgb.1 hgb.2 _).set hgb.1 hgb.2 _).set hgb.1 hgb.2 _ |>.set hgb.1 hgb.2 _)⟩, by simp [intOf]; omega⟩
    · obtain rfl : j = n := by omega
      go_wp2
      go_ret
      exact ⟨rfl, unhide HM⟩
end Go.Proofs.Ytcdpfpdoiiaggaa.rws
