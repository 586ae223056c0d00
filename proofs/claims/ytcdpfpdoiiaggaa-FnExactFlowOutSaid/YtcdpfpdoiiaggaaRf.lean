/-
  The model's edges of a point.
-/
import Derived.Test.YtcdpfpdoiiaggaaRe
import Derived.Maps.OwnRows
import Derived.WalkSpells
namespace Go.Proofs.Ytcdpfpdoiiaggaa.rws
open Go.RowKit Go.Maps Go.Proofs.Ytcdpfpdoiiaggaa.num
set_option linter.unusedVariables false

/-- The places of the edges that leave a point, of the first j edges. -/
def outs (es : List Ed) (p : Int) (j : Nat) : List Int := ((List.range j).filter fun i => match es[i]? with | some t => decide (t.a = p) | none => false).map fun (i : Nat) => (i : Int)
theorem outs_len (es : List Ed) (p : Int) (j : Nat) : (outs es p j).length ≤ j := by
  unfold outs
  rw [List.length_map]
  exact Nat.le_trans (List.length_filter_le _ _) (by simp)
theorem outs_yes {es : List Ed} {p : Int} {j : Nat} {t : Ed} (ht : es[j]? = some t) (h : t.a = p) : outs es p (j + 1) = outs es p j ++ [(j : Int)] := by
  simp [outs, List.range_succ, List.filter_append, ht, h]
theorem outs_no {es : List Ed} {p : Int} {j : Nat} {t : Ed} (ht : es[j]? = some t) (h : ¬ t.a = p) : outs es p (j + 1) = outs es p j := by
  simp [outs, List.range_succ, List.filter_append, ht, h]
theorem flat_ci (l : List Int) : (l.map ci).flatten = l.map (Value.int .i64) := by
  induction l with
  | nil => rfl
  | cons a r ih => simp [ci] at ih ⊢; exact ih

set_option maxHeartbeats 4000000 in
set_option maxRecDepth 100000 in
theorem specOut_any {base : Nat} (es : List Ed) (p : Int) (v0 v1 v2 v3 : Value) (w : World) (h : Eds base w v3 es) (h20 : es.length ≤ 1048576) :
    Calls Try.prog 5 #[.agg #[v0, v1, v2, v3], .int .i64 p] w fun e w' => (∃ v', e = .returned v' ∧ RInts w.heap.size w' v' (outs es p es.length)) ∧ Below w.heap.size w w' := by
  obtain ⟨a, cap, rfl, hc1, hc2⟩ := h.shape
  obtain ⟨i0, hi, hz0, hz1, hz2⟩ := info_parts infoI
  have H := hide h
  unfold maxLen at hc2
  clear h
  go_enter Try.func5, Try.ntmps5
  go_wp2
  go_loopw [5, 6] (fun ov i wr => ∃ (j : Nat), j ≤ es.length ∧ i = .int .i64 j ∧ Hid (wr.ownsRow (w.heap.size + 1) 3 1 ov (outs es p j).length ((outs es p j).map (Value.int .i64))) ∧ Hid (Below w.heap.size w wr) ∧ Hid (wr.heap[w.heap.size]? = some (.cells #[v0, v1, v2, .slice a es.length cap] 31))) (fun _ i _ => es.length - (intOf i).toNat)
  case atStart => exact ⟨0, by omega, rfl, hide ⟨rfl, .inr ⟨_, 0, #[], rfl, Nat.le_refl _, at_new1 _ _ _, by simp [outs], by unfold maxLen; omega, rfl, by simp [outs]⟩⟩, hide (below2 _ _ _), hide (at_alloc (at_new _ _))⟩
  case round =>
    obtain ⟨j, hj, rfl, HR, HB, HZ⟩ := hrel
    have zc : wr.cell? ⟨w.heap.size, 3, none⟩ = some (.slice a es.length cap) := cell_of (unhide HZ) rfl
    have zl : w.heap.size < wr.heap.size := (Array.getElem?_eq_some_iff.1 (unhide HZ)).1
    by_cases hlt : j < es.length
    · obtain ⟨t, ht⟩ : ∃ t, es[j]? = some t := ⟨_, List.getElem?_eq_getElem hlt⟩
      obtain ⟨b, off, rfl, hb, -, c0, -⟩ := ((unhide H).below (unhide HB)).atE ht
      have hol := outs_len es p j
      by_cases hp : t.a = p
      · have HT := hide (outs_yes ht hp)
        have hpb : (t.a == p) = true := by simpa using hp
        clear ht
        go_wp2_with (first
          | (at_builtin; refine wpList_append_own_at _ rfl _ _ 22 rfl (w.heap.size + 1) 3 i0 (.int .i64 0) 1 8 Try.underlying22 hi hz0 hz1 hz2 rfl (by decide) _ _ _ rfl ((unhide HR).alloc _) ⟨wr.heap.size, 0, none⟩ 1 1 [.int .i64 j] rfl rfl (cell_one_new _ _ _) (ints_oneCell .i64 [(j : Int)]) (by unfold maxLen; omega) (by omega) (by simp; omega) ?_; intro v' w1 hown' hgrow hnil hloc)
          | go_in)
        have hall := (World.grownBy_alloc wr _ _).trans hgrow
        have hlt1 := fun g hg => (row_lt (unhide HR) g hg).1
        go_roundw
        case rel =>
          refine ⟨j + 1, by omega, by go_num, hide ?_, hide ((unhide HB).grown hall (Nat.le_of_lt zl) (fun g hg => by have := hlt1 g hg; omega)), hide ((hall.block _ zl (fun e => by have := hlt1 _ e.symm; omega)).trans (unhide HZ))⟩
          rw [unhide HT, List.map_append, List.length_append]
          exact hown'
        case measure => simp [intOf]; omega
      · have HT := hide (outs_no ht hp)
        have hpb : (t.a == p) = false := by simpa using hp
        clear ht
        go_wp2
        go_roundw
        case rel => exact ⟨j + 1, by omega, by go_num, by rw [unhide HT]; exact HR, HB, HZ⟩
        case measure => simp [intOf]; omega
    · obtain rfl : j = es.length := by omega
      go_wp2
      go_ret
      refine ⟨⟨_, rfl, ?_⟩, unhide HB⟩
      unfold RInts Row
      rw [flat_ci]
      exact row_mono (unhide HR) (by omega)
end Go.Proofs.Ytcdpfpdoiiaggaa.rws
