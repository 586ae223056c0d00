/-
  Rows of numbers and of bools: marks.
-/
import Derived.Test.YtcdpfpdoiiaggaaRb
namespace Go.Proofs.Ytcdpfpdoiiaggaa.rws
open Go.RowKit Go.Proofs.Ytcdpfpdoiiaggaa.num
set_option linter.unusedVariables false

/-- Marks: the numbers from k on. -/
def mk (k : Int) (n : Nat) : List Int := (List.range n).map fun (i : Nat) => k + (i : Int)
theorem mk_len (k : Int) (n : Nat) : (mk k n).length = n := by simp [mk]
theorem mk_snoc (k : Int) (n : Nat) : mk k (n + 1) = mk k n ++ [k + n] := by simp [mk, List.range_succ]
theorem mk_get (k : Int) (n j : Nat) (h : j < n) : (mk k n)[j]? = some (k + j) := by simp [mk, h]
/-- Marks of bools: which of the numbers from k on are thrice another. -/
def mkb (k : Int) (n : Nat) : List Bool := (List.range n).map fun (i : Nat) => (k + (i : Int)) % 3 == 0
theorem mkb_len (k : Int) (n : Nat) : (mkb k n).length = n := by simp [mkb]
theorem mkb_snoc (k : Int) (n : Nat) : mkb k (n + 1) = mkb k n ++ [(k + n) % 3 == 0] := by simp [mkb, List.range_succ]
theorem mkb_get (k : Int) (n j : Nat) (h : j < n) : (mkb k n)[j]? = some ((k + j) % 3 == 0) := by simp [mkb, h]

set_option maxHeartbeats 4000000 in
set_option maxRecDepth 100000 in
theorem markI_any {base lo hi n : Nat} {xs : List Value} (k : Int) (v : Value) (w : World) (h : w.ownsRow base 3 1 v n xs) (hv : ∀ g, v.ownBlock = some g → lo ≤ g ∧ g < hi) (h20 : n ≤ 1048576) (k0 : 1 ≤ k) (k1 : k ≤ 1099511627776) :
    Calls Try.prog 11 #[v, .int .i64 k] w fun e w' => e = .returned (.int .i64 (k + n)) ∧ RInts base w' v (mk k n) ∧ Marked lo hi w w' := by
  obtain ⟨a, cap, rfl, hc1, hc2, ha⟩ := row_head h
  have hxl := h.1
  have R1 := hide h
  have HV := hide hv
  unfold maxLen at hc2
  clear h hv
  go_enter Try.func11, Try.ntmps11
  go_wp2
  go_loopw [1, 5] (fun kv i wr => ∃ (j : Nat) (rest : List Value), j ≤ n ∧ i = .int .i64 j ∧ kv = .int .i64 (k + j) ∧ rest.length = n - j ∧ Hid (wr.ownsRow base 3 1 (.slice a n cap) n (((mk k j).map ci).flatten ++ rest)) ∧ Hid (Marked lo hi w wr)) (fun _ i _ => n - (intOf i).toNat)
  case atStart => exact ⟨0, xs, by omega, rfl, by simp, by omega, hide (by simpa [mk] using unhide R1), hide (Marked.refl _ _ _)⟩
  case round =>
    obtain ⟨j, rest, hj, rfl, rfl, hrest, HR, HM⟩ := hrel
    by_cases hlt : j < n
    · obtain ⟨g, rfl⟩ := ha (by omega)
      obtain ⟨⟨y0, x0⟩, f0, hg2⟩ := row_at (unhide HR) (o := j) (by omega)
      have hgb := (unhide HV) g rfl
      clear ha
      go_wp2
      refine ⟨⟨j + 1, rest.drop 1, by omega, by go_num, by go_num, by simp; omega, hide ?_, hide ?_⟩, by simp [intOf]; omega⟩
      · have hL : ((mk k j).map ci).flatten.length = j := by
          rw [map_len (k := 1) (fun _ => rfl), mk_len]; omega
        rw [mk_snoc, List.map_append, List.flatten_append, show (List.map ci [k + ↑j]).flatten = [Value.int .i64 (k + ↑j)] from rfl, set1 _ rest j _ hL (by omega)]
        exact row_put (unhide HR) _
      · exact (unhide HM).set hgb.1 hgb.2 _
    · obtain rfl : j = n := by omega
      obtain rfl : rest = [] := List.length_eq_zero_iff.1 (by omega)
      go_wp2
      go_ret
      refine ⟨rfl, ?_, unhide HM⟩
      have := unhide HR
      rw [List.append_nil] at this
      unfold RInts Row
      rw [mk_len]
      exact this

set_option maxHeartbeats 4000000 in
set_option maxRecDepth 100000 in
theorem heldI_any {base n : Nat} {ok : Int → Prop} (k : Int) (v : Value) (w : World) (h : Seq 1 ci ok base w v (mk k n)) (h20 : n ≤ 1048576) (k0 : 1 ≤ k) (k1 : k ≤ 1099511627776) :
    Calls Try.prog 12 #[v, .int .i64 k] w fun e w' => e = .returned (.int .i64 (k + n)) ∧ w' = w := by
  obtain ⟨a, cap, rfl, hc1, hc2⟩ := h.shape
  have H := hide h
  rw [mk_len] at hc1 ⊢
  unfold maxLen at hc2
  clear h
  go_enter Try.func12, Try.ntmps12
  go_wp2
  go_loop [1, 5] (fun kv i => ∃ (j : Nat), j ≤ n ∧ i = .int .i64 j ∧ kv = .int .i64 (k + j)) (fun _ i => n - (intOf i).toNat)
  case atStart => exact ⟨0, by omega, rfl, by simp⟩
  case round =>
    obtain ⟨j, hj, rfl, rfl⟩ := hrel
    by_cases hlt : j < n
    · have h1 := unhide H
      rw [mk_len] at h1
      obtain ⟨b, off, rfl, hb, hc⟩ := h1.atI (mk_get k n j hlt)
      clear h1
      go_wp2
      exact ⟨⟨j + 1, by omega, by go_num, by go_num⟩, by simp [intOf]; omega⟩
    · obtain rfl : j = n := by omega
      go_wp2
      go_ret
      exact ⟨rfl, rfl⟩

set_option maxHeartbeats 4000000 in
set_option maxRecDepth 100000 in
theorem markB_any {base lo hi n : Nat} {xs : List Value} (k : Int) (v : Value) (w : World) (h : w.ownsRow base 4 1 v n xs) (hv : ∀ g, v.ownBlock = some g → lo ≤ g ∧ g < hi) (h20 : n ≤ 1048576) (k0 : 1 ≤ k) (k1 : k ≤ 1099511627776) :
    Calls Try.prog 22 #[v, .int .i64 k] w fun e w' => e = .returned (.int .i64 (k + n)) ∧ RBools base w' v (mkb k n) ∧ Marked lo hi w w' := by
  obtain ⟨a, cap, rfl, hc1, hc2, ha⟩ := row_head h
  have hxl := h.1
  have R1 := hide h
  have HV := hide hv
  unfold maxLen at hc2
  clear h hv
  go_enter Try.func22, Try.ntmps22
  go_wp2
  go_loopw [1, 5] (fun kv i wr => ∃ (j : Nat) (rest : List Value), j ≤ n ∧ i = .int .i64 j ∧ kv = .int .i64 (k + j) ∧ rest.length = n - j ∧ Hid (wr.ownsRow base 4 1 (.slice a n cap) n (((mkb k j).map cb).flatten ++ rest)) ∧ Hid (Marked lo hi w wr)) (fun _ i _ => n - (intOf i).toNat)
  case atStart => exact ⟨0, xs, by omega, rfl, by simp, by omega, hide (by simpa [mkb] using unhide R1), hide (Marked.refl _ _ _)⟩
  case round =>
    obtain ⟨j, rest, hj, rfl, rfl, hrest, HR, HM⟩ := hrel
    by_cases hlt : j < n
    · obtain ⟨g, rfl⟩ := ha (by omega)
      obtain ⟨⟨y0, x0⟩, f0, hg2⟩ := row_at (unhide HR) (o := j) (by omega)
      have hgb := (unhide HV) g rfl
      clear ha
      go_wp2
      refine ⟨⟨j + 1, rest.drop 1, by omega, by go_num, by go_num, by simp; omega, hide ?_, hide ?_⟩, by simp [intOf]; omega⟩
      · have hL : ((mkb k j).map cb).flatten.length = j := by
          rw [map_len (k := 1) (fun _ => rfl), mkb_len]; omega
        rw [mkb_snoc, List.map_append, List.flatten_append, show (List.map cb [(k + ↑j) % 3 == 0]).flatten = [Value.bool ((k + ↑j) % 3 == 0)] from rfl, set1 _ rest j _ hL (by omega)]
        exact row_put (unhide HR) _
      · exact (unhide HM).set hgb.1 hgb.2 _
    · obtain rfl : j = n := by omega
      obtain rfl : rest = [] := List.length_eq_zero_iff.1 (by omega)
      go_wp2
      go_ret
      refine ⟨rfl, ?_, unhide HM⟩
      have := unhide HR
      rw [List.append_nil] at this
      unfold RBools Row
      rw [mkb_len]
      exact this

end Go.Proofs.Ytcdpfpdoiiaggaa.rws
