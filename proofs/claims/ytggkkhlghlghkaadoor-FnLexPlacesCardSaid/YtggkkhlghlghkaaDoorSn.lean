/-
  The sign at a place, by the program's table and by the model's list: the same.
-/
import Derived.Test.YtggkkhlghlghkaaDoorSg
namespace Go.Proofs.YtggkkhlghlghkaaDoor.lex
open Go.RowKit Go.Proofs.YtggkkhlghlghkaaDoor.num
set_option linter.unusedVariables false

/-- The sign at a place of a text. -/
def signAt (s : ByteArray) (a : Int) : ByteArray := if 0 ≤ a ∧ a < (s.size : Int) then ⟨(signOf (s.data.toList.drop a.toNat)).toArray⟩ else ByteArray.empty

theorem signAt_out (s : ByteArray) (a : Int) (h : ¬ (0 ≤ a ∧ a < (s.size : Int))) : signAt s a = ByteArray.empty := by rw [signAt, if_neg h]
theorem signAt_in (s : ByteArray) (k : Nat) (h : k < s.size) : signAt s (k : Int) = ⟨(signOf (s.data.toList.drop k)).toArray⟩ := by
  rw [signAt, if_pos ⟨by omega, by omega⟩]
  rfl

theorem tail_data (s : ByteArray) (k : Nat) : (s.extract k s.size).data.toList = s.data.toList.drop k := by
  rw [Lib.extract_data, List.take_of_length_le]
  rw [List.length_drop, ← Lib.size_eq]
  exact Nat.le_refl _

set_option maxRecDepth 100000 in
theorem implSign_out (s : ByteArray) (a : Int) (w : World) (h : ¬ (0 ≤ a ∧ a < (s.size : Int))) : Calls Tryd.prog 14 #[.string s, .int .i64 a] w fun e w' => e = .returned (.string ByteArray.empty) ∧ w' = w := by
  by_cases h0 : a < 0
  · go_enter Tryd.func14, Tryd.ntmps14
    go_wp2
    go_ret
    exact ⟨rfl, rfl⟩
  · have h1 : (s.size : Int) ≤ a := by omega
    go_enter Tryd.func14, Tryd.ntmps14
    go_wp2
    go_ret
    exact ⟨rfl, rfl⟩

set_option maxHeartbeats 1000000 in
set_option maxRecDepth 100000 in
theorem implSign_in (s : ByteArray) (k : Nat) (w : World) (h : k < s.size) (hs : s.size ≤ 9223372036854775807) (hg : Sg w) : Calls Tryd.prog 14 #[.string s, .int .i64 (k : Int)] w fun e w' => e = .returned (.string ⟨(signOf (s.data.toList.drop k)).toArray⟩) ∧ w' = w := by
  obtain ⟨tt, fr, hg⟩ := hg
  have h0 : ¬ ((k : Int) < 0) := by omega
  have h1 : ¬ ((s.size : Int) ≤ (k : Int)) := by omega
  have hix := idx
  go_enter Tryd.func14, Tryd.ntmps14
  go_wp2_with (refine wpList_load_row rfl 54 _ rfl 0 rfl tt _ fr _ hg Tryd.underlying54 rfl (by kernel_rfl) ?_)
  go_loop [6, 16] (fun u i => ∃ j : Nat, j ≤ 30 ∧ i = .int .i64 j ∧ signFrom (s.data.toList.drop k) j = signOf (s.data.toList.drop k)) (fun _ i => 30 - (intOf i).toNat)
  case atStart => exact ⟨0, by omega, rfl, rfl⟩
  case round =>
    obtain ⟨j, hj, rfl, hr⟩ := hrel
    by_cases hlt : j < 30
    · have hi := hix j hlt
      cases hp : Lib.hasPrefix (s.extract k s.size).data.toList (sgn j).data.toList with
      | true =>
        have HP : ∀ w, Calls Tryd.prog 34 #[.string (s.extract k s.size), .string (sgn j)] w fun e w' => e = .returned (.bool true) ∧ w' = w := fun w => by
          have := Tryd.strings_HasPrefix (s.extract k s.size) (sgn j) w
          rwa [hp] at this
        go_wp2_with (go_at_call 34; refine (HP _).mono ?_; rintro e w' ⟨rfl, rfl⟩)
        go_ret
        refine ⟨?_, rfl⟩
        rw [tail_data] at hp
        rw [← hr, signFrom_hit _ _ hlt hp]
        rfl
      | false =>
        have HP : ∀ w, Calls Tryd.prog 34 #[.string (s.extract k s.size), .string (sgn j)] w fun e w' => e = .returned (.bool false) ∧ w' = w := fun w => by
          have := Tryd.strings_HasPrefix (s.extract k s.size) (sgn j) w
          rwa [hp] at this
        go_wp2_with (go_at_call 34; refine (HP _).mono ?_; rintro e w' ⟨rfl, rfl⟩)
        go_round
        rw [tail_data] at hp
        case rel => exact ⟨j + 1, by omega, by go_num, by rw [← hr, signFrom_miss _ _ hlt hp]⟩
        case measure => simp [intOf]; omega
    · obtain rfl : j = 30 := by omega
      go_wp2
      go_ret
      refine ⟨?_, rfl⟩
      rw [← hr, signFrom_end]
      rfl

set_option maxRecDepth 100000 in
theorem specSign_out (s : ByteArray) (a : Int) (w : World) (h : ¬ (0 ≤ a ∧ a < (s.size : Int))) : Calls Tryd.prog 17 #[.string s, .int .i64 a] w fun e w' => e = .returned (.string ByteArray.empty) ∧ Below w.heap.size w w' := by
  by_cases h0 : a < 0
  · go_enter Tryd.func17, Tryd.ntmps17
    go_wp2
    go_ret
    exact ⟨rfl, Below.refl _ _⟩
  · have h1 : (s.size : Int) ≤ a := by omega
    go_enter Tryd.func17, Tryd.ntmps17
    go_wp2
    go_ret
    exact ⟨rfl, Below.refl _ _⟩

theorem pre_iff (s : ByteArray) (k : Nat) (g : ByteArray) (h : k < s.size) (hn : k + g.size ≤ s.size) : ((s.extract k (k + g.size)).toList == g.toList) = Lib.hasPrefix (s.data.toList.drop k) g.data.toList := by
  have := Lib.hasPrefix_raw (s.extract k s.size) g
  rw [tail_data] at this
  rw [← this]
  have e1 : (s.extract k s.size).size = s.size - k := by simp
  have e2 : ((s.extract k s.size).extract 0 g.size).toList = (s.extract k (k + g.size)).toList := by
    rw [Lib.extract_toList, tail_data, Lib.extract_toList]
    simp
  rw [e1, e2, decide_eq_true (by omega), Bool.true_and]
theorem pre_short (s : ByteArray) (k : Nat) (g : ByteArray) (h : k < s.size) (hn : s.size < k + g.size) : Lib.hasPrefix (s.data.toList.drop k) g.data.toList = false := by
  have := Lib.hasPrefix_raw (s.extract k s.size) g
  rw [tail_data] at this
  rw [← this]
  have e1 : (s.extract k s.size).size = s.size - k := by simp
  rw [e1, decide_eq_false (by omega), Bool.false_and]

set_option maxHeartbeats 1000000 in
set_option maxRecDepth 100000 in
theorem specSign_at (s : ByteArray) (k : Nat) (w : World) (h : k < s.size) (hs : s.size ≤ 4611686018427387904) : Calls Tryd.prog 17 #[.string s, .int .i64 (k : Int)] w fun e w' => ∃ n, e = .returned (.string ⟨(signOf (s.data.toList.drop k)).toArray⟩) ∧ w' = (w.alloc (.cells sgCells 9)).drewN n := by
  have h0 : ¬ ((k : Int) < 0) := by omega
  have h1 : ¬ ((s.size : Int) ≤ (k : Int)) := by omega
  go_enter Tryd.func17, Tryd.ntmps17
  go_wp2_with (go_at_call 36; refine (signs_any _).mono ?_; rintro e w' ⟨rfl, rfl⟩)
  go_loopw [6, 7] (fun i u wr => ∃ j : Nat, j ≤ 30 ∧ i = .int .i64 j ∧ signFrom (s.data.toList.drop k) j = signOf (s.data.toList.drop k) ∧ ∃ n, wr = (w.alloc (.cells sgCells 9)).drewN n) (fun i _ _ => 30 - (intOf i).toNat)
  case atStart => exact ⟨0, by omega, rfl, rfl, 0, rfl⟩
  case round =>
    obtain ⟨j, hj, rfl, hr, n0, hw⟩ := hrel
    have hc : wr.heap[w.heap.size]? = some (.cells sgCells 9) := by rw [hw]; exact (Go.MapKept.heap_alloc w _).1
    have HW := hide hw
    clear hw
    by_cases hlt : j < 30
    · have hcell : wr.cell? ⟨w.heap.size, j, none⟩ = some (.string (sgn j)) := by simp [World.cell?, hc, cellAt j hlt]
      obtain ⟨g1, g2⟩ := sgn_pos j hlt
      have hit := signFrom_hit (s.data.toList.drop k) j hlt
      have miss := signFrom_miss (s.data.toList.drop k) j hlt
      generalize sgn j = g at *
      by_cases hn : k + g.size ≤ s.size
      · have ht : (g.size : Int) ≤ (s.size : Int) - (k : Int) := by omega
        rw [← pre_iff s k g h hn] at hit miss
        cases hp : (s.extract k (k + g.size)).toList == g.toList with
        | true =>
          rw [hp] at hit
          replace hit := hit rfl
          clear miss
          go_wp2
          go_quiet (fail)
          go_wp2
          go_ret
          refine ⟨n0 + nq, ?_, ?_⟩
          · rw [← hr, hit]
            rfl
          · rw [unhide HW, World.drewN_drewN]
        | false =>
          rw [hp] at miss
          replace miss := miss rfl
          clear hit
          go_wp2
          go_quiet (fail)
          go_wp2
          go_roundw
          case rel => exact ⟨j + 1, by omega, by go_num, by rw [← hr, miss], n0 + nq, by rw [unhide HW, World.drewN_drewN]⟩
          case measure => simp [intOf]; omega
      · have ht : decide ((g.size : Int) ≤ (s.size : Int) - (k : Int)) = false := decide_eq_false (by omega)
        rw [pre_short s k g h (by omega)] at miss
        replace miss := miss rfl
        clear hit
        go_wp2
        go_quiet (fail)
        go_wp2
        go_roundw
        case rel => exact ⟨j + 1, by omega, by go_num, by rw [← hr, miss], n0 + nq, by rw [unhide HW, World.drewN_drewN]⟩
        case measure => simp [intOf]; omega
    · obtain rfl : j = 30 := by omega
      go_wp2
      go_ret
      refine ⟨n0, ?_, unhide HW⟩
      rw [← hr, signFrom_end]
      rfl

theorem specSign_in (s : ByteArray) (k : Nat) (w : World) (h : k < s.size) (hs : s.size ≤ 4611686018427387904) : Calls Tryd.prog 17 #[.string s, .int .i64 (k : Int)] w fun e w' => e = .returned (.string ⟨(signOf (s.data.toList.drop k)).toArray⟩) ∧ Below w.heap.size w w' := by
  refine (specSign_at s k w h hs).mono ?_
  rintro e w' ⟨n, rfl, rfl⟩
  have hb : Below w.heap.size w (w.alloc (.cells sgCells 9)) := (Below.refl _ _).alloc (Nat.le_refl _) _
  exact ⟨rfl, hb.os, hb.tape, hb.output, hb.size, hb.block⟩
theorem implSign_any (s : ByteArray) (a : Int) (w : World) (hs : s.size ≤ 9223372036854775807) (hg : Sg w) : Calls Tryd.prog 14 #[.string s, .int .i64 a] w fun e w' => e = .returned (.string (signAt s a)) ∧ w' = w := by
  by_cases h : 0 ≤ a ∧ a < (s.size : Int)
  · obtain ⟨k, rfl⟩ := Int.eq_ofNat_of_zero_le h.1
    rw [signAt_in s k (by omega)]
    exact implSign_in s k w (by omega) hs hg
  · rw [signAt_out s a h]
    exact implSign_out s a w h
theorem specSign_any (s : ByteArray) (a : Int) (w : World) (hs : s.size ≤ 4611686018427387904) : Calls Tryd.prog 17 #[.string s, .int .i64 a] w fun e w' => e = .returned (.string (signAt s a)) ∧ Below w.heap.size w w' := by
  by_cases h : 0 ≤ a ∧ a < (s.size : Int)
  · obtain ⟨k, rfl⟩ := Int.eq_ofNat_of_zero_le h.1
    rw [signAt_in s k (by omega)]
    exact specSign_in s k w (by omega) hs
  · rw [signAt_out s a h]
    exact specSign_out s a w h

end Go.Proofs.YtggkkhlghlghkaaDoor.lex
