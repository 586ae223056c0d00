/-
  The signs: a table that the program's text lays, and a list that the model makes: both give the longest sign that stands at a place.
  The sign at a place, by the program's table and by the model's list: the same.
-/
import Derived.Test.YtjikjejfobnfnaaGreatDoorC01
import Derived.Test.YtjikjejfobnfnaaGreatDoorC02
import Derived.WalkKit
import Derived.WalkSpells
import Derived.Deep.QuietTactic
import Derived.BigQuiet
import Derived.Lib.Strings
import Derived.Maps.AppendAt
namespace Go.Proofs.YtjikjejfobnfnaaGreatDoor.lex
open Go.RowKit Go.Proofs.YtjikjejfobnfnaaGreatDoor.num
set_option linter.unusedVariables false
/-- The signs, the longer ones ahead. -/
def signs : List (List UInt8) := [[43, 37], [45, 37], [42, 37], [60, 60], [62, 62], [61, 61], [33, 61], [60, 61], [62, 61], [46, 46], [43, 61], [43], [45], [42], [47], [37], [38], [124], [94], [60], [62], [61], [40], [41], [123], [125], [91], [93], [44], [59]]
def sgCells : Array Value := #[.string ⟨#[43, 37]⟩, .string ⟨#[45, 37]⟩, .string ⟨#[42, 37]⟩, .string ⟨#[60, 60]⟩, .string ⟨#[62, 62]⟩, .string ⟨#[61, 61]⟩, .string ⟨#[33, 61]⟩, .string ⟨#[60, 61]⟩, .string ⟨#[62, 61]⟩, .string ⟨#[46, 46]⟩, .string ⟨#[43, 61]⟩, .string ⟨#[43]⟩, .string ⟨#[45]⟩, .string ⟨#[42]⟩, .string ⟨#[47]⟩, .string ⟨#[37]⟩, .string ⟨#[38]⟩, .string ⟨#[124]⟩, .string ⟨#[94]⟩, .string ⟨#[60]⟩, .string ⟨#[62]⟩, .string ⟨#[61]⟩, .string ⟨#[40]⟩, .string ⟨#[41]⟩, .string ⟨#[123]⟩, .string ⟨#[125]⟩, .string ⟨#[91]⟩, .string ⟨#[93]⟩, .string ⟨#[44]⟩, .string ⟨#[59]⟩]
/-- The kth sign. -/
def sgn (k : Nat) : ByteArray := ⟨(signs.getD k []).toArray⟩
def signFrom (l : List UInt8) (i : Nat) : List UInt8 := ((signs.drop i).find? fun g => Lib.hasPrefix l g).getD []
/-- The sign that a text begins with; nothing if there is none. -/
def signOf (l : List UInt8) : List UInt8 := signFrom l 0

theorem drop_step (i : Nat) (h : i < 30) : signs.drop i = signs.getD i [] :: signs.drop (i + 1) := by
  rw [List.drop_eq_getElem_cons (by exact h)]
  congr 1
  rw [List.getD_eq_getElem?_getD, List.getElem?_eq_getElem (by exact h)]
  rfl
theorem signFrom_hit (l : List UInt8) (i : Nat) (h : i < 30) (hp : Lib.hasPrefix l (sgn i).data.toList = true) : signFrom l i = (sgn i).data.toList := by
  unfold signFrom
  rw [drop_step i h, List.find?_cons]
  have hp' : Lib.hasPrefix l (signs.getD i []) = true := hp
  rw [hp']
  rfl
theorem signFrom_miss (l : List UInt8) (i : Nat) (h : i < 30) (hp : Lib.hasPrefix l (sgn i).data.toList = false) : signFrom l i = signFrom l (i + 1) := by
  unfold signFrom
  rw [drop_step i h, List.find?_cons]
  have hp' : Lib.hasPrefix l (signs.getD i []) = false := hp
  rw [hp']
theorem signFrom_end (l : List UInt8) : signFrom l 30 = [] := rfl
theorem sgn_pos (i : Nat) (h : i < 30) : 0 < (sgn i).size ∧ (sgn i).size ≤ 2 := by
  have e : ∀ k : Fin 30, 0 < (sgn k.1).size ∧ (sgn k.1).size ≤ 2 := by decide
  exact e ⟨i, h⟩

theorem idx_0 (w : World) : (Instr.index 227 (.agg sgCells) (.int .i64 0)).run Tryz.prog w = .ok (.string (sgn 0)) w := by kernel_rfl
theorem idx_1 (w : World) : (Instr.index 227 (.agg sgCells) (.int .i64 1)).run Tryz.prog w = .ok (.string (sgn 1)) w := by kernel_rfl
theorem idx_2 (w : World) : (Instr.index 227 (.agg sgCells) (.int .i64 2)).run Tryz.prog w = .ok (.string (sgn 2)) w := by kernel_rfl
theorem idx_3 (w : World) : (Instr.index 227 (.agg sgCells) (.int .i64 3)).run Tryz.prog w = .ok (.string (sgn 3)) w := by kernel_rfl
theorem idx_4 (w : World) : (Instr.index 227 (.agg sgCells) (.int .i64 4)).run Tryz.prog w = .ok (.string (sgn 4)) w := by kernel_rfl
theorem idx_5 (w : World) : (Instr.index 227 (.agg sgCells) (.int .i64 5)).run Tryz.prog w = .ok (.string (sgn 5)) w := by kernel_rfl
theorem idx_6 (w : World) : (Instr.index 227 (.agg sgCells) (.int .i64 6)).run Tryz.prog w = .ok (.string (sgn 6)) w := by kernel_rfl
theorem idx_7 (w : World) : (Instr.index 227 (.agg sgCells) (.int .i64 7)).run Tryz.prog w = .ok (.string (sgn 7)) w := by kernel_rfl
theorem idx_8 (w : World) : (Instr.index 227 (.agg sgCells) (.int .i64 8)).run Tryz.prog w = .ok (.string (sgn 8)) w := by kernel_rfl
theorem idx_9 (w : World) : (Instr.index 227 (.agg sgCells) (.int .i64 9)).run Tryz.prog w = .ok (.string (sgn 9)) w := by kernel_rfl
theorem idx_10 (w : World) : (Instr.index 227 (.agg sgCells) (.int .i64 10)).run Tryz.prog w = .ok (.string (sgn 10)) w := by kernel_rfl
theorem idx_11 (w : World) : (Instr.index 227 (.agg sgCells) (.int .i64 11)).run Tryz.prog w = .ok (.string (sgn 11)) w := by kernel_rfl
theorem idx_12 (w : World) : (Instr.index 227 (.agg sgCells) (.int .i64 12)).run Tryz.prog w = .ok (.string (sgn 12)) w := by kernel_rfl
theorem idx_13 (w : World) : (Instr.index 227 (.agg sgCells) (.int .i64 13)).run Tryz.prog w = .ok (.string (sgn 13)) w := by kernel_rfl
theorem idx_14 (w : World) : (Instr.index 227 (.agg sgCells) (.int .i64 14)).run Tryz.prog w = .ok (.string (sgn 14)) w := by kernel_rfl
theorem idx_15 (w : World) : (Instr.index 227 (.agg sgCells) (.int .i64 15)).run Tryz.prog w = .ok (.string (sgn 15)) w := by kernel_rfl
theorem idx_16 (w : World) : (Instr.index 227 (.agg sgCells) (.int .i64 16)).run Tryz.prog w = .ok (.string (sgn 16)) w := by kernel_rfl
theorem idx_17 (w : World) : (Instr.index 227 (.agg sgCells) (.int .i64 17)).run Tryz.prog w = .ok (.string (sgn 17)) w := by kernel_rfl
theorem idx_18 (w : World) : (Instr.index 227 (.agg sgCells) (.int .i64 18)).run Tryz.prog w = .ok (.string (sgn 18)) w := by kernel_rfl
theorem idx_19 (w : World) : (Instr.index 227 (.agg sgCells) (.int .i64 19)).run Tryz.prog w = .ok (.string (sgn 19)) w := by kernel_rfl
theorem idx_20 (w : World) : (Instr.index 227 (.agg sgCells) (.int .i64 20)).run Tryz.prog w = .ok (.string (sgn 20)) w := by kernel_rfl
theorem idx_21 (w : World) : (Instr.index 227 (.agg sgCells) (.int .i64 21)).run Tryz.prog w = .ok (.string (sgn 21)) w := by kernel_rfl
theorem idx_22 (w : World) : (Instr.index 227 (.agg sgCells) (.int .i64 22)).run Tryz.prog w = .ok (.string (sgn 22)) w := by kernel_rfl
theorem idx_23 (w : World) : (Instr.index 227 (.agg sgCells) (.int .i64 23)).run Tryz.prog w = .ok (.string (sgn 23)) w := by kernel_rfl
theorem idx_24 (w : World) : (Instr.index 227 (.agg sgCells) (.int .i64 24)).run Tryz.prog w = .ok (.string (sgn 24)) w := by kernel_rfl
theorem idx_25 (w : World) : (Instr.index 227 (.agg sgCells) (.int .i64 25)).run Tryz.prog w = .ok (.string (sgn 25)) w := by kernel_rfl
theorem idx_26 (w : World) : (Instr.index 227 (.agg sgCells) (.int .i64 26)).run Tryz.prog w = .ok (.string (sgn 26)) w := by kernel_rfl
theorem idx_27 (w : World) : (Instr.index 227 (.agg sgCells) (.int .i64 27)).run Tryz.prog w = .ok (.string (sgn 27)) w := by kernel_rfl
theorem idx_28 (w : World) : (Instr.index 227 (.agg sgCells) (.int .i64 28)).run Tryz.prog w = .ok (.string (sgn 28)) w := by kernel_rfl
theorem idx_29 (w : World) : (Instr.index 227 (.agg sgCells) (.int .i64 29)).run Tryz.prog w = .ok (.string (sgn 29)) w := by kernel_rfl
theorem idx (k : Nat) (hk : k < 30) (w : World) : (Instr.index 227 (.agg sgCells) (.int .i64 (k : Int))).run Tryz.prog w = .ok (.string (sgn k)) w := by
  match k, hk with
  | 0, _ => exact idx_0 w
  | 1, _ => exact idx_1 w
  | 2, _ => exact idx_2 w
  | 3, _ => exact idx_3 w
  | 4, _ => exact idx_4 w
  | 5, _ => exact idx_5 w
  | 6, _ => exact idx_6 w
  | 7, _ => exact idx_7 w
  | 8, _ => exact idx_8 w
  | 9, _ => exact idx_9 w
  | 10, _ => exact idx_10 w
  | 11, _ => exact idx_11 w
  | 12, _ => exact idx_12 w
  | 13, _ => exact idx_13 w
  | 14, _ => exact idx_14 w
  | 15, _ => exact idx_15 w
  | 16, _ => exact idx_16 w
  | 17, _ => exact idx_17 w
  | 18, _ => exact idx_18 w
  | 19, _ => exact idx_19 w
  | 20, _ => exact idx_20 w
  | 21, _ => exact idx_21 w
  | 22, _ => exact idx_22 w
  | 23, _ => exact idx_23 w
  | 24, _ => exact idx_24 w
  | 25, _ => exact idx_25 w
  | 26, _ => exact idx_26 w
  | 27, _ => exact idx_27 w
  | 28, _ => exact idx_28 w
  | 29, _ => exact idx_29 w
  | n + 30, h => exact absurd h (by omega)
theorem cellAt (k : Nat) (hk : k < 30) : sgCells[k]? = some (.string (sgn k)) := by
  match k, hk with
  | 0, _ => rfl
  | 1, _ => rfl
  | 2, _ => rfl
  | 3, _ => rfl
  | 4, _ => rfl
  | 5, _ => rfl
  | 6, _ => rfl
  | 7, _ => rfl
  | 8, _ => rfl
  | 9, _ => rfl
  | 10, _ => rfl
  | 11, _ => rfl
  | 12, _ => rfl
  | 13, _ => rfl
  | 14, _ => rfl
  | 15, _ => rfl
  | 16, _ => rfl
  | 17, _ => rfl
  | 18, _ => rfl
  | 19, _ => rfl
  | 20, _ => rfl
  | 21, _ => rfl
  | 22, _ => rfl
  | 23, _ => rfl
  | 24, _ => rfl
  | 25, _ => rfl
  | 26, _ => rfl
  | 27, _ => rfl
  | 28, _ => rfl
  | 29, _ => rfl
  | n + 30, h => exact absurd h (by omega)

/-- The table of the signs lies where its variable is. -/
def Sg (w : World) : Prop := ∃ t fr, w.heap[3]? = some (.cells sgCells t fr)
theorem Sg.size {w : World} (h : Sg w) : 3 < w.heap.size := by
  obtain ⟨t, fr, h⟩ := h
  exact (Array.getElem?_eq_some_iff.1 h).1
theorem Sg.below {w w' : World} {B : Nat} (h : Sg w) (hb : Below B w w') (hB : 3 < B) : Sg w' := by
  obtain ⟨t, fr, h⟩ := h
  exact ⟨t, fr, (hb.block 3 hB).trans h⟩

theorem signs_any (w : World) : Calls Tryz.prog 88 #[] w fun e w' => e = .returned (.slice (some ⟨w.heap.size, 0, none⟩) 30 30) ∧ w' = w.alloc (.cells sgCells 9) := by
  go_enter Tryz.func88, Tryz.ntmps88
  go_wp2
  go_ret
  exact ⟨rfl, rfl⟩

/-- The sign at a place of a text. -/
def signAt (s : ByteArray) (a : Int) : ByteArray := if 0 ≤ a ∧ a < (s.size : Int) then ⟨(signOf (s.data.toList.drop a.toNat)).toArray⟩ else ByteArray.empty

theorem signAt_out (s : ByteArray) (a : Int) (h : ¬ (0 ≤ a ∧ a < (s.size : Int))) : signAt s a = ByteArray.empty := by rw [signAt, if_neg h]
theorem signAt_in (s : ByteArray) (k : Nat) (h : k < s.size) : signAt s (k : Int) = ⟨(signOf (s.data.toList.drop k)).toArray⟩ := by
  rw [signAt, if_pos ⟨by omega, by omega⟩]
  rfl

theorem tail_data (s : ByteArray) (k : Nat) : (s.extract k s.size).data.toList = s.data.toList.drop k := by
  rw [Lib.extract_data, List.take_of_length_le]
  rw [List.length_drop, ← Lib.size_eq]
  exact Nat.le_refl _

set_option maxRecDepth 100000 in
theorem implSign_out (s : ByteArray) (a : Int) (w : World) (h : ¬ (0 ≤ a ∧ a < (s.size : Int))) : Calls Tryz.prog 96 #[.string s, .int .i64 a] w fun e w' => e = .returned (.string ByteArray.empty) ∧ w' = w := by
  by_cases h0 : a < 0
  · go_enter Tryz.func96, Tryz.ntmps96
    go_wp2
    go_ret
    exact ⟨rfl, rfl⟩
  · have h1 : (s.size : Int) ≤ a := by omega
    go_enter Tryz.func96, Tryz.ntmps96
    go_wp2
    go_ret
    exact ⟨rfl, rfl⟩

set_option maxHeartbeats 1000000 in
set_option maxRecDepth 100000 in
theorem implSign_in (s : ByteArray) (k : Nat) (w : World) (h : k < s.size) (hs : s.size ≤ 9223372036854775807) (hg : Sg w) : Calls Tryz.prog 96 #[.string s, .int .i64 (k : Int)] w fun e w' => e = .returned (.string ⟨(signOf (s.data.toList.drop k)).toArray⟩) ∧ w' = w := by
  obtain ⟨tt, fr, hg⟩ := hg
  have h0 : ¬ ((k : Int) < 0) := by omega
  have h1 : ¬ ((s.size : Int) ≤ (k : Int)) := by omega
  have hix := idx
  go_enter Tryz.func96, Tryz.ntmps96
  go_wp2_with (refine wpList_load_row rfl 227 _ rfl 3 rfl tt _ fr _ hg Tryz.underlying227 rfl (by kernel_rfl) ?_)
  go_loop [6, 16] (fun u i => ∃ j : Nat, j ≤ 30 ∧ i = .int .i64 j ∧ signFrom (s.data.toList.drop k) j = signOf (s.data.toList.drop k)) (fun _ i => 30 - (intOf i).toNat)
  case atStart => exact ⟨0, by omega, rfl, rfl⟩
  case round =>
    obtain ⟨j, hj, rfl, hr⟩ := hrel
    by_cases hlt : j < 30
    · have hi := hix j hlt
      cases hp : Lib.hasPrefix (s.extract k s.size).data.toList (sgn j).data.toList with
      | true =>
        have HP : ∀ w, Calls Tryz.prog 133 #[.string (s.extract k s.size), .string (sgn j)] w fun e w' => e = .returned (.bool true) ∧ w' = w := fun w => by
          have := Tryz.strings_HasPrefix (s.extract k s.size) (sgn j) w
          rwa [hp] at this
        go_wp2_with (go_at_call 133; refine (HP _).mono ?_; rintro e w' ⟨rfl, rfl⟩)
        go_ret
        refine ⟨?_, rfl⟩
        rw [tail_data] at hp
        rw [← hr, signFrom_hit _ _ hlt hp]
        rfl
      | false =>
        have HP : ∀ w, Calls Tryz.prog 133 #[.string (s.extract k s.size), .string (sgn j)] w fun e w' => e = .returned (.bool false) ∧ w' = w := fun w => by
          have := Tryz.strings_HasPrefix (s.extract k s.size) (sgn j) w
          rwa [hp] at this
        go_wp2_with (go_at_call 133; refine (HP _).mono ?_; rintro e w' ⟨rfl, rfl⟩)
        go_round
        rw [tail_data] at hp
        case rel => exact ⟨j + 1, by omega, by go_num, by rw [← hr, signFrom_miss _ _ hlt hp]⟩
        case measure => simp [intOf]; omega
    · obtain rfl : j = 30 := by omega
      go_wp2
      go_ret
      refine ⟨?_, rfl⟩
      rw [← hr, signFrom_end]
      rfl

set_option maxRecDepth 100000 in
theorem specSign_out (s : ByteArray) (a : Int) (w : World) (h : ¬ (0 ≤ a ∧ a < (s.size : Int))) : Calls Tryz.prog 80 #[.string s, .int .i64 a] w fun e w' => e = .returned (.string ByteArray.empty) ∧ Below w.heap.size w w' := by
  by_cases h0 : a < 0
  · go_enter Tryz.func80, Tryz.ntmps80
    go_wp2
    go_ret
    exact ⟨rfl, Below.refl _ _⟩
  · have h1 : (s.size : Int) ≤ a := by omega
    go_enter Tryz.func80, Tryz.ntmps80
    go_wp2
    go_ret
    exact ⟨rfl, Below.refl _ _⟩

theorem pre_iff (s : ByteArray) (k : Nat) (g : ByteArray) (h : k < s.size) (hn : k + g.size ≤ s.size) : ((s.extract k (k + g.size)).toList == g.toList) = Lib.hasPrefix (s.data.toList.drop k) g.data.toList := by
  have := Lib.hasPrefix_raw (s.extract k s.size) g
  rw [tail_data] at this
  rw [← this]
  have e1 : (s.extract k s.size).size = s.size - k := by simp
  have e2 : ((s.extract k s.size).extract 0 g.size).toList = (s.extract k (k + g.size)).toList := by
    rw [Lib.extract_toList, tail_data, Lib.extract_toList]
    simp
  rw [e1, e2, decide_eq_true (by omega), Bool.true_and]
theorem pre_short (s : ByteArray) (k : Nat) (g : ByteArray) (h : k < s.size) (hn : s.size < k + g.size) : Lib.hasPrefix (s.data.toList.drop k) g.data.toList = false := by
  have := Lib.hasPrefix_raw (s.extract k s.size) g
  rw [tail_data] at this
  rw [← this]
  have e1 : (s.extract k s.size).size = s.size - k := by simp
  rw [e1, decide_eq_false (by omega), Bool.false_and]

set_option maxHeartbeats 1000000 in
set_option maxRecDepth 100000 in
theorem specSign_at (s : ByteArray) (k : Nat) (w : World) (h : k < s.size) (hs : s.size ≤ 4611686018427387904) : Calls Tryz.prog 80 #[.string s, .int .i64 (k : Int)] w fun e w' => ∃ n, e = .returned (.string ⟨(signOf (s.data.toList.drop k)).toArray⟩) ∧ w' = (w.alloc (.cells sgCells 9)).drewN n := by
  have h0 : ¬ ((k : Int) < 0) := by omega
  have h1 : ¬ ((s.size : Int) ≤ (k : Int)) := by omega
  go_enter Tryz.func80, Tryz.ntmps80
  go_wp2_with (go_at_call 88; refine (signs_any _).mono ?_; rintro e w' ⟨rfl, rfl⟩)
  go_loopw [6, 7] (fun i u wr => ∃ j : Nat, j ≤ 30 ∧ i = .int .i64 j ∧ signFrom (s.data.toList.drop k) j = signOf (s.data.toList.drop k) ∧ ∃ n, wr = (w.alloc (.cells sgCells 9)).drewN n) (fun i _ _ => 30 - (intOf i).toNat)
  case atStart => exact ⟨0, by omega, rfl, rfl, 0, rfl⟩
  case round =>
    obtain ⟨j, hj, rfl, hr, n0, hw⟩ := hrel
    have hc : wr.heap[w.heap.size]? = some (.cells sgCells 9) := by rw [hw]; exact (Go.MapKept.heap_alloc w _).1
    have HW := hide hw
    clear hw
    by_cases hlt : j < 30
    · have hcell : wr.cell? ⟨w.heap.size, j, none⟩ = some (.string (sgn j)) := by simp [World.cell?, hc, cellAt j hlt]
      obtain ⟨g1, g2⟩ := sgn_pos j hlt
      have hit := signFrom_hit (s.data.toList.drop k) j hlt
      have miss := signFrom_miss (s.data.toList.drop k) j hlt
      generalize sgn j = g at *
      by_cases hn : k + g.size ≤ s.size
      · have ht : (g.size : Int) ≤ (s.size : Int) - (k : Int) := by omega
        rw [← pre_iff s k g h hn] at hit miss
        cases hp : (s.extract k (k + g.size)).toList == g.toList with
        | true =>
          rw [hp] at hit
          replace hit := hit rfl
          clear miss
          go_wp2
          go_quiet (fail)
          go_wp2
          go_ret
          refine ⟨n0 + nq, ?_, ?_⟩
          · rw [← hr, hit]
            rfl
          · rw [unhide HW, World.drewN_drewN]
        | false =>
          rw [hp] at miss
          replace miss := miss rfl
          clear hit
          go_wp2
          go_quiet (fail)
          go_wp2
          go_roundw
          case rel => exact ⟨j + 1, by omega, by go_num, by rw [← hr, miss], n0 + nq, by rw [unhide HW, World.drewN_drewN]⟩
          case measure => simp [intOf]; omega
      · have ht : decide ((g.size : Int) ≤ (s.size : Int) - (k : Int)) = false := decide_eq_false (by omega)
        rw [pre_short s k g h (by omega)] at miss
        replace miss := miss rfl
        clear hit
        go_wp2
        go_quiet (fail)
        go_wp2
        go_roundw
        case rel => exact ⟨j + 1, by omega, by go_num, by rw [← hr, miss], n0 + nq, by rw [unhide HW, World.drewN_drewN]⟩
        case measure => simp [intOf]; omega
    · obtain rfl : j = 30 := by omega
      go_wp2
      go_ret
      refine ⟨n0, ?_, unhide HW⟩
      rw [← hr, signFrom_end]
      rfl

theorem specSign_in (s : ByteArray) (k : Nat) (w : World) (h : k < s.size) (hs : s.size ≤ 4611686018427387904) : Calls Tryz.prog 80 #[.string s, .int .i64 (k : Int)] w fun e w' => e = .returned (.string ⟨(signOf (s.data.toList.drop k)).toArray⟩) ∧ Below w.heap.size w w' := by
  refine (specSign_at s k w h hs).mono ?_
  rintro e w' ⟨n, rfl, rfl⟩
  have hb : Below w.heap.size w (w.alloc (.cells sgCells 9)) := (Below.refl _ _).alloc (Nat.le_refl _) _
  exact ⟨rfl, hb.os, hb.tape, hb.output, hb.size, hb.block⟩
theorem implSign_any (s : ByteArray) (a : Int) (w : World) (hs : s.size ≤ 9223372036854775807) (hg : Sg w) : Calls Tryz.prog 96 #[.string s, .int .i64 a] w fun e w' => e = .returned (.string (signAt s a)) ∧ w' = w := by
  by_cases h : 0 ≤ a ∧ a < (s.size : Int)
  · obtain ⟨k, rfl⟩ := Int.eq_ofNat_of_zero_le h.1
    rw [signAt_in s k (by omega)]
    exact implSign_in s k w (by omega) hs hg
  · rw [signAt_out s a h]
    exact implSign_out s a w h
theorem specSign_any (s : ByteArray) (a : Int) (w : World) (hs : s.size ≤ 4611686018427387904) : Calls Tryz.prog 80 #[.string s, .int .i64 a] w fun e w' => e = .returned (.string (signAt s a)) ∧ Below w.heap.size w w' := by
  by_cases h : 0 ≤ a ∧ a < (s.size : Int)
  · obtain ⟨k, rfl⟩ := Int.eq_ofNat_of_zero_le h.1
    rw [signAt_in s k (by omega)]
    exact specSign_in s k w (by omega) hs
  · rw [signAt_out s a h]
    exact specSign_out s a w h

end Go.Proofs.YtjikjejfobnfnaaGreatDoor.lex
