/-
  The words, asked one behind the other.
-/
import Derived.Test.YtjikjejfobnfnaaGreatDoorC04
import Derived.Lib.Strings
namespace Go.Proofs.YtjikjejfobnfnaaGreatDoor.lex
open Go.RowKit Go.Maps Go.Proofs.YtjikjejfobnfnaaGreatDoor.num
set_option linter.unusedVariables false
set_option maxHeartbeats 1000000 in
set_option maxRecDepth 100000 in
theorem specWord_0 (s : ByteArray) (w : World) (h0 : (s.toList == [97, 114, 114, 97, 121]) = true) : Calls Tryz.prog 76 #[.string s] w fun e w' => e = .returned (.bool true) ∧ w' = w := by
  go_enter Tryz.func76, Tryz.ntmps76
  go_wp2
  go_ret
  exact ⟨rfl, rfl⟩

set_option maxHeartbeats 1000000 in
set_option maxRecDepth 100000 in
theorem specWord_1 (s : ByteArray) (w : World) (h0 : (s.toList == [97, 114, 114, 97, 121]) = false) (h1 : (s.toList == [118, 97, 114]) = true) : Calls Tryz.prog 76 #[.string s] w fun e w' => e = .returned (.bool true) ∧ w' = w := by
  go_enter Tryz.func76, Tryz.ntmps76
  go_wp2
  go_ret
  exact ⟨rfl, rfl⟩

set_option maxHeartbeats 1000000 in
set_option maxRecDepth 100000 in
theorem specWord_2 (s : ByteArray) (w : World) (h0 : (s.toList == [97, 114, 114, 97, 121]) = false) (h1 : (s.toList == [118, 97, 114]) = false) (h2 : (s.toList == [114, 101, 102]) = true) : Calls Tryz.prog 76 #[.string s] w fun e w' => e = .returned (.bool true) ∧ w' = w := by
  go_enter Tryz.func76, Tryz.ntmps76
  go_wp2
  go_ret
  exact ⟨rfl, rfl⟩

set_option maxHeartbeats 1000000 in
set_option maxRecDepth 100000 in
theorem specWord_3 (s : ByteArray) (w : World) (h0 : (s.toList == [97, 114, 114, 97, 121]) = false) (h1 : (s.toList == [118, 97, 114]) = false) (h2 : (s.toList == [114, 101, 102]) = false) (h3 : (s.toList == [102, 117, 110, 99]) = true) : Calls Tryz.prog 76 #[.string s] w fun e w' => e = .returned (.bool true) ∧ w' = w := by
  go_enter Tryz.func76, Tryz.ntmps76
  go_wp2
  go_ret
  exact ⟨rfl, rfl⟩

set_option maxHeartbeats 1000000 in
set_option maxRecDepth 100000 in
theorem specWord_4 (s : ByteArray) (w : World) (h0 : (s.toList == [97, 114, 114, 97, 121]) = false) (h1 : (s.toList == [118, 97, 114]) = false) (h2 : (s.toList == [114, 101, 102]) = false) (h3 : (s.toList == [102, 117, 110, 99]) = false) (h4 : (s.toList == [105, 102]) = true) : Calls Tryz.prog 76 #[.string s] w fun e w' => e = .returned (.bool true) ∧ w' = w := by
  go_enter Tryz.func76, Tryz.ntmps76
  go_wp2
  go_ret
  exact ⟨rfl, rfl⟩

set_option maxHeartbeats 1000000 in
set_option maxRecDepth 100000 in
theorem specWord_5 (s : ByteArray) (w : World) (h0 : (s.toList == [97, 114, 114, 97, 121]) = false) (h1 : (s.toList == [118, 97, 114]) = false) (h2 : (s.toList == [114, 101, 102]) = false) (h3 : (s.toList == [102, 117, 110, 99]) = false) (h4 : (s.toList == [105, 102]) = false) (h5 : (s.toList == [101, 108, 115, 101]) = true) : Calls Tryz.prog 76 #[.string s] w fun e w' => e = .returned (.bool true) ∧ w' = w := by
  go_enter Tryz.func76, Tryz.ntmps76
  go_wp2
  go_ret
  exact ⟨rfl, rfl⟩

set_option maxHeartbeats 1000000 in
set_option maxRecDepth 100000 in
theorem specWord_6 (s : ByteArray) (w : World) (h0 : (s.toList == [97, 114, 114, 97, 121]) = false) (h1 : (s.toList == [118, 97, 114]) = false) (h2 : (s.toList == [114, 101, 102]) = false) (h3 : (s.toList == [102, 117, 110, 99]) = false) (h4 : (s.toList == [105, 102]) = false) (h5 : (s.toList == [101, 108, 115, 101]) = false) (h6 : (s.toList == [119, 104, 105, 108, 101]) = true) : Calls Tryz.prog 76 #[.string s] w fun e w' => e = .returned (.bool true) ∧ w' = w := by
  go_enter Tryz.func76, Tryz.ntmps76
  go_wp2
  go_ret
  exact ⟨rfl, rfl⟩

set_option maxHeartbeats 1000000 in
set_option maxRecDepth 100000 in
theorem specWord_7 (s : ByteArray) (w : World) (h0 : (s.toList == [97, 114, 114, 97, 121]) = false) (h1 : (s.toList == [118, 97, 114]) = false) (h2 : (s.toList == [114, 101, 102]) = false) (h3 : (s.toList == [102, 117, 110, 99]) = false) (h4 : (s.toList == [105, 102]) = false) (h5 : (s.toList == [101, 108, 115, 101]) = false) (h6 : (s.toList == [119, 104, 105, 108, 101]) = false) (h7 : (s.toList == [102, 111, 114]) = true) : Calls Tryz.prog 76 #[.string s] w fun e w' => e = .returned (.bool true) ∧ w' = w := by
  go_enter Tryz.func76, Tryz.ntmps76
  go_wp2
  go_ret
  exact ⟨rfl, rfl⟩

set_option maxHeartbeats 1000000 in
set_option maxRecDepth 100000 in
theorem specWord_8 (s : ByteArray) (w : World) (h0 : (s.toList == [97, 114, 114, 97, 121]) = false) (h1 : (s.toList == [118, 97, 114]) = false) (h2 : (s.toList == [114, 101, 102]) = false) (h3 : (s.toList == [102, 117, 110, 99]) = false) (h4 : (s.toList == [105, 102]) = false) (h5 : (s.toList == [101, 108, 115, 101]) = false) (h6 : (s.toList == [119, 104, 105, 108, 101]) = false) (h7 : (s.toList == [102, 111, 114]) = false) (h8 : (s.toList == [114, 101, 97, 100]) = true) : Calls Tryz.prog 76 #[.string s] w fun e w' => e = .returned (.bool true) ∧ w' = w := by
  go_enter Tryz.func76, Tryz.ntmps76
  go_wp2
  go_ret
  exact ⟨rfl, rfl⟩

set_option maxHeartbeats 1000000 in
set_option maxRecDepth 100000 in
theorem specWord_9 (s : ByteArray) (w : World) (h0 : (s.toList == [97, 114, 114, 97, 121]) = false) (h1 : (s.toList == [118, 97, 114]) = false) (h2 : (s.toList == [114, 101, 102]) = false) (h3 : (s.toList == [102, 117, 110, 99]) = false) (h4 : (s.toList == [105, 102]) = false) (h5 : (s.toList == [101, 108, 115, 101]) = false) (h6 : (s.toList == [119, 104, 105, 108, 101]) = false) (h7 : (s.toList == [102, 111, 114]) = false) (h8 : (s.toList == [114, 101, 97, 100]) = false) (h9 : (s.toList == [112, 114, 105, 110, 116]) = true) : Calls Tryz.prog 76 #[.string s] w fun e w' => e = .returned (.bool true) ∧ w' = w := by
  go_enter Tryz.func76, Tryz.ntmps76
  go_wp2
  go_ret
  exact ⟨rfl, rfl⟩

set_option maxHeartbeats 1000000 in
set_option maxRecDepth 100000 in
theorem specWord_10 (s : ByteArray) (w : World) (h0 : (s.toList == [97, 114, 114, 97, 121]) = false) (h1 : (s.toList == [118, 97, 114]) = false) (h2 : (s.toList == [114, 101, 102]) = false) (h3 : (s.toList == [102, 117, 110, 99]) = false) (h4 : (s.toList == [105, 102]) = false) (h5 : (s.toList == [101, 108, 115, 101]) = false) (h6 : (s.toList == [119, 104, 105, 108, 101]) = false) (h7 : (s.toList == [102, 111, 114]) = false) (h8 : (s.toList == [114, 101, 97, 100]) = false) (h9 : (s.toList == [112, 114, 105, 110, 116]) = false) (h10 : (s.toList == [97, 115, 115, 101, 114, 116]) = true) : Calls Tryz.prog 76 #[.string s] w fun e w' => e = .returned (.bool true) ∧ w' = w := by
  go_enter Tryz.func76, Tryz.ntmps76
  go_wp2
  go_ret
  exact ⟨rfl, rfl⟩

set_option maxHeartbeats 1000000 in
set_option maxRecDepth 100000 in
theorem specWord_11 (s : ByteArray) (w : World) (h0 : (s.toList == [97, 114, 114, 97, 121]) = false) (h1 : (s.toList == [118, 97, 114]) = false) (h2 : (s.toList == [114, 101, 102]) = false) (h3 : (s.toList == [102, 117, 110, 99]) = false) (h4 : (s.toList == [105, 102]) = false) (h5 : (s.toList == [101, 108, 115, 101]) = false) (h6 : (s.toList == [119, 104, 105, 108, 101]) = false) (h7 : (s.toList == [102, 111, 114]) = false) (h8 : (s.toList == [114, 101, 97, 100]) = false) (h9 : (s.toList == [112, 114, 105, 110, 116]) = false) (h10 : (s.toList == [97, 115, 115, 101, 114, 116]) = false) (h11 : (s.toList == [115, 116, 111, 112]) = true) : Calls Tryz.prog 76 #[.string s] w fun e w' => e = .returned (.bool true) ∧ w' = w := by
  go_enter Tryz.func76, Tryz.ntmps76
  go_wp2
  go_ret
  exact ⟨rfl, rfl⟩

set_option maxHeartbeats 1000000 in
set_option maxRecDepth 100000 in
theorem specWord_12 (s : ByteArray) (w : World) (h0 : (s.toList == [97, 114, 114, 97, 121]) = false) (h1 : (s.toList == [118, 97, 114]) = false) (h2 : (s.toList == [114, 101, 102]) = false) (h3 : (s.toList == [102, 117, 110, 99]) = false) (h4 : (s.toList == [105, 102]) = false) (h5 : (s.toList == [101, 108, 115, 101]) = false) (h6 : (s.toList == [119, 104, 105, 108, 101]) = false) (h7 : (s.toList == [102, 111, 114]) = false) (h8 : (s.toList == [114, 101, 97, 100]) = false) (h9 : (s.toList == [112, 114, 105, 110, 116]) = false) (h10 : (s.toList == [97, 115, 115, 101, 114, 116]) = false) (h11 : (s.toList == [115, 116, 111, 112]) = false) (h12 : (s.toList == [114, 101, 116, 117, 114, 110]) = true) : Calls Tryz.prog 76 #[.string s] w fun e w' => e = .returned (.bool true) ∧ w' = w := by
  go_enter Tryz.func76, Tryz.ntmps76
  go_wp2
  go_ret
  exact ⟨rfl, rfl⟩

set_option maxHeartbeats 1000000 in
set_option maxRecDepth 100000 in
theorem specWord_13 (s : ByteArray) (w : World) (h0 : (s.toList == [97, 114, 114, 97, 121]) = false) (h1 : (s.toList == [118, 97, 114]) = false) (h2 : (s.toList == [114, 101, 102]) = false) (h3 : (s.toList == [102, 117, 110, 99]) = false) (h4 : (s.toList == [105, 102]) = false) (h5 : (s.toList == [101, 108, 115, 101]) = false) (h6 : (s.toList == [119, 104, 105, 108, 101]) = false) (h7 : (s.toList == [102, 111, 114]) = false) (h8 : (s.toList == [114, 101, 97, 100]) = false) (h9 : (s.toList == [112, 114, 105, 110, 116]) = false) (h10 : (s.toList == [97, 115, 115, 101, 114, 116]) = false) (h11 : (s.toList == [115, 116, 111, 112]) = false) (h12 : (s.toList == [114, 101, 116, 117, 114, 110]) = false) (h13 : (s.toList == [97, 110, 100]) = true) : Calls Tryz.prog 76 #[.string s] w fun e w' => e = .returned (.bool true) ∧ w' = w := by
  go_enter Tryz.func76, Tryz.ntmps76
  go_wp2
  go_ret
  exact ⟨rfl, rfl⟩

set_option maxHeartbeats 1000000 in
set_option maxRecDepth 100000 in
theorem specWord_14 (s : ByteArray) (w : World) (h0 : (s.toList == [97, 114, 114, 97, 121]) = false) (h1 : (s.toList == [118, 97, 114]) = false) (h2 : (s.toList == [114, 101, 102]) = false) (h3 : (s.toList == [102, 117, 110, 99]) = false) (h4 : (s.toList == [105, 102]) = false) (h5 : (s.toList == [101, 108, 115, 101]) = false) (h6 : (s.toList == [119, 104, 105, 108, 101]) = false) (h7 : (s.toList == [102, 111, 114]) = false) (h8 : (s.toList == [114, 101, 97, 100]) = false) (h9 : (s.toList == [112, 114, 105, 110, 116]) = false) (h10 : (s.toList == [97, 115, 115, 101, 114, 116]) = false) (h11 : (s.toList == [115, 116, 111, 112]) = false) (h12 : (s.toList == [114, 101, 116, 117, 114, 110]) = false) (h13 : (s.toList == [97, 110, 100]) = false) (h14 : (s.toList == [111, 114]) = true) : Calls Tryz.prog 76 #[.string s] w fun e w' => e = .returned (.bool true) ∧ w' = w := by
  go_enter Tryz.func76, Tryz.ntmps76
  go_wp2
  go_ret
  exact ⟨rfl, rfl⟩

set_option maxHeartbeats 1000000 in
set_option maxRecDepth 100000 in
theorem specWord_15 (s : ByteArray) (w : World) (h0 : (s.toList == [97, 114, 114, 97, 121]) = false) (h1 : (s.toList == [118, 97, 114]) = false) (h2 : (s.toList == [114, 101, 102]) = false) (h3 : (s.toList == [102, 117, 110, 99]) = false) (h4 : (s.toList == [105, 102]) = false) (h5 : (s.toList == [101, 108, 115, 101]) = false) (h6 : (s.toList == [119, 104, 105, 108, 101]) = false) (h7 : (s.toList == [102, 111, 114]) = false) (h8 : (s.toList == [114, 101, 97, 100]) = false) (h9 : (s.toList == [112, 114, 105, 110, 116]) = false) (h10 : (s.toList == [97, 115, 115, 101, 114, 116]) = false) (h11 : (s.toList == [115, 116, 111, 112]) = false) (h12 : (s.toList == [114, 101, 116, 117, 114, 110]) = false) (h13 : (s.toList == [97, 110, 100]) = false) (h14 : (s.toList == [111, 114]) = false) (h15 : (s.toList == [110, 111, 116]) = true) : Calls Tryz.prog 76 #[.string s] w fun e w' => e = .returned (.bool true) ∧ w' = w := by
  go_enter Tryz.func76, Tryz.ntmps76
  go_wp2
  go_ret
  exact ⟨rfl, rfl⟩

set_option maxHeartbeats 1000000 in
set_option maxRecDepth 100000 in
theorem specWord_16 (s : ByteArray) (w : World) (h0 : (s.toList == [97, 114, 114, 97, 121]) = false) (h1 : (s.toList == [118, 97, 114]) = false) (h2 : (s.toList == [114, 101, 102]) = false) (h3 : (s.toList == [102, 117, 110, 99]) = false) (h4 : (s.toList == [105, 102]) = false) (h5 : (s.toList == [101, 108, 115, 101]) = false) (h6 : (s.toList == [119, 104, 105, 108, 101]) = false) (h7 : (s.toList == [102, 111, 114]) = false) (h8 : (s.toList == [114, 101, 97, 100]) = false) (h9 : (s.toList == [112, 114, 105, 110, 116]) = false) (h10 : (s.toList == [97, 115, 115, 101, 114, 116]) = false) (h11 : (s.toList == [115, 116, 111, 112]) = false) (h12 : (s.toList == [114, 101, 116, 117, 114, 110]) = false) (h13 : (s.toList == [97, 110, 100]) = false) (h14 : (s.toList == [111, 114]) = false) (h15 : (s.toList == [110, 111, 116]) = false) (h16 : (s.toList == [110, 117, 108, 108]) = true) : Calls Tryz.prog 76 #[.string s] w fun e w' => e = .returned (.bool true) ∧ w' = w := by
  go_enter Tryz.func76, Tryz.ntmps76
  go_wp2
  go_ret
  exact ⟨rfl, rfl⟩

set_option maxHeartbeats 1000000 in
set_option maxRecDepth 100000 in
theorem specWord_17 (s : ByteArray) (w : World) (h0 : (s.toList == [97, 114, 114, 97, 121]) = false) (h1 : (s.toList == [118, 97, 114]) = false) (h2 : (s.toList == [114, 101, 102]) = false) (h3 : (s.toList == [102, 117, 110, 99]) = false) (h4 : (s.toList == [105, 102]) = false) (h5 : (s.toList == [101, 108, 115, 101]) = false) (h6 : (s.toList == [119, 104, 105, 108, 101]) = false) (h7 : (s.toList == [102, 111, 114]) = false) (h8 : (s.toList == [114, 101, 97, 100]) = false) (h9 : (s.toList == [112, 114, 105, 110, 116]) = false) (h10 : (s.toList == [97, 115, 115, 101, 114, 116]) = false) (h11 : (s.toList == [115, 116, 111, 112]) = false) (h12 : (s.toList == [114, 101, 116, 117, 114, 110]) = false) (h13 : (s.toList == [97, 110, 100]) = false) (h14 : (s.toList == [111, 114]) = false) (h15 : (s.toList == [110, 111, 116]) = false) (h16 : (s.toList == [110, 117, 108, 108]) = false) : Calls Tryz.prog 76 #[.string s] w fun e w' => e = .returned (.bool false) ∧ w' = w := by
  go_enter Tryz.func76, Tryz.ntmps76
  go_wp2
  go_ret
  exact ⟨rfl, rfl⟩

theorem specWord_any (s : ByteArray) (w : World) : Calls Tryz.prog 76 #[.string s] w fun e w' => e = .returned (.bool (isWord s.data.toList)) ∧ w' = w := by
  rw [← Lib.toList_data]
  cases h0 : s.toList == [97, 114, 114, 97, 121] with
  | true =>
    have e : isWord s.toList = true := by rw [isWord, beq_iff_eq.1 h0]; decide
    rw [e]
    exact specWord_0 s w h0
  | false =>
  cases h1 : s.toList == [118, 97, 114] with
  | true =>
    have e : isWord s.toList = true := by rw [isWord, beq_iff_eq.1 h1]; decide
    rw [e]
    exact specWord_1 s w h0 h1
  | false =>
  cases h2 : s.toList == [114, 101, 102] with
  | true =>
    have e : isWord s.toList = true := by rw [isWord, beq_iff_eq.1 h2]; decide
    rw [e]
    exact specWord_2 s w h0 h1 h2
  | false =>
  cases h3 : s.toList == [102, 117, 110, 99] with
  | true =>
    have e : isWord s.toList = true := by rw [isWord, beq_iff_eq.1 h3]; decide
    rw [e]
    exact specWord_3 s w h0 h1 h2 h3
  | false =>
  cases h4 : s.toList == [105, 102] with
  | true =>
    have e : isWord s.toList = true := by rw [isWord, beq_iff_eq.1 h4]; decide
    rw [e]
    exact specWord_4 s w h0 h1 h2 h3 h4
  | false =>
  cases h5 : s.toList == [101, 108, 115, 101] with
  | true =>
    have e : isWord s.toList = true := by rw [isWord, beq_iff_eq.1 h5]; decide
    rw [e]
    exact specWord_5 s w h0 h1 h2 h3 h4 h5
  | false =>
  cases h6 : s.toList == [119, 104, 105, 108, 101] with
  | true =>
    have e : isWord s.toList = true := by rw [isWord, beq_iff_eq.1 h6]; decide
    rw [e]
    exact specWord_6 s w h0 h1 h2 h3 h4 h5 h6
  | false =>
  cases h7 : s.toList == [102, 111, 114] with
  | true =>
    have e : isWord s.toList = true := by rw [isWord, beq_iff_eq.1 h7]; decide
    rw [e]
    exact specWord_7 s w h0 h1 h2 h3 h4 h5 h6 h7
  | false =>
  cases h8 : s.toList == [114, 101, 97, 100] with
  | true =>
    have e : isWord s.toList = true := by rw [isWord, beq_iff_eq.1 h8]; decide
    rw [e]
    exact specWord_8 s w h0 h1 h2 h3 h4 h5 h6 h7 h8
  | false =>
  cases h9 : s.toList == [112, 114, 105, 110, 116] with
  | true =>
    have e : isWord s.toList = true := by rw [isWord, beq_iff_eq.1 h9]; decide
    rw [e]
    exact specWord_9 s w h0 h1 h2 h3 h4 h5 h6 h7 h8 h9
  | false =>
  cases h10 : s.toList == [97, 115, 115, 101, 114, 116] with
  | true =>
    have e : isWord s.toList = true := by rw [isWord, beq_iff_eq.1 h10]; decide
    rw [e]
    exact specWord_10 s w h0 h1 h2 h3 h4 h5 h6 h7 h8 h9 h10
  | false =>
  cases h11 : s.toList == [115, 116, 111, 112] with
  | true =>
    have e : isWord s.toList = true := by rw [isWord, beq_iff_eq.1 h11]; decide
    rw [e]
    exact specWord_11 s w h0 h1 h2 h3 h4 h5 h6 h7 h8 h9 h10 h11
  | false =>
  cases h12 : s.toList == [114, 101, 116, 117, 114, 110] with
  | true =>
    have e : isWord s.toList = true := by rw [isWord, beq_iff_eq.1 h12]; decide
    rw [e]
    exact specWord_12 s w h0 h1 h2 h3 h4 h5 h6 h7 h8 h9 h10 h11 h12
  | false =>
  cases h13 : s.toList == [97, 110, 100] with
  | true =>
    have e : isWord s.toList = true := by rw [isWord, beq_iff_eq.1 h13]; decide
    rw [e]
    exact specWord_13 s w h0 h1 h2 h3 h4 h5 h6 h7 h8 h9 h10 h11 h12 h13
  | false =>
  cases h14 : s.toList == [111, 114] with
  | true =>
    have e : isWord s.toList = true := by rw [isWord, beq_iff_eq.1 h14]; decide
    rw [e]
    exact specWord_14 s w h0 h1 h2 h3 h4 h5 h6 h7 h8 h9 h10 h11 h12 h13 h14
  | false =>
  cases h15 : s.toList == [110, 111, 116] with
  | true =>
    have e : isWord s.toList = true := by rw [isWord, beq_iff_eq.1 h15]; decide
    rw [e]
    exact specWord_15 s w h0 h1 h2 h3 h4 h5 h6 h7 h8 h9 h10 h11 h12 h13 h14 h15
  | false =>
  cases h16 : s.toList == [110, 117, 108, 108] with
  | true =>
    have e : isWord s.toList = true := by rw [isWord, beq_iff_eq.1 h16]; decide
    rw [e]
    exact specWord_16 s w h0 h1 h2 h3 h4 h5 h6 h7 h8 h9 h10 h11 h12 h13 h14 h15 h16
  | false =>
  have e : isWord s.toList = false := by
    simp only [isWord, words, List.contains_cons, h0, h1, h2, h3, h4, h5, h6, h7, h8, h9, h10, h11, h12, h13, h14, h15, h16]
    rfl
  rw [e]
  exact specWord_17 s w h0 h1 h2 h3 h4 h5 h6 h7 h8 h9 h10 h11 h12 h13 h14 h15 h16

end Go.Proofs.YtjikjejfobnfnaaGreatDoor.lex
