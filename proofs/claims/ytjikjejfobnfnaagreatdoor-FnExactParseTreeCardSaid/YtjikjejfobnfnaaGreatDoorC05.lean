/-
  The tokens of a text, as plain functions of its bytes.
  The model's readers of letters, digits, blanks and remarks: what each returns, as a plain function of the bytes.
-/
import Derived.Test.YtjikjejfobnfnaaGreatDoorC03
import Derived.Test.YtjikjejfobnfnaaGreatDoorC04
namespace Go.Proofs.YtjikjejfobnfnaaGreatDoor.lex
set_option linter.unusedVariables false
/-- The byte at a place, nought past the end. -/
def gb (s : ByteArray) (k : Nat) : Int := ((s.data.toList.getD k 0).toNat : Int)
theorem gb_rng (s : ByteArray) (k : Nat) : 0 ≤ gb s k ∧ gb s k ≤ 255 := by
  have h := (s.data.toList.getD k 0).toNat_lt
  unfold gb
  omega
def isLet (c : Int) : Bool := decide (97 ≤ c ∧ c ≤ 122)
def isDig (c : Int) : Bool := decide (48 ≤ c ∧ c ≤ 57)
theorem isLet_iff (c : Int) : isLet c = true ↔ 97 ≤ c ∧ c ≤ 122 := by simp [isLet]
theorem isDig_iff (c : Int) : isDig c = true ↔ 48 ≤ c ∧ c ≤ 57 := by simp [isDig]

/-- Where a run of letters and digits ends. -/
def runEnd (s : ByteArray) (k : Nat) : Nat := if k < s.size ∧ (isLet (gb s k) || isDig (gb s k)) = true then runEnd s (k + 1) else k
termination_by s.size - k
theorem runEnd_go (s : ByteArray) (k : Nat) (h : k < s.size) (hc : (isLet (gb s k) || isDig (gb s k)) = true) : runEnd s k = runEnd s (k + 1) := by
  rw [runEnd, if_pos ⟨h, hc⟩]
theorem runEnd_end (s : ByteArray) (k : Nat) (h : ¬ k < s.size) : runEnd s k = k := by rw [runEnd, if_neg (fun x => h x.1)]
theorem runEnd_stop (s : ByteArray) (k : Nat) (hc : (isLet (gb s k) || isDig (gb s k)) = false) : runEnd s k = k := by rw [runEnd, if_neg (fun x => by rw [hc] at x; exact Bool.noConfusion x.2)]
theorem le_runEnd (s : ByteArray) (k : Nat) : k ≤ runEnd s k := by
  unfold runEnd
  split
  · exact Nat.le_trans (Nat.le_succ k) (le_runEnd s (k + 1))
  · exact Nat.le_refl _
termination_by s.size - k
theorem runEnd_le (s : ByteArray) (k : Nat) (h : k ≤ s.size) : runEnd s k ≤ s.size := by
  unfold runEnd
  split
  · exact runEnd_le s (k + 1) (by omega)
  · exact h
termination_by s.size - k

/-- Where a run of digits ends. -/
def digEnd (s : ByteArray) (k : Nat) : Nat := if k < s.size ∧ isDig (gb s k) = true then digEnd s (k + 1) else k
termination_by s.size - k
theorem digEnd_go (s : ByteArray) (k : Nat) (h : k < s.size) (hc : isDig (gb s k) = true) : digEnd s k = digEnd s (k + 1) := by
  rw [digEnd, if_pos ⟨h, hc⟩]
theorem digEnd_end (s : ByteArray) (k : Nat) (h : ¬ k < s.size) : digEnd s k = k := by rw [digEnd, if_neg (fun x => h x.1)]
theorem digEnd_stop (s : ByteArray) (k : Nat) (hc : isDig (gb s k) = false) : digEnd s k = k := by rw [digEnd, if_neg (fun x => by rw [hc] at x; exact Bool.noConfusion x.2)]
theorem le_digEnd (s : ByteArray) (k : Nat) : k ≤ digEnd s k := by
  unfold digEnd
  split
  · exact Nat.le_trans (Nat.le_succ k) (le_digEnd s (k + 1))
  · exact Nat.le_refl _
termination_by s.size - k
theorem digEnd_le (s : ByteArray) (k : Nat) (h : k ≤ s.size) : digEnd s k ≤ s.size := by
  unfold digEnd
  split
  · exact digEnd_le s (k + 1) (by omega)
  · exact h
termination_by s.size - k
/-- What lies in a run of digits is digits. -/
theorem digEnd_dig (s : ByteArray) (k j : Nat) (h : k ≤ j) (hj : j < digEnd s k) : j < s.size ∧ isDig (gb s j) = true := by
  by_cases hc : k < s.size ∧ isDig (gb s k) = true
  · rcases Nat.eq_or_lt_of_le h with rfl | hlt
    · exact hc
    · rw [digEnd_go s k hc.1 hc.2] at hj
      exact digEnd_dig s (k + 1) j hlt hj
  · rw [digEnd, if_neg hc] at hj
    omega
termination_by s.size - k

/-- Where a remark ends. -/
def remEnd (s : ByteArray) (k : Nat) : Nat := if k < s.size ∧ gb s k ≠ 10 then remEnd s (k + 1) else k
termination_by s.size - k
theorem remEnd_go (s : ByteArray) (k : Nat) (h : k < s.size) (hc : gb s k ≠ 10) : remEnd s k = remEnd s (k + 1) := by
  rw [remEnd, if_pos ⟨h, hc⟩]
theorem remEnd_end (s : ByteArray) (k : Nat) (h : ¬ k < s.size) : remEnd s k = k := by rw [remEnd, if_neg (fun x => h x.1)]
theorem remEnd_stop (s : ByteArray) (k : Nat) (hc : gb s k = 10) : remEnd s k = k := by rw [remEnd, if_neg (fun x => x.2 hc)]
theorem le_remEnd (s : ByteArray) (k : Nat) : k ≤ remEnd s k := by
  unfold remEnd
  split
  · exact Nat.le_trans (Nat.le_succ k) (le_remEnd s (k + 1))
  · exact Nat.le_refl _
termination_by s.size - k
theorem remEnd_le (s : ByteArray) (k : Nat) (h : k ≤ s.size) : remEnd s k ≤ s.size := by
  unfold remEnd
  split
  · exact remEnd_le s (k + 1) (by omega)
  · exact h
termination_by s.size - k

/-- Where the next token begins. -/
def skip (s : ByteArray) (k : Nat) : Nat :=
  if k < s.size then
    if gb s k = 32 ∨ gb s k = 10 then skip s (k + 1)
    else if gb s k = 35 then skip s (remEnd s (k + 1))
    else k
  else k
termination_by s.size - k
decreasing_by
  · omega
  · have := le_remEnd s (k + 1)
    omega
theorem skip_end (s : ByteArray) (k : Nat) (h : ¬ k < s.size) : skip s k = k := by rw [skip, if_neg h]
theorem skip_blank (s : ByteArray) (k : Nat) (h : k < s.size) (hc : gb s k = 32 ∨ gb s k = 10) : skip s k = skip s (k + 1) := by rw [skip, if_pos h, if_pos hc]
theorem skip_rem (s : ByteArray) (k : Nat) (h : k < s.size) (hc : gb s k = 35) : skip s k = skip s (remEnd s (k + 1)) := by
  rw [skip, if_pos h, if_neg (by omega), if_pos hc]
theorem skip_stop (s : ByteArray) (k : Nat) (hc : ¬ (gb s k = 32 ∨ gb s k = 10)) (hd : gb s k ≠ 35) : skip s k = k := by
  by_cases h : k < s.size
  · rw [skip, if_pos h, if_neg hc, if_neg hd]
  · exact skip_end s k h
theorem le_skip (s : ByteArray) (k : Nat) : k ≤ skip s k := by
  rw [skip]
  split
  · split
    · exact Nat.le_trans (Nat.le_succ k) (le_skip s (k + 1))
    · split
      · have h1 := le_remEnd s (k + 1)
        have h2 := le_skip s (remEnd s (k + 1))
        omega
      · exact Nat.le_refl _
  · exact Nat.le_refl _
termination_by s.size - k
decreasing_by
  · omega
  · have := le_remEnd s (k + 1)
    omega
theorem skip_le (s : ByteArray) (k : Nat) (h : k ≤ s.size) : skip s k ≤ s.size := by
  by_cases h0 : k < s.size
  · by_cases h1 : gb s k = 32 ∨ gb s k = 10
    · rw [skip_blank s k h0 h1]
      exact skip_le s (k + 1) (by omega)
    · by_cases h2 : gb s k = 35
      · rw [skip_rem s k h0 h2]
        have := le_remEnd s (k + 1)
        exact skip_le s (remEnd s (k + 1)) (remEnd_le s (k + 1) (by omega))
      · rw [skip_stop s k h1 h2]
        exact h
  · rw [skip_end s k h0]
    exact h
termination_by s.size - k
theorem skip_at (s : ByteArray) (k : Nat) (h : skip s k < s.size) : ¬ (gb s (skip s k) = 32 ∨ gb s (skip s k) = 10) ∧ gb s (skip s k) ≠ 35 := by
  by_cases h0 : k < s.size
  · by_cases h1 : gb s k = 32 ∨ gb s k = 10
    · rw [skip_blank s k h0 h1] at h ⊢
      exact skip_at s (k + 1) h
    · by_cases h2 : gb s k = 35
      · rw [skip_rem s k h0 h2] at h ⊢
        exact skip_at s (remEnd s (k + 1)) h
      · rw [skip_stop s k h1 h2]
        exact ⟨h1, h2⟩
  · rw [skip_end s k h0] at h
    omega
termination_by s.size - k
decreasing_by
  · omega
  · have := le_remEnd s (k + 1)
    omega

/-- The number of some digits. -/
def dval (l : List UInt8) : Nat → Nat := l.foldl (fun v c => v * 10 + (c.toNat - 48))
/-- The number of a run of digits, or -1 when it is none in its one form. -/
def value (t : ByteArray) : Int :=
  if 10 < t.size ∨ (1 < t.size ∧ gb t 0 = 48) then -1 else if 2147483647 < dval t.data.toList 0 then -1 else (dval t.data.toList 0 : Int)

structure Tok where
  kind : Int
  pos : Int
  text : ByteArray
  num : Int
deriving DecidableEq
/-- A token's four cells. -/
def Tok.cells (t : Tok) : List Value := [.int .i64 t.kind, .int .i64 t.pos, .string t.text, .int .i64 t.num]
/-- A token as a value. -/
def Tok.val (t : Tok) : Value := .agg #[.int .i64 t.kind, .int .i64 t.pos, .string t.text, .int .i64 t.num]
def rowOf (l : List Tok) : List Value := l.flatMap Tok.cells
theorem rowOf_length (l : List Tok) : (rowOf l).length = l.length * 4 := by
  induction l with
  | nil => rfl
  | cons t r ih => simp [rowOf, Tok.cells] at ih ⊢; omega
theorem rowOf_snoc (l : List Tok) (t : Tok) : rowOf (l ++ [t]) = rowOf l ++ t.cells := by simp [rowOf]

def nameTok (s : ByteArray) (k : Nat) : Tok := ⟨if isWord (s.extract k (runEnd s k)).data.toList then 3 else 1, k, s.extract k (runEnd s k), 0⟩
def numTok (s : ByteArray) (k : Nat) : Tok := ⟨2, k, s.extract k (digEnd s k), value (s.extract k (digEnd s k))⟩
def sgnTok (s : ByteArray) (k : Nat) : Tok := ⟨4, k, signAt s k, 0⟩
/-- The token at a place. -/
def tokAt (s : ByteArray) (k : Nat) : Tok := if isLet (gb s k) then nameTok s k else if isDig (gb s k) then numTok s k else sgnTok s k
/-- Where it ends. -/
def tokEnd (s : ByteArray) (k : Nat) : Nat := if isLet (gb s k) then runEnd s k else if isDig (gb s k) then digEnd s k else k + (signAt s k).size
/-- What is wrong with it. -/
def tokCode (s : ByteArray) (k : Nat) : Int :=
  if isLet (gb s k) then (if 8 < runEnd s k - k then 3 else 0) else if isDig (gb s k) then (if value (s.extract k (digEnd s k)) < 0 then 4 else 0) else (if (signAt s k).size = 0 then 2 else 0)

/-- The tokens from a place on, behind others; and what is wrong, and where. -/
def lexFrom (s : ByteArray) (k : Nat) (acc : List Tok) : List Tok × Int × Int :=
  if skip s k < s.size then
    if tokCode s (skip s k) ≠ 0 then ([], tokCode s (skip s k), skip s k)
    else if 700 ≤ acc.length then ([], 5, skip s k)
    else if skip s k < tokEnd s (skip s k) then lexFrom s (tokEnd s (skip s k)) (acc ++ [tokAt s (skip s k)])
    else ([], 0, 0)
  else (acc, 0, 0)
termination_by s.size - k
decreasing_by
  have := le_skip s k
  omega
/-- The tokens of a text. -/
def lexAll (s : ByteArray) : List Tok × Int × Int := if 3000 < s.size then ([], 1, 0) else lexFrom s 0 []

theorem signAt_size (s : ByteArray) (k : Nat) (h : k < s.size) : k + (signAt s k).size ≤ s.size := by
  rw [signAt_in s k h]
  have e : ∀ l : List UInt8, (signOf l).length ≤ l.length := by
    intro l
    unfold signOf signFrom
    cases hf : (signs.drop 0).find? fun g => Lib.hasPrefix l g with
    | none => simp
    | some g =>
      have hp := List.find?_some hf
      have : g <+: l := List.isPrefixOf_iff_prefix.1 hp
      exact this.length_le
  have := e (s.data.toList.drop k)
  rw [List.length_drop, ← Lib.size_eq] at this
  have e2 : (ByteArray.mk (signOf (s.data.toList.drop k)).toArray).size = (signOf (s.data.toList.drop k)).length := by rw [Lib.size_eq]
  omega
theorem tokEnd_le (s : ByteArray) (k : Nat) (h : k < s.size) : tokEnd s k ≤ s.size := by
  unfold tokEnd
  split
  · exact runEnd_le s k (by omega)
  · split
    · exact digEnd_le s k (by omega)
    · exact signAt_size s k h
theorem lt_tokEnd (s : ByteArray) (k : Nat) (h : k < s.size) (hc : tokCode s k = 0) : k < tokEnd s k := by
  unfold tokCode at hc
  unfold tokEnd
  split
  · rename_i hl
    rw [runEnd_go s k h (by simp [hl])]
    exact le_runEnd s (k + 1)
  · rename_i hl
    rw [if_neg hl] at hc
    split
    · rename_i hd
      rw [digEnd_go s k h hd]
      exact le_digEnd s (k + 1)
    · rename_i hd
      rw [if_neg hd] at hc
      by_cases h0 : (signAt s k).size = 0
      · rw [if_pos h0] at hc; omega
      · omega
theorem tokAt_size (s : ByteArray) (k : Nat) (h : k < s.size) : (tokAt s k).text.size = tokEnd s k - k := by
  unfold tokAt tokEnd
  split
  · have := runEnd_le s k (by omega)
    simp [nameTok]; omega
  · split
    · have := digEnd_le s k (by omega)
      simp [numTok]; omega
    · simp [sgnTok]
theorem lexFrom_end (s : ByteArray) (k : Nat) (acc : List Tok) (h : ¬ skip s k < s.size) : lexFrom s k acc = (acc, 0, 0) := by rw [lexFrom, if_neg h]
theorem lexFrom_bad (s : ByteArray) (k : Nat) (acc : List Tok) (h : skip s k < s.size) (hc : tokCode s (skip s k) ≠ 0) : lexFrom s k acc = ([], tokCode s (skip s k), (skip s k : Int)) := by rw [lexFrom, if_pos h, if_pos hc]
theorem lexFrom_many (s : ByteArray) (k : Nat) (acc : List Tok) (h : skip s k < s.size) (hc : tokCode s (skip s k) = 0) (hn : 700 ≤ acc.length) : lexFrom s k acc = ([], (5 : Int), (skip s k : Int)) := by rw [lexFrom, if_pos h, if_neg (by omega), if_pos hn]
theorem lexFrom_go (s : ByteArray) (k : Nat) (acc : List Tok) (h : skip s k < s.size) (hc : tokCode s (skip s k) = 0) (hn : ¬ 700 ≤ acc.length) : lexFrom s k acc = lexFrom s (tokEnd s (skip s k)) (acc ++ [tokAt s (skip s k)]) := by
  rw [lexFrom, if_pos h, if_neg (by omega), if_neg hn, if_pos (lt_tokEnd s _ h hc)]

end Go.Proofs.YtjikjejfobnfnaaGreatDoor.lex
namespace Go.Proofs.YtjikjejfobnfnaaGreatDoor.lex
open Go.RowKit Go.Proofs.YtjikjejfobnfnaaGreatDoor.num
set_option linter.unusedVariables false
theorem letter_any (c : Int) (w : World) : Calls Tryz.prog 74 #[.int .u8 c] w fun e w' => e = .returned (.bool (isLet c)) ∧ w' = w := by
  go_enter Tryz.func74, Tryz.ntmps74
  go_wp2
  all_goals go_ret
  all_goals (refine ⟨ret_bool ?_, rfl⟩; unfold isLet; first | (rw [eq_comm, decide_eq_true_iff]; omega) | (rw [eq_comm, decide_eq_false_iff_not]; omega) | (simp; omega) | simp_all)
theorem digit_any (c : Int) (w : World) : Calls Tryz.prog 77 #[.int .u8 c] w fun e w' => e = .returned (.bool (isDig c)) ∧ w' = w := by
  go_enter Tryz.func77, Tryz.ntmps77
  go_wp2
  all_goals go_ret
  all_goals (refine ⟨ret_bool ?_, rfl⟩; unfold isDig; first | (rw [eq_comm, decide_eq_true_iff]; omega) | (rw [eq_comm, decide_eq_false_iff_not]; omega) | (simp; omega) | simp_all)

theorem gb_get (s : ByteArray) (k : Nat) (h : k < s.size) : ((s[k]'h).toNat : Int) = gb s k := by
  have e : s.data.toList.getD k 0 = s[k]'h := by
    rw [List.getD_eq_getElem?_getD, Array.getElem?_toList, Array.getElem?_eq_getElem (by exact h)]
    rfl
  unfold gb
  rw [e]
theorem byteAt (s : ByteArray) (k : Nat) (h : k < s.size) (w : World) : (Instr.index 9 (.string s) (.int .i64 (k : Int))).run Tryz.prog w = .ok (.int .u8 (gb s k)) w := by
  rw [run_index_string w 9 s .i64 k Tryz.underlying9, dif_pos ⟨by omega, by omega⟩]
  have := gb_get s k h
  simp only [Int.toNat_natCast]
  rw [this]

set_option maxRecDepth 100000 in
theorem run_any (s : ByteArray) (k : Nat) (w : World) (hs : s.size ≤ 4611686018427387904) (hk : k ≤ s.size) : Calls Tryz.prog 75 #[.string s, .int .i64 (k : Int)] w fun e w' => e = .returned (.int .i64 (runEnd s k : Nat)) ∧ w' = w := by
  go_enter Tryz.func75, Tryz.ntmps75
  go_wp2
  go_loop [1] (fun i => ∃ j : Nat, j ≤ s.size ∧ i = .int .i64 j ∧ runEnd s j = runEnd s k) (fun i => s.size - (intOf i).toNat)
  case atStart => exact ⟨k, hk, rfl, rfl⟩
  case round =>
    obtain ⟨j, hj, rfl, hr⟩ := hrel
    by_cases hlt : j < s.size
    · have hix := byteAt s j hlt
      cases hl : isLet (gb s j) with
      | true =>
        have e := runEnd_go s j hlt (by simp [hl])
        go_wp2_with (first | (go_at_call 74; refine (letter_any _ _).mono ?_; rintro e w' ⟨rfl, rfl⟩) | (go_at_call 77; refine (digit_any _ _).mono ?_; rintro e w' ⟨rfl, rfl⟩))
        go_round
        case rel => exact ⟨j + 1, by omega, by go_num, by rw [← e, hr]⟩
        case measure => simp [intOf]; omega
      | false =>
        cases hd : isDig (gb s j) with
        | true =>
          have e := runEnd_go s j hlt (by simp [hd])
          go_wp2_with (first | (go_at_call 74; refine (letter_any _ _).mono ?_; rintro e w' ⟨rfl, rfl⟩) | (go_at_call 77; refine (digit_any _ _).mono ?_; rintro e w' ⟨rfl, rfl⟩))
          go_round
          case rel => exact ⟨j + 1, by omega, by go_num, by rw [← e, hr]⟩
          case measure => simp [intOf]; omega
        | false =>
          have e := runEnd_stop s j (by simp [hl, hd])
          go_wp2_with (first | (go_at_call 74; refine (letter_any _ _).mono ?_; rintro e w' ⟨rfl, rfl⟩) | (go_at_call 77; refine (digit_any _ _).mono ?_; rintro e w' ⟨rfl, rfl⟩))
          go_ret
          exact ⟨ret_int (by rw [← hr, e]), rfl⟩
    · have e := runEnd_end s j hlt
      go_wp2
      go_ret
      exact ⟨ret_int (by rw [← hr, e]), rfl⟩

set_option maxRecDepth 100000 in
theorem digits_any (s : ByteArray) (k : Nat) (w : World) (hs : s.size ≤ 4611686018427387904) (hk : k ≤ s.size) : Calls Tryz.prog 78 #[.string s, .int .i64 (k : Int)] w fun e w' => e = .returned (.int .i64 (digEnd s k : Nat)) ∧ w' = w := by
  go_enter Tryz.func78, Tryz.ntmps78
  go_wp2
  go_loop [1] (fun i => ∃ j : Nat, j ≤ s.size ∧ i = .int .i64 j ∧ digEnd s j = digEnd s k) (fun i => s.size - (intOf i).toNat)
  case atStart => exact ⟨k, hk, rfl, rfl⟩
  case round =>
    obtain ⟨j, hj, rfl, hr⟩ := hrel
    by_cases hlt : j < s.size
    · have hix := byteAt s j hlt
      cases hd : isDig (gb s j) with
      | true =>
        have e := digEnd_go s j hlt hd
        go_wp2_with (go_at_call 77; refine (digit_any _ _).mono ?_; rintro e w' ⟨rfl, rfl⟩)
        go_round
        case rel => exact ⟨j + 1, by omega, by go_num, by rw [← e, hr]⟩
        case measure => simp [intOf]; omega
      | false =>
        have e := digEnd_stop s j hd
        go_wp2_with (go_at_call 77; refine (digit_any _ _).mono ?_; rintro e w' ⟨rfl, rfl⟩)
        go_ret
        exact ⟨ret_int (by rw [← hr, e]), rfl⟩
    · have e := digEnd_end s j hlt
      go_wp2
      go_ret
      exact ⟨ret_int (by rw [← hr, e]), rfl⟩

set_option maxHeartbeats 1000000 in
set_option maxRecDepth 100000 in
theorem skip_any (s : ByteArray) (k : Nat) (w : World) (hs : s.size ≤ 4611686018427387904) (hk : k ≤ s.size) : Calls Tryz.prog 44 #[.string s, .int .i64 (k : Int)] w fun e w' => e = .returned (.int .i64 (skip s k : Nat)) ∧ w' = w := by
  go_enter Tryz.func44, Tryz.ntmps44
  go_wp2
  go_loop [1] (fun i => ∃ j : Nat, j ≤ s.size ∧ i = .int .i64 j ∧ skip s j = skip s k) (fun i => s.size - (intOf i).toNat)
  case atStart => exact ⟨k, hk, rfl, rfl⟩
  case round =>
    obtain ⟨j, hj, rfl, hr⟩ := hrel
    by_cases hlt : j < s.size
    · have hix := byteAt s j hlt
      by_cases h32 : gb s j = 32
      · have e := skip_blank s j hlt (.inl h32)
        rw [h32] at hix
        go_wp2
        go_round
        case rel => exact ⟨j + 1, by omega, by go_num, by rw [← e, hr]⟩
        case measure => simp [intOf]; omega
      by_cases h10 : gb s j = 10
      · have e := skip_blank s j hlt (.inr h10)
        rw [h10] at hix
        go_wp2
        go_round
        case rel => exact ⟨j + 1, by omega, by go_num, by rw [← e, hr]⟩
        case measure => simp [intOf]; omega
      by_cases h35 : gb s j = 35
      · have e := skip_rem s j hlt h35
        have e2 := remEnd_go s j hlt h10
        have e3 := le_remEnd s (j + 1)
        rw [h35] at hix
        go_wp2
        go_loop [1] (fun i => ∃ l : Nat, j ≤ l ∧ l ≤ s.size ∧ i = .int .i64 l ∧ remEnd s l = remEnd s (j + 1)) (fun i => s.size - (intOf i).toNat)
        case atStart => exact ⟨j, by omega, hj, rfl, e2⟩
        case round =>
          obtain ⟨l, hl0, hl, rfl, hr2⟩ := hrel
          clear hix
          by_cases hl2 : l < s.size
          · have hix := byteAt s l hl2
            by_cases h10' : gb s l = 10
            · have e4 := remEnd_stop s l h10'
              rw [h10'] at hix
              go_wp2
              go_round
              case rel => exact ⟨l, by omega, rfl, by rw [← hr, e, ← hr2, e4]⟩
              case measure => simp [intOf]; omega
            · have e4 := remEnd_go s l hl2 h10'
              have hne : (gb s l == 10) = false := by simpa using h10'
              have hne2 : (gb s l != 10) = true := by simpa using h10'
              go_wp2
              go_round
              case rel => exact ⟨l + 1, by omega, by omega, by go_num, by rw [← e4, hr2]⟩
              case measure => simp [intOf]; omega
          · have e4 := remEnd_end s l hl2
            go_wp2
            go_round
            case rel => exact ⟨l, by omega, rfl, by rw [← hr, e, ← hr2, e4]⟩
            case measure => simp [intOf]; omega
      have e := skip_stop s j (by omega) h35
      have g1 : (gb s j == 32) = false := by simpa using h32
      have g2 : (gb s j == 10) = false := by simpa using h10
      have g3 : (gb s j != 35) = true := by simpa using h35
      go_wp2
      go_ret
      exact ⟨ret_int (by rw [← hr, e]), rfl⟩
    · have e := skip_end s j hlt
      go_wp2
      go_ret
      exact ⟨ret_int (by rw [← hr, e]), rfl⟩
end Go.Proofs.YtjikjejfobnfnaaGreatDoor.lex
