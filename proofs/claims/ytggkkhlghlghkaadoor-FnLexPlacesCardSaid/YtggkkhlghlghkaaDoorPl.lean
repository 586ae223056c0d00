/-
  Where tokens stand: each behind the one ahead of it, with its own bytes.
-/
import Derived.Test.YtggkkhlghlghkaaDoorSq
namespace Go.Proofs.YtggkkhlghlghkaaDoor.lex
set_option linter.unusedVariables false

/-- A token that stands at a place, with its own bytes. -/
structure Stands (s : ByteArray) (p : Nat) (t : Tok) : Prop where
  pos : t.pos = (p : Int)
  fit : p + t.text.size ≤ s.size
  some : 0 < t.text.size
  own : s.extract p (p + t.text.size) = t.text
  sign : t.kind = 4 → signAt s (p : Int) = t.text
  word : isWord t.text.data.toList = decide (t.kind = 3)
/-- Tokens that stand one behind the other, from a place on. -/
def Placed (s : ByteArray) : Nat → List Tok → Prop
  | _, [] => True
  | e, t :: r => ∃ p, e ≤ p ∧ Stands s p t ∧ Placed s (p + t.text.size) r

theorem word_head (l : List UInt8) (h : isWord l = true) : ∃ c r, l = c :: r ∧ 97 ≤ c.toNat ∧ c.toNat ≤ 122 := by
  have ha : words.all (fun w => match w with | c :: _ => decide (97 ≤ c.toNat ∧ c.toNat ≤ 122) | [] => false) = true := by decide
  have hm : l ∈ words := by simpa [isWord] using h
  have := List.all_eq_true.1 ha l hm
  cases l with
  | nil => simp at this
  | cons c r => exact ⟨c, r, rfl, by simpa using this⟩
theorem gb_head (t : ByteArray) (c : UInt8) (r : List UInt8) (h : t.data.toList = c :: r) : gb t 0 = (c.toNat : Int) := by
  unfold gb
  rw [h]
  rfl
theorem sign_word (l : List UInt8) : isWord (signOf l) = false := by
  have ha : signs.all (fun g => !isWord g) = true := by decide
  unfold signOf signFrom
  cases hf : (signs.drop 0).find? fun g => Lib.hasPrefix l g with
  | none => rfl
  | some g =>
    have hm : g ∈ signs := by simpa using List.mem_of_find?_eq_some hf
    simpa using List.all_eq_true.1 ha g hm
theorem sign_prefix (l : List UInt8) : signOf l <+: l := by
  unfold signOf signFrom
  cases hf : (signs.drop 0).find? fun g => Lib.hasPrefix l g with
  | none => exact List.nil_prefix
  | some g =>
    have hp : Lib.hasPrefix l g = true := List.find?_some (p := fun g => Lib.hasPrefix l g) hf
    exact List.isPrefixOf_iff_prefix.1 hp

theorem tok_stands (s : ByteArray) (k : Nat) (h : k < s.size) (hc : tokCode s k = 0) : Stands s k (tokAt s k) := by
  have h1 := tokAt_size s k h
  have h2 := lt_tokEnd s k h hc
  have h3 := tokEnd_le s k h
  have hp : (tokAt s k).pos = (k : Int) := by unfold tokAt; split; rfl; split; rfl; rfl
  have own : s.extract k (k + (tokAt s k).text.size) = (tokAt s k).text := by
    have e : k + (tokAt s k).text.size = tokEnd s k := by omega
    rw [e]
    unfold tokAt tokEnd
    split
    · rfl
    · split
      · rfl
      · simp only [sgnTok]
        rw [signAt_in s k h]
        have e2 : (ByteArray.mk (signOf (s.data.toList.drop k)).toArray).size = (signOf (s.data.toList.drop k)).length := by rw [Lib.size_eq]
        rw [Lib.extract_eq, e2]
        congr 2
        have hpre := sign_prefix (s.data.toList.drop k)
        rw [show k + (signOf (s.data.toList.drop k)).length - k = (signOf (s.data.toList.drop k)).length from by omega]
        exact (List.prefix_iff_eq_take.1 hpre).symm
  refine ⟨hp, by omega, by omega, own, ?_, ?_⟩
  · unfold tokAt
    split
    · intro hk
      simp only [nameTok] at hk
      split at hk <;> omega
    · split
      · intro hk
        simp only [numTok] at hk
        omega
      · intro _
        rfl
  · unfold tokAt
    split
    · simp only [nameTok]
      have key : ∀ b : Bool, b = decide ((if b = true then (3 : Int) else 1) = 3) := by intro b; cases b <;> rfl
      exact key _
    · split
      · rename_i hl hd
        simp only [numTok]
        cases hw : isWord (s.extract k (digEnd s k)).data.toList with
        | false => rfl
        | true =>
          obtain ⟨c, r, hcr, c1, c2⟩ := word_head _ hw
          have hg := gb_head _ c r hcr
          have hlt : k < digEnd s k := by rw [digEnd_go s k h hd]; exact le_digEnd s (k + 1)
          have hle := digEnd_le s k (by omega)
          rw [gb_cut s k (digEnd s k) 0 (by omega) hle] at hg
          have := (isDig_iff _).1 hd
          simp only [Nat.add_zero] at hg
          omega
      · simp only [sgnTok]
        rw [signAt_in s k h]
        exact sign_word _
theorem lexFrom_placed (s : ByteArray) (k : Nat) (acc : List Tok) : (lexFrom s k acc).1 = [] ∨ ∃ r, (lexFrom s k acc).1 = acc ++ r ∧ Placed s k r := by
  by_cases h0 : skip s k < s.size
  · by_cases h1 : tokCode s (skip s k) = 0
    · by_cases h2 : 700 ≤ acc.length
      · rw [lexFrom_many s k acc h0 h1 h2]; exact .inl rfl
      · rw [lexFrom_go s k acc h0 h1 h2]
        have l1 := le_skip s k
        have l2 := lt_tokEnd s _ h0 h1
        rcases lexFrom_placed s (tokEnd s (skip s k)) (acc ++ [tokAt s (skip s k)]) with h | ⟨r, h, hp⟩
        · exact .inl h
        · refine .inr ⟨tokAt s (skip s k) :: r, by rw [h]; simp, skip s k, l1, tok_stands s _ h0 h1, ?_⟩
          have := tokAt_size s (skip s k) h0
          rw [show skip s k + (tokAt s (skip s k)).text.size = tokEnd s (skip s k) from by omega]
          exact hp
    · rw [lexFrom_bad s k acc h0 h1]; exact .inl rfl
  · rw [lexFrom_end s k acc h0]; exact .inr ⟨[], by simp, trivial⟩
termination_by s.size - k
theorem lexAll_placed (s : ByteArray) : Placed s 0 (lexAll s).1 := by
  unfold lexAll
  split
  · trivial
  · rcases lexFrom_placed s 0 [] with h | ⟨r, h, hp⟩
    · rw [h]; trivial
    · rw [h]; exact hp
end Go.Proofs.YtggkkhlghlghkaaDoor.lex
