/-
  Tokens joined with a blank between each two, and read again: a plain function.
-/
import Derived.Test.YtggkkhlghlghkaaDoorBm
namespace Go.Proofs.YtggkkhlghlghkaaDoor.lex
set_option linter.unusedVariables false

/-- The Texts, a blank between each two. -/
def joinS : List Tok → List UInt8
  | [] => []
  | t :: r => t.text.data.toList ++ r.flatMap fun u => 32 :: u.text.data.toList
theorem joinS_one (t : Tok) : joinS [t] = t.text.data.toList := by simp [joinS]
theorem joinS_snoc (l : List Tok) (t : Tok) (h : l ≠ []) : joinS (l ++ [t]) = joinS l ++ 32 :: t.text.data.toList := by
  cases l with
  | nil => exact absurd rfl h
  | cons a r => simp [joinS]
theorem joinS_le (l r : List Tok) : (joinS l).length ≤ (joinS (l ++ r)).length := by
  cases l with
  | nil => simp [joinS]
  | cons a q => simp [joinS]
theorem joinS_step (l : List Tok) (j : Nat) (t : Tok) (h : l[j]? = some t) : joinS (l.take (j + 1)) = if j = 0 then t.text.data.toList else joinS (l.take j) ++ 32 :: t.text.data.toList := by
  have hl : j < l.length := (List.getElem?_eq_some_iff.1 h).1
  rw [List.take_add_one, h]
  split
  · rename_i h0
    subst h0
    simp [joinS]
  · rename_i h0
    exact joinS_snoc _ _ (by intro e; have := congrArg List.length e; rw [List.length_take] at this; simp only [List.length_nil] at this; omega)
theorem joinS_mono (l : List Tok) (j : Nat) : (joinS (l.take j)).length ≤ (joinS l).length := by
  have := joinS_le (l.take j) (l.drop j)
  rwa [List.take_append_drop] at this

/-- What LexJoin tells. -/
def joinOut (l : List Tok) : ByteArray × Bool :=
  if 3000 < (joinS l).length then (⟨#[]⟩, false)
  else if (lexAll ⟨(joinS l).toArray⟩).1.map Tok.bare = l.map Tok.bare then (⟨(joinS l).toArray⟩, true) else (⟨#[]⟩, false)
theorem joinOut_long (l : List Tok) (h : 3000 < (joinS l).length) : joinOut l = (⟨#[]⟩, false) := if_pos h
theorem joinOut_same (l : List Tok) (h : ¬ 3000 < (joinS l).length) (he : (lexAll ⟨(joinS l).toArray⟩).1.map Tok.bare = l.map Tok.bare) : joinOut l = (⟨(joinS l).toArray⟩, true) := by rw [joinOut, if_neg h, if_pos he]
theorem joinOut_other (l : List Tok) (h : ¬ 3000 < (joinS l).length) (he : ¬ (lexAll ⟨(joinS l).toArray⟩).1.map Tok.bare = l.map Tok.bare) : joinOut l = (⟨#[]⟩, false) := by rw [joinOut, if_neg h, if_neg he]
theorem joinOut_true (l : List Tok) (h : (joinOut l).2 = true) : ¬ 3000 < (joinS l).length ∧ (joinOut l).1 = ⟨(joinS l).toArray⟩ ∧ (lexAll ⟨(joinS l).toArray⟩).1.map Tok.bare = l.map Tok.bare := by
  by_cases h1 : 3000 < (joinS l).length
  · rw [joinOut_long l h1] at h; cases h
  · by_cases h2 : (lexAll ⟨(joinS l).toArray⟩).1.map Tok.bare = l.map Tok.bare
    · rw [joinOut_same l h1 h2]; exact ⟨h1, rfl, h2⟩
    · rw [joinOut_other l h1 h2] at h; cases h
/-- Where the tokens read again are the same, nothing was wrong. -/
theorem join_code (l : List Tok) (he : (lexAll ⟨(joinS l).toArray⟩).1.map Tok.bare = l.map Tok.bare) : (lexAll ⟨(joinS l).toArray⟩).2.1 = 0 := by
  rcases Decidable.em ((lexAll ⟨(joinS l).toArray⟩).2.1 = 0) with h | h
  · exact h
  · have e := lexAll_bad _ h
    rw [e] at he
    have hl : l = [] := by simpa using he.symm
    subst hl
    have : lexAll ⟨(joinS []).toArray⟩ = ([], 0, 0) := by
      have hs : ¬ skip ⟨(joinS []).toArray⟩ 0 < (ByteArray.mk (joinS []).toArray).size := by
        have hz : ¬ 0 < (ByteArray.mk (joinS []).toArray).size := by show ¬ 0 < 0; omega
        rw [skip_end _ _ hz]; exact hz
      rw [lexAll, if_neg (by show ¬ 3000 < 0; omega), lexFrom_end _ _ _ hs]
    rw [this] at h
    exact absurd rfl h
end Go.Proofs.YtggkkhlghlghkaaDoor.lex
