/-
  Tokens that are written with something between them are read again as themselves.
-/
import Derived.Test.YtggkkhlghlghkaaDoorBl
import Derived.Test.YtggkkhlghlghkaaDoorGt
namespace Go.Proofs.YtggkkhlghlghkaaDoor.lex
set_option linter.unusedVariables false

theorem runEnd_an (s : ByteArray) (k j : Nat) (h : k ≤ j) (hj : j < runEnd s k) : j < s.size ∧ (isLet (gb s j) || isDig (gb s j)) = true := by
  by_cases hc : k < s.size ∧ (isLet (gb s k) || isDig (gb s k)) = true
  · rcases Nat.eq_or_lt_of_le h with rfl | hlt
    · exact hc
    · rw [runEnd_go s k hc.1 hc.2] at hj
      exact runEnd_an s (k + 1) j hlt hj
  · rw [runEnd, if_neg hc] at hj
    omega
termination_by s.size - k
theorem mem_gb (t : ByteArray) (y : UInt8) (h : y ∈ t.data.toList) : ∃ j, j < t.size ∧ gb t j = (y.toNat : Int) := by
  obtain ⟨j, hj, e⟩ := List.getElem_of_mem h
  refine ⟨j, by rw [Lib.size_eq]; exact hj, ?_⟩
  unfold gb
  rw [List.getD_eq_getElem?_getD, List.getElem?_eq_getElem hj, e]
  rfl
theorem tok_good (s : ByteArray) (k : Nat) (h : k < s.size) (hc : tokCode s k = 0) : Good (tokAt s k) := by
  have h1 := tokAt_size s k h
  have h2 := lt_tokEnd s k h hc
  have h3 := tokEnd_le s k h
  unfold tokCode at hc
  cases hl : isLet (gb s k) with
  | true =>
    rw [if_pos hl] at hc
    have eT : tokAt s k = nameTok s k := by rw [tokAt, if_pos hl]
    have eE : tokEnd s k = runEnd s k := by rw [tokEnd, if_pos hl]
    rw [eT, eE] at h1
    rw [eE] at h2 h3
    rw [eT]
    refine .name (by rw [h1]; omega) ?_ ?_ ?_ rfl rfl
    · show isLet (gb (s.extract k (runEnd s k)) 0) = true
      rw [gb_cut s k _ 0 (by omega) h3, Nat.add_zero]
      exact hl
    · intro y hy
      obtain ⟨j, hj, e⟩ := mem_gb _ y hy
      have hj' : j < runEnd s k - k := by
        have : (nameTok s k).text.size = runEnd s k - k := h1
        omega
      have e2 : gb (nameTok s k).text j = gb s (k + j) := gb_cut s k _ j hj' h3
      have := (runEnd_an s k (k + j) (by omega) (by omega)).2
      unfold an
      rw [← e, e2]
      exact this
    · rw [h1]
      intro h8
      rw [if_pos h8] at hc
      omega
  | false =>
    rw [if_neg (by rw [hl]; exact Bool.false_ne_true)] at hc
    cases hd : isDig (gb s k) with
    | true =>
      rw [if_pos hd] at hc
      have eT : tokAt s k = numTok s k := by rw [tokAt, if_neg (by rw [hl]; exact Bool.false_ne_true), if_pos hd]
      have eE : tokEnd s k = digEnd s k := by rw [tokEnd, if_neg (by rw [hl]; exact Bool.false_ne_true), if_pos hd]
      rw [eT, eE] at h1
      rw [eE] at h2 h3
      rw [eT]
      refine .num (by rw [h1]; omega) ?_ ?_ rfl rfl
      · intro y hy
        obtain ⟨j, hj, e⟩ := mem_gb _ y hy
        have := allDig_cut s k j hj
        unfold dg
        rw [← e]
        exact this
      · intro hv
        have hv' : value (s.extract k (digEnd s k)) < 0 := hv
        rw [if_pos hv'] at hc
        omega
    | false =>
      rw [if_neg (by rw [hd]; exact Bool.false_ne_true)] at hc
      have eT : tokAt s k = sgnTok s k := by rw [tokAt, if_neg (by rw [hl]; exact Bool.false_ne_true), if_neg (by rw [hd]; exact Bool.false_ne_true)]
      rw [eT]
      refine .sign ?_ rfl rfl
      show (signAt s k).data.toList ∈ signs
      have hne : ¬ (signAt s k).size = 0 := by
        intro h0
        rw [if_pos h0] at hc
        omega
      rw [signAt_in s k h] at hne ⊢
      show signOf (s.data.toList.drop k) ∈ signs
      have hne' : signOf (s.data.toList.drop k) ≠ [] := by
        intro h0
        rw [h0] at hne
        exact hne rfl
      unfold signOf signFrom at hne' ⊢
      cases hf : (signs.drop 0).find? fun g => Lib.hasPrefix (s.data.toList.drop k) g with
      | none => rw [hf] at hne'; exact absurd rfl hne'
      | some g => simpa using List.mem_of_find?_eq_some hf
theorem lexFrom_good (s : ByteArray) (k : Nat) (acc : List Tok) (ha : ∀ t ∈ acc, Good t) : ∀ t ∈ (lexFrom s k acc).1, Good t := by
  by_cases h0 : skip s k < s.size
  · by_cases h1 : tokCode s (skip s k) = 0
    · by_cases h2 : 700 ≤ acc.length
      · rw [lexFrom_many s k acc h0 h1 h2]; intro t ht; cases ht
      · rw [lexFrom_go s k acc h0 h1 h2]
        have l1 := le_skip s k
        have l2 := lt_tokEnd s _ h0 h1
        refine lexFrom_good s _ _ ?_
        intro t ht
        rcases List.mem_append.1 ht with h | h
        · exact ha t h
        · rw [List.mem_singleton.1 h]; exact tok_good s _ h0 h1
    · rw [lexFrom_bad s k acc h0 h1]; intro t ht; cases ht
  · rw [lexFrom_end s k acc h0]; exact ha
termination_by s.size - k
theorem lexAll_good (s : ByteArray) : ∀ t ∈ (lexAll s).1, Good t := by
  unfold lexAll
  split
  · intro t ht; cases ht
  · exact lexFrom_good s 0 [] (fun t ht => by cases ht)
theorem lexAll_bad (s : ByteArray) (h : (lexAll s).2.1 ≠ 0) : (lexAll s).1 = [] := by
  unfold lexAll at h ⊢
  split
  · rfl
  · rename_i hs
    rw [if_neg hs] at h
    have key : ∀ k acc, (lexFrom s k acc).2.1 ≠ 0 → (lexFrom s k acc).1 = [] := by
      intro k acc
      induction hn : s.size - k using Nat.strongRecOn generalizing k acc with
      | _ n ih =>
        intro h
        by_cases h0 : skip s k < s.size
        · by_cases h1 : tokCode s (skip s k) = 0
          · by_cases h2 : 700 ≤ acc.length
            · rw [lexFrom_many s k acc h0 h1 h2]
            · rw [lexFrom_go s k acc h0 h1 h2] at h ⊢
              have l1 := le_skip s k
              have l2 := lt_tokEnd s _ h0 h1
              exact ih _ (by omega) _ _ rfl h
          · rw [lexFrom_bad s k acc h0 h1]
        · rw [lexFrom_end s k acc h0] at h
          exact absurd rfl h
    exact key 0 [] h

/-- A token read again where it is written, with something behind it. -/
theorem relex (T : ByteArray) (p : Nat) (t : Tok) (hg : Good t) (c : UInt8) (r : List UInt8) (hc : c = 32 ∨ c = 10 ∨ c = 35) (h : rest T p = t.text.data.toList ++ c :: r) :
    skip T p = p ∧ p < T.size ∧ tokCode T p = 0 ∧ tokEnd T p = p + t.text.data.toList.length ∧ tokAt T p = { t with pos := (p : Int) } := by
  have hcut := cut_of h
  have htx : (⟨t.text.data.toList.toArray⟩ : ByteArray) = t.text := Lib.mk_data t.text
  rw [htx] at hcut
  have hcan : an c = false := by rcases hc with rfl | rfl | rfl <;> decide
  have hcdg : dg c = false := by rcases hc with rfl | rfl | rfl <;> decide
  cases hg with
  | name h0 hl ha h8 hk hn =>
    have hE := runEnd_of h ha hcan
    obtain ⟨y, x, hx⟩ : ∃ y x, t.text.data.toList = y :: x := by
      cases hx : t.text.data.toList with
      | nil => rw [Lib.size_eq, hx] at h0; simp at h0
      | cons y x => exact ⟨y, x, rfl⟩
    have h' := h
    rw [hx] at h'
    obtain ⟨h1, h2, _⟩ := rest_cons h'
    have hl' : isLet (gb T p) = true := by rw [h2, ← gb_head t.text y x hx]; exact hl
    have hr := (isLet_iff _).1 hl'
    refine ⟨skip_stop T p (by omega) (by omega), h1, ?_, ?_, ?_⟩
    · rw [tokCode, if_pos hl', hE, if_neg]
      rw [Lib.size_eq] at h8
      omega
    · rw [tokEnd, if_pos hl', hE]
    · rw [tokAt, if_pos hl', nameTok, hE, hcut]
      obtain ⟨tk, tp, tx, tn⟩ := t
      simp only at hk hn
      rw [hk, hn]
  | num h0 ha hv hk hn =>
    have hE := digEnd_of h ha hcdg
    obtain ⟨y, x, hx⟩ : ∃ y x, t.text.data.toList = y :: x := by
      cases hx : t.text.data.toList with
      | nil => rw [Lib.size_eq, hx] at h0; simp at h0
      | cons y x => exact ⟨y, x, rfl⟩
    have hy : dg y = true := ha y (by rw [hx]; simp)
    have h' := h
    rw [hx] at h'
    obtain ⟨h1, h2, _⟩ := rest_cons h'
    have hd' : isDig (gb T p) = true := by rw [h2]; exact hy
    have hr := (isDig_iff _).1 hd'
    have hl' : ¬ isLet (gb T p) = true := by rw [isLet_iff]; omega
    refine ⟨skip_stop T p (by omega) (by omega), h1, ?_, ?_, ?_⟩
    · rw [tokCode, if_neg hl', if_pos hd', hE, hcut, if_neg hv]
    · rw [tokEnd, if_neg hl', if_pos hd', hE]
    · rw [tokAt, if_neg hl', if_pos hd', numTok, hE, hcut]
      obtain ⟨tk, tp, tx, tn⟩ := t
      simp only at hk hn
      rw [hk, hn]
  | sign hs hk hn =>
    have ha : signs.all (fun g => match g with | c :: _ => decide (c.toNat ≠ 32 ∧ c.toNat ≠ 10 ∧ c.toNat ≠ 35 ∧ ¬ (97 ≤ c.toNat ∧ c.toNat ≤ 122) ∧ ¬ (48 ≤ c.toNat ∧ c.toNat ≤ 57)) | [] => false) = true := by decide
    have hq := List.all_eq_true.1 ha _ hs
    obtain ⟨y, x, hx⟩ : ∃ y x, t.text.data.toList = y :: x := by
      cases hx : t.text.data.toList with
      | nil => rw [hx] at hq; simp at hq
      | cons y x => exact ⟨y, x, rfl⟩
    rw [hx] at hq
    simp only [decide_eq_true_eq] at hq
    have h' := h
    rw [hx] at h'
    obtain ⟨h1, h2, _⟩ := rest_cons h'
    have hl' : ¬ isLet (gb T p) = true := by rw [isLet_iff]; omega
    have hd' : ¬ isDig (gb T p) = true := by rw [isDig_iff]; omega
    have hsg : signAt T (p : Int) = t.text := by
      rw [signAt_in T p h1]
      have e : T.data.toList.drop p = t.text.data.toList ++ c :: r := h
      rw [e, signOf_sep _ hs c hc r, htx]
    have hsz : t.text.size = t.text.data.toList.length := Lib.size_eq _
    refine ⟨skip_stop T p (by omega) (by omega), h1, ?_, ?_, ?_⟩
    · rw [tokCode, if_neg hl', if_neg hd', hsg, if_neg]
      rw [hsz, hx]
      simp
    · rw [tokEnd, if_neg hl', if_neg hd', hsg, hsz]
    · rw [tokAt, if_neg hl', if_neg hd', sgnTok, hsg]
      obtain ⟨tk, tp, tx, tn⟩ := t
      simp only at hk hn
      rw [hk, hn]

/-- A token but for its place. -/
def Tok.bare (t : Tok) : Tok := { t with pos := 0 }
/-- Tokens, each with something behind it. -/
def joinB (l : List (Tok × Nat)) : List UInt8 := l.flatMap fun x => x.1.text.data.toList ++ sep x.2
theorem joinB_cons (x : Tok × Nat) (l : List (Tok × Nat)) : joinB (x :: l) = x.1.text.data.toList ++ (sep x.2 ++ joinB l) := by simp [joinB]
theorem joinB_snoc (x : Tok × Nat) (l : List (Tok × Nat)) : joinB (l ++ [x]) = joinB l ++ x.1.text.data.toList ++ sep x.2 := by simp [joinB]

theorem relex_all (T : ByteArray) : ∀ (l : List (Tok × Nat)) (p : Nat) (acc : List Tok), rest T p = joinB l → (∀ x ∈ l, Good x.1) → acc.length + l.length ≤ 700 →
    ∃ l', lexFrom T p acc = (acc ++ l', 0, 0) ∧ l'.map Tok.bare = l.map fun x => x.1.bare
  | [], p, acc, h, _, _ => by
    have hp := rest_nil (s := T) (k := p) h
    exact ⟨[], by rw [lexFrom_end T p acc (by rw [skip_end T p hp]; exact hp)]; simp, rfl⟩
  | x :: l, p, acc, h, hg, hn => by
    rw [joinB_cons] at h
    obtain ⟨c, r, hs, hc⟩ := sep_head x.2
    have h' : rest T p = x.1.text.data.toList ++ c :: (r ++ joinB l) := by rw [h, hs]; simp
    obtain ⟨e1, e2, e3, e4, e5⟩ := relex T p x.1 (hg x (by simp)) c _ hc h'
    have h2 := rest_app h
    have h3 := rest_app h2
    have hlen : (x :: l).length = l.length + 1 := rfl
    obtain ⟨l', i1, i2⟩ := relex_all T l _ (acc ++ [{ x.1 with pos := (p : Int) }]) h3 (fun y hy => hg y (by simp [hy])) (by simp; omega)
    refine ⟨{ x.1 with pos := (p : Int) } :: l', ?_, ?_⟩
    · have e := lexFrom_go T p acc (by rw [e1]; exact e2) (by rw [e1]; exact e3) (by omega)
      rw [e1, e4, e5] at e
      rw [e, lexFrom_skip T _ _ _ (skip_sep h2), i1]
      simp
    · simp [i2, Tok.bare]
end Go.Proofs.YtggkkhlghlghkaaDoor.lex
