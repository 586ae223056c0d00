/-
  What stands between tokens does not matter: tokens written with blanks, lines and remarks between them are read again as the same, but for their places.
-/
import Derived.Test.YtggkkhlghlghkaaDoorPl
namespace Go.Proofs.YtggkkhlghlghkaaDoor.lex
set_option linter.unusedVariables false

/-- The bytes of a text from a place on. -/
abbrev rest (s : ByteArray) (k : Nat) : List UInt8 := s.data.toList.drop k
theorem rest_cons {s : ByteArray} {k : Nat} {c : UInt8} {r : List UInt8} (h : rest s k = c :: r) : k < s.size ∧ gb s k = (c.toNat : Int) ∧ rest s (k + 1) = r := by
  have hl : k < s.data.toList.length := by
    rcases Nat.lt_or_ge k s.data.toList.length with h1 | h1
    · exact h1
    · have h' : s.data.toList.drop k = c :: r := h
      rw [List.drop_eq_nil_of_le h1] at h'; cases h'
  have e : s.data.toList.drop k = s.data.toList[k] :: s.data.toList.drop (k + 1) := List.drop_eq_getElem_cons hl
  have h' : s.data.toList.drop k = c :: r := h
  rw [e] at h'
  injection h' with h1 h2
  refine ⟨by rw [Lib.size_eq]; exact hl, ?_, h2⟩
  unfold gb
  rw [List.getD_eq_getElem?_getD, List.getElem?_eq_getElem hl, h1]
  rfl
theorem rest_nil {s : ByteArray} {k : Nat} (h : rest s k = []) : ¬ k < s.size := by
  have : s.data.toList.drop k = [] := h
  rw [List.drop_eq_nil_iff, ← Lib.size_eq] at this
  omega
theorem rest_app {s : ByteArray} {k : Nat} {x r : List UInt8} (h : rest s k = x ++ r) : rest s (k + x.length) = r := by
  have h' : s.data.toList.drop k = x ++ r := h
  show s.data.toList.drop (k + x.length) = r
  rw [← List.drop_drop, h']
  simp
def an (c : UInt8) : Bool := isLet (c.toNat : Int) || isDig (c.toNat : Int)
def dg (c : UInt8) : Bool := isDig (c.toNat : Int)

theorem runEnd_of {s : ByteArray} {k : Nat} {c : UInt8} {r : List UInt8} : ∀ {x : List UInt8}, rest s k = x ++ c :: r → (∀ y ∈ x, an y = true) → an c = false → runEnd s k = k + x.length
  | [], h, _, hc => by
    obtain ⟨h1, h2, _⟩ := rest_cons h
    exact runEnd_stop s k (by rw [h2]; exact hc)
  | y :: x, h, hx, hc => by
    obtain ⟨h1, h2, h3⟩ := rest_cons h
    rw [runEnd_go s k h1 (by rw [h2]; exact hx y (by simp)), runEnd_of h3 (fun z hz => hx z (by simp [hz])) hc]
    simp; omega
theorem digEnd_of {s : ByteArray} {k : Nat} {c : UInt8} {r : List UInt8} : ∀ {x : List UInt8}, rest s k = x ++ c :: r → (∀ y ∈ x, dg y = true) → dg c = false → digEnd s k = k + x.length
  | [], h, _, hc => by
    obtain ⟨h1, h2, _⟩ := rest_cons h
    exact digEnd_stop s k (by rw [h2]; exact hc)
  | y :: x, h, hx, hc => by
    obtain ⟨h1, h2, h3⟩ := rest_cons h
    rw [digEnd_go s k h1 (by rw [h2]; exact hx y (by simp)), digEnd_of h3 (fun z hz => hx z (by simp [hz])) hc]
    simp; omega
theorem remEnd_of {s : ByteArray} {k : Nat} {r : List UInt8} : ∀ {x : List UInt8}, rest s k = x ++ 10 :: r → (∀ y ∈ x, y ≠ 10) → remEnd s k = k + x.length
  | [], h, _ => by
    obtain ⟨h1, h2, _⟩ := rest_cons h
    exact remEnd_stop s k (by rw [h2]; rfl)
  | y :: x, h, hx => by
    obtain ⟨h1, h2, h3⟩ := rest_cons h
    have hy : gb s k ≠ 10 := by
      rw [h2]
      intro e
      have : y = 10 := UInt8.toNat_inj.1 (by have : (10 : UInt8).toNat = 10 := rfl; omega)
      exact hx y (by simp) this
    rw [remEnd_go s k h1 hy, remEnd_of h3 (fun z hz => hx z (by simp [hz]))]
    simp; omega
theorem cut_of {s : ByteArray} {k : Nat} {x r : List UInt8} (h : rest s k = x ++ r) : s.extract k (k + x.length) = ⟨x.toArray⟩ := by
  rw [Lib.extract_eq]
  have h' : s.data.toList.drop k = x ++ r := h
  rw [h', show k + x.length - k = x.length from by omega]
  simp
/-- What stands between two tokens. -/
def sep : Nat → List UInt8
  | 0 => [32]
  | 1 => [10, 32, 10]
  | _ => [35, 32, 110, 111, 32, 40, 119, 111, 114, 100, 10]
theorem skip_sep {s : ByteArray} {k i : Nat} {r : List UInt8} (h : rest s k = sep i ++ r) : skip s k = skip s (k + (sep i).length) := by
  match i, h with
  | 0, h =>
    obtain ⟨h1, h2, h3⟩ := rest_cons h
    exact skip_blank s k h1 (.inl (by rw [h2]; rfl))
  | 1, h =>
    obtain ⟨h1, h2, h3⟩ := rest_cons h
    obtain ⟨i1, i2, i3⟩ := rest_cons h3
    obtain ⟨j1, j2, j3⟩ := rest_cons i3
    rw [skip_blank s k h1 (.inr (by rw [h2]; rfl)), skip_blank s (k + 1) i1 (.inl (by rw [i2]; rfl)), skip_blank s (k + 1 + 1) j1 (.inr (by rw [j2]; rfl))]
    rfl
  | n + 2, h =>
    obtain ⟨h1, h2, h3⟩ := rest_cons h
    have e := remEnd_of (x := [32, 110, 111, 32, 40, 119, 111, 114, 100]) (r := r) h3 (by decide)
    have h4 := rest_app (x := [32, 110, 111, 32, 40, 119, 111, 114, 100]) (r := 10 :: r) h3
    obtain ⟨j1, j2, j3⟩ := rest_cons h4
    rw [skip_rem s k h1 (by rw [h2]; rfl), e, skip_blank s _ j1 (.inr (by rw [j2]; rfl))]
    rfl
theorem sep_head (i : Nat) : ∃ c r, sep i = c :: r ∧ (c = 32 ∨ c = 10 ∨ c = 35) := by
  match i with
  | 0 => exact ⟨_, _, rfl, .inl rfl⟩
  | 1 => exact ⟨_, _, rfl, .inr (.inl rfl)⟩
  | n + 2 => exact ⟨_, _, rfl, .inr (.inr rfl)⟩

/-- A token whose parts belong together. -/
inductive Good (t : Tok) : Prop
  | name (h0 : 0 < t.text.size) (hl : isLet (gb t.text 0) = true) (ha : ∀ y ∈ t.text.data.toList, an y = true) (h8 : ¬ 8 < t.text.size) (hk : t.kind = if isWord t.text.data.toList then 3 else 1) (hn : t.num = 0)
  | num (h0 : 0 < t.text.size) (ha : ∀ y ∈ t.text.data.toList, dg y = true) (hv : ¬ value t.text < 0) (hk : t.kind = 2) (hn : t.num = value t.text)
  | sign (hs : t.text.data.toList ∈ signs) (hk : t.kind = 4) (hn : t.num = 0)
theorem signOf_take (l : List UInt8) : signOf l = signOf (l.take 2) := by
  have key : ∀ g ∈ signs, Lib.hasPrefix l g = Lib.hasPrefix (l.take 2) g := by
    intro g hg
    have h2 : g.length ≤ 2 := by
      have ha : signs.all (fun g => decide (g.length ≤ 2)) = true := by decide
      simpa using List.all_eq_true.1 ha g hg
    unfold Lib.hasPrefix
    rw [Bool.eq_iff_iff, List.isPrefixOf_iff_prefix, List.isPrefixOf_iff_prefix, List.prefix_take_iff]
    exact ⟨fun h => ⟨h, h2⟩, fun h => h.1⟩
  unfold signOf signFrom
  have e : ∀ L : List (List UInt8), (∀ g ∈ L, g ∈ signs) → L.find? (fun g => Lib.hasPrefix l g) = L.find? (fun g => Lib.hasPrefix (l.take 2) g) := by
    intro L
    induction L with
    | nil => intro _; rfl
    | cons a r ih =>
      intro hL
      rw [List.find?_cons, List.find?_cons, key a (hL a (by simp)), ih (fun g hg => hL g (by simp [hg]))]
  rw [e (signs.drop 0) (fun g hg => by simpa using hg)]
theorem signOf_sep (g : List UInt8) (hg : g ∈ signs) (c : UInt8) (hc : c = 32 ∨ c = 10 ∨ c = 35) (r : List UInt8) : signOf (g ++ c :: r) = g := by
  rw [signOf_take]
  have ha : signs.all (fun g => [(32 : UInt8), 10, 35].all fun c => decide (signOf ((g ++ [c]).take 2) = g)) = true := by decide
  have h1 := List.all_eq_true.1 ha g hg
  have hm : c ∈ [(32 : UInt8), 10, 35] := by rcases hc with rfl | rfl | rfl <;> simp
  have h2 : signOf ((g ++ [c]).take 2) = g := by simpa using List.all_eq_true.1 h1 c hm
  have h3 : 0 < g.length := by
    have ha : signs.all (fun g => decide (0 < g.length)) = true := by decide
    simpa using List.all_eq_true.1 ha g hg
  have e : (g ++ c :: r).take 2 = (g ++ [c]).take 2 := by
    rw [List.take_append, List.take_append]
    congr 1
    rw [show 2 - g.length = min (2 - g.length) 1 from by omega]
    cases hm : min (2 - g.length) 1 with
    | zero => rfl
    | succ n =>
      have : n = 0 := by omega
      subst this
      rfl
  rw [e, h2]
end Go.Proofs.YtggkkhlghlghkaaDoor.lex
