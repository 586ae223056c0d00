/-
  The program's reader: its states are labels that it jumps between; what holds at each.
-/
import Derived.Test.YtggkkhlghlghkaaDoorIm
import Derived.WalkMore
import Derived.Scope
namespace Go.Proofs.YtggkkhlghlghkaaDoor.lex
open Go.RowKit Go.Maps Go.Proofs.YtggkkhlghlghkaaDoor.num
set_option linter.unusedVariables false

/-- As Q; by a goto to label l: J l. -/
def jumps (J : Nat → Act → World → Prop) (Q : Exit → Act → World → Prop) : Exit → Act → World → Prop
  | .goto l, a, w => J l a w
  | e, a, w => Q e a w

/-- A scope in which the run jumps from label to label: what holds at each with a number that every pass lowers. -/
theorem wp_scope_labels {P : Program} {a : Act} {w : World} {Q : Exit → Act → World → Prop} {c : Code} (J : Nat → Nat → Act → World → Prop) (M : Nat)
    (first : c.wp P (jumps (fun l a w => ∃ m, J l m a w ∧ m < M) Q) a w)
    (pass : ∀ l m a w, J l m a w → ∃ rest, findLabel c l = some rest ∧ rest.wp P (jumps (fun l' a' w' => ∃ m', J l' m' a' w' ∧ m' < m) Q) a w) : (Code.scope c).wp P Q a w := by
  intro b k cs
  have hg : ∀ l rest, findLabel c l = some rest → gotoIn l (.inScope c :: k) = some (.code rest :: .inScope c :: k) := fun l rest hf => by simp [gotoIn, hf]
  have key : ∀ m l a w rest, findLabel c l = some rest → J l m a w → ∃ e a' w', Q e a' w' ∧ Arrives P (lone (b.at a (.code rest :: .inScope c :: k)) cs w) b k cs e a' w' := by
    intro m
    induction m using Nat.strongRecOn with
    | _ m ih =>
      intro l a w rest hf hJ
      obtain ⟨rest', hf', hw⟩ := pass l m a w hJ
      obtain rfl := Option.some.inj (hf.symm.trans hf')
      obtain ⟨e, a₁, w₁, hq, harr⟩ := hw b (.inScope c :: k) cs
      cases e with
      | normal => exact ⟨.normal, a₁, w₁, hq, Steps.trans harr (.one step_inScope)⟩
      | exit id => exact ⟨.exit id, a₁, w₁, hq, fun k' hk => harr k' (by simp [exitTo, hk])⟩
      | goto l' =>
        obtain ⟨m', hJ', hlt⟩ := hq
        obtain ⟨rest₂, hf₂, _⟩ := pass l' m' a₁ w₁ hJ'
        obtain ⟨e₂, a₂, w₂, hq₂, harr₂⟩ := ih m' hlt l' a₁ w₁ rest₂ hf₂ hJ'
        exact ⟨e₂, a₂, w₂, hq₂, .of_steps (harr _ (hg l' rest₂ hf₂)) harr₂⟩
      | ret => exact ⟨_, a₁, w₁, hq, harr⟩
      | panic ch => exact ⟨_, a₁, w₁, hq, harr⟩
      | outgrown => exact ⟨_, a₁, w₁, hq, harr⟩
  obtain ⟨e, a₁, w₁, hq, harr⟩ := first b (.inScope c :: k) cs
  cases e with
  | normal => exact ⟨.normal, a₁, w₁, hq, .head step_scope (Steps.trans harr (.one step_inScope))⟩
  | exit id => exact ⟨.exit id, a₁, w₁, hq, fun k' hk => .head step_scope (harr k' (by simp [exitTo, hk]))⟩
  | goto l' =>
    obtain ⟨m', hJ', _⟩ := hq
    obtain ⟨rest₂, hf₂, _⟩ := pass l' m' a₁ w₁ hJ'
    obtain ⟨e₂, a₂, w₂, hq₂, harr₂⟩ := key m' l' a₁ w₁ rest₂ hf₂ hJ'
    exact ⟨e₂, a₂, w₂, hq₂, .of_steps (.head step_scope (harr _ (hg l' rest₂ hf₂))) harr₂⟩
  | ret => exact ⟨_, a₁, w₁, hq, .of_steps (.one step_scope) harr⟩
  | panic ch => exact ⟨_, a₁, w₁, hq, .of_steps (.one step_scope) harr⟩
  | outgrown => exact ⟨_, a₁, w₁, hq, .of_steps (.one step_scope) harr⟩

/-- The reader's scope, and the codes behind its labels. -/
noncomputable def c28 : Code := match Tryd.f28.body with | some (.seq _ (.scope c)) => c | _ => .skip
noncomputable def tail28 (l : Nat) : Code := (findLabel c28 l).getD .skip
theorem body28 : ∃ r, Tryd.f28.body = some (.seq r (.scope c28)) := ⟨_, rfl⟩
theorem tail_some (l : Nat) (h : l < 6) : findLabel c28 l = some (tail28 l) := by
  match l, h with
  | 0, _ => rfl
  | 1, _ => rfl
  | 2, _ => rfl
  | 3, _ => rfl
  | 4, _ => rfl
  | 5, _ => rfl

noncomputable def head28 : Code := match tail28 0 with | .seq _ x => x | _ => .skip
theorem tail0 : tail28 0 = .seq .skip head28 := rfl

/-- The reader's frame. -/
structure Fr (s : ByteArray) (w0 : World) (v : Value) (code at_ end_ : Int) (a : Act) : Prop where
  defers : a.defers = []
  size : a.tmps.size = 118
  f0 : a.tmps.getD 0 undef = .string s
  f2 : a.tmps.getD 2 undef = .slice none 0 0
  f3 : a.tmps.getD 3 undef = .pointer (some ⟨w0.heap.size, 0, none⟩)
  f4 : a.tmps.getD 4 undef = v
  f5 : a.tmps.getD 5 undef = .pointer (some ⟨w0.heap.size + 1, 0, none⟩)
  f6 : a.tmps.getD 6 undef = .int .i64 code
  f7 : a.tmps.getD 7 undef = .int .i64 at_
  f8 : a.tmps.getD 8 undef = .int .i64 end_
  f9 : a.tmps.getD 9 undef = .map (some (w0.heap.size + 2))
theorem list_range {α : Type} (d : α) (l : List α) (n : Nat) (h : l.length = n) : l = (List.range n).map (fun i => l.getD i d) := by
  apply List.ext_getElem
  · simp [h]
  · intro i h1 h2
    simp [List.getD_eq_getElem?_getD, h1]
theorem fr_open {s : ByteArray} {w0 : World} {v : Value} {code at_ end_ : Int} {a : Act} (h : Fr s w0 v code at_ end_ a) : ∃ u : Nat → Value, a = { tmps := #[.string s, u 1, .slice none 0 0, .pointer (some ⟨w0.heap.size, 0, none⟩), v, .pointer (some ⟨w0.heap.size + 1, 0, none⟩), .int .i64 code, .int .i64 at_, .int .i64 end_, .map (some (w0.heap.size + 2)), u 10, u 11, u 12, u 13, u 14, u 15, u 16, u 17, u 18, u 19, u 20, u 21, u 22, u 23, u 24, u 25, u 26, u 27, u 28, u 29, u 30, u 31, u 32, u 33, u 34, u 35, u 36, u 37, u 38, u 39, u 40, u 41, u 42, u 43, u 44, u 45, u 46, u 47, u 48, u 49, u 50, u 51, u 52, u 53, u 54, u 55, u 56, u 57, u 58, u 59, u 60, u 61, u 62, u 63, u 64, u 65, u 66, u 67, u 68, u 69, u 70, u 71, u 72, u 73, u 74, u 75, u 76, u 77, u 78, u 79, u 80, u 81, u 82, u 83, u 84, u 85, u 86, u 87, u 88, u 89, u 90, u 91, u 92, u 93, u 94, u 95, u 96, u 97, u 98, u 99, u 100, u 101, u 102, u 103, u 104, u 105, u 106, u 107, u 108, u 109, u 110, u 111, u 112, u 113, u 114, u 115, u 116, u 117], defers := [] } := by
  obtain ⟨hd, hsz, h0, h2, h3, h4, h5, h6, h7, h8, h9⟩ := h
  obtain ⟨t, ds⟩ := a
  simp only at hd hsz h0 h2 h3 h4 h5 h6 h7 h8 h9
  subst hd
  refine ⟨fun i => t.getD i undef, ?_⟩
  congr 1
  rw [← h0, ← h2, ← h3, ← h4, ← h5, ← h6, ← h7, ← h8, ← h9]
  apply Array.toList_inj.1
  have e := list_range undef t.toList 118 (by simpa using hsz)
  have e2 : (fun i => t.toList.getD i undef) = fun i => t.getD i undef := by
    funext i
    simp [List.getD_eq_getElem?_getD]
  rw [e2] at e
  exact e

/-- The reader's world: the fault's cell, the token's, the words, the tokens so far. -/
structure Wf (s : ByteArray) (w0 : World) (acc : List Tok) (v : Value) (wr : World) : Prop where
  fault : wr.heap[w0.heap.size]? = some (.cells #[.int .i64 0, .int .i64 0] 26)
  words : wr.ownsMap Tryd.prog 9 (unitElem (H := Unit)) (w0.heap.size + 2) 17 (wordD 17)
  row : wr.ownsRow (w0.heap.size + 3) 32 4 v acc.length (rowOf acc)
  below : Below w0.heap.size w0 wr
  size : w0.heap.size + 3 ≤ wr.heap.size
  few : acc.length ≤ 700
  sg : Sg wr
/-- The token's cells. -/
def Tc (w0 : World) (t : Tok) (wr : World) : Prop := wr.heap[w0.heap.size + 1]? = some (.cells #[.int .i64 t.kind, .int .i64 t.pos, .string t.text, .int .i64 t.num] 32)

/-- How much is left, by the label. -/
def left (S l k e : Nat) : Nat := (S - k) * (S + 20) + (match l with | 0 => S + 10 | 1 => S + 9 | 2 => 5 + (S - e) | 3 => 5 + (S - e) | 4 => 5 | _ => 4)
theorem left_next (S k j : Nat) (h : k < j) (hj : j ≤ S) : (S - j) * (S + 20) + (S + 20) ≤ (S - k) * (S + 20) := by
  have e : (S - j + 1) * (S + 20) ≤ (S - k) * (S + 20) := Nat.mul_le_mul_right _ (by omega)
  rw [Nat.succ_mul] at e
  exact e

/-- What holds at each label. -/
def St (s : ByteArray) (R : List Tok × Int × Int) (w0 : World) (l : Nat) (k e : Nat) (code : Int) (acc : List Tok) (wr : World) : Prop :=
  match l with
  | 0 => k ≤ s.size ∧ lexFrom s k acc = R
  | 1 => k < s.size ∧ gb s k ≠ 10 ∧ lexFrom s (remEnd s k) acc = R
  | 2 => k < s.size ∧ lexFrom s k acc = R ∧ skip s k = k ∧ isLet (gb s k) = true ∧ k < e ∧ e ≤ s.size ∧ runEnd s e = runEnd s k
  | 3 => k < s.size ∧ lexFrom s k acc = R ∧ skip s k = k ∧ isLet (gb s k) = false ∧ isDig (gb s k) = true ∧ k < e ∧ e ≤ s.size ∧ digEnd s e = digEnd s k
  | 4 => k < s.size ∧ lexFrom s k acc = R ∧ skip s k = k ∧ isLet (gb s k) = false ∧ isDig (gb s k) = false
  | 5 => k < s.size ∧ lexFrom s k acc = R ∧ skip s k = k ∧ code = tokCode s k ∧ (code = 0 → e = tokEnd s k ∧ Tc w0 { tokAt s k with pos := 0 } wr)
  | _ => False
def J28 (s : ByteArray) (R : List Tok × Int × Int) (w0 : World) (l m : Nat) (a : Act) (wr : World) : Prop :=
  ∃ (k e : Nat) (code : Int) (acc : List Tok) (v : Value) (T : Tok), Fr s w0 v code (k : Int) (e : Int) a ∧ Wf s w0 acc v wr ∧ Tc w0 T wr ∧ m = left s.size l k e ∧ St s R w0 l k e code acc wr

/-- What is returned. -/
def Out (R : List Tok × Int × Int) (w0 : World) (e : Ending) (w' : World) : Prop :=
  ∃ v, e = .returned (.tuple #[v, .agg #[.int .i64 R.2.1, .int .i64 R.2.2]]) ∧ w'.ownsRow w0.heap.size 32 4 v R.1.length (rowOf R.1) ∧ Below w0.heap.size w0 w'

theorem lexFrom_skip (s : ByteArray) (k j : Nat) (acc : List Tok) (h : skip s k = skip s j) : lexFrom s k acc = lexFrom s j acc := by
  have e1 := lexFrom.eq_1 s k acc
  have e2 := lexFrom.eq_1 s j acc
  rw [h] at e1
  rw [e1, e2]

end Go.Proofs.YtggkkhlghlghkaaDoor.lex
