/-
  The program's reader: its states are labels that it jumps between; what holds at each.
  The reader between two tokens, and in a remark.
  The reader in a name and in a number.
  The reader behind a token.
  The reader at a sign; and the reader as a whole.
-/
import Derived.Test.YtjikjejfobnfnaaGreatDoorC41
import Derived.WalkMore
import Derived.Scope
import Derived.OwnWalk
namespace Go.Proofs.YtjikjejfobnfnaaGreatDoor.lex
open Go.RowKit Go.Maps Go.Proofs.YtjikjejfobnfnaaGreatDoor.num
set_option linter.unusedVariables false
/-- As Q; by a goto to label l: J l. -/
def jumps (J : Nat → Act → World → Prop) (Q : Exit → Act → World → Prop) : Exit → Act → World → Prop
  | .goto l, a, w => J l a w
  | e, a, w => Q e a w

/-- A scope in which the run jumps from label to label: what holds at each with a number that every pass lowers. -/
theorem wp_scope_labels {P : Program} {a : Act} {w : World} {Q : Exit → Act → World → Prop} {c : Code} (J : Nat → Nat → Act → World → Prop) (M : Nat)
    (first : c.wp P (jumps (fun l a w => ∃ m, J l m a w ∧ m < M) Q) a w)
    (pass : ∀ l m a w, J l m a w → ∃ rest, findLabel c l = some rest ∧ rest.wp P (jumps (fun l' a' w' => ∃ m', J l' m' a' w' ∧ m' < m) Q) a w) : (Code.scope c).wp P Q a w := by
  intro b k cs
  have hg : ∀ l rest, findLabel c l = some rest → gotoIn l (.inScope c :: k) = some (.code rest :: .inScope c :: k) := fun l rest hf => by simp [gotoIn, hf]
  have key : ∀ m l a w rest, findLabel c l = some rest → J l m a w → ∃ e a' w', Q e a' w' ∧ Arrives P (lone (b.at a (.code rest :: .inScope c :: k)) cs w) b k cs e a' w' := by
    intro m
    induction m using Nat.strongRecOn with
    | _ m ih =>
      intro l a w rest hf hJ
      obtain ⟨rest', hf', hw⟩ := pass l m a w hJ
      obtain rfl := Option.some.inj (hf.symm.trans hf')
      obtain ⟨e, a₁, w₁, hq, harr⟩ := hw b (.inScope c :: k) cs
      cases e with
      | normal => exact ⟨.normal, a₁, w₁, hq, Steps.trans harr (.one step_inScope)⟩
      | exit id => exact ⟨.exit id, a₁, w₁, hq, fun k' hk => harr k' (by simp [exitTo, hk])⟩
      | goto l' =>
        obtain ⟨m', hJ', hlt⟩ := hq
        obtain ⟨rest₂, hf₂, _⟩ := pass l' m' a₁ w₁ hJ'
        obtain ⟨e₂, a₂, w₂, hq₂, harr₂⟩ := ih m' hlt l' a₁ w₁ rest₂ hf₂ hJ'
        exact ⟨e₂, a₂, w₂, hq₂, .of_steps (harr _ (hg l' rest₂ hf₂)) harr₂⟩
      | ret => exact ⟨_, a₁, w₁, hq, harr⟩
      | panic ch => exact ⟨_, a₁, w₁, hq, harr⟩
      | outgrown => exact ⟨_, a₁, w₁, hq, harr⟩
  obtain ⟨e, a₁, w₁, hq, harr⟩ := first b (.inScope c :: k) cs
  cases e with
  | normal => exact ⟨.normal, a₁, w₁, hq, .head step_scope (Steps.trans harr (.one step_inScope))⟩
  | exit id => exact ⟨.exit id, a₁, w₁, hq, fun k' hk => .head step_scope (harr k' (by simp [exitTo, hk]))⟩
  | goto l' =>
    obtain ⟨m', hJ', _⟩ := hq
    obtain ⟨rest₂, hf₂, _⟩ := pass l' m' a₁ w₁ hJ'
    obtain ⟨e₂, a₂, w₂, hq₂, harr₂⟩ := key m' l' a₁ w₁ rest₂ hf₂ hJ'
    exact ⟨e₂, a₂, w₂, hq₂, .of_steps (.head step_scope (harr _ (hg l' rest₂ hf₂))) harr₂⟩
  | ret => exact ⟨_, a₁, w₁, hq, .of_steps (.one step_scope) harr⟩
  | panic ch => exact ⟨_, a₁, w₁, hq, .of_steps (.one step_scope) harr⟩
  | outgrown => exact ⟨_, a₁, w₁, hq, .of_steps (.one step_scope) harr⟩

/-- The reader's scope, and the codes behind its labels. -/
noncomputable def c28 : Code := match Tryz.f57.body with | some (.seq _ (.scope c)) => c | _ => .skip
noncomputable def tail28 (l : Nat) : Code := (findLabel c28 l).getD .skip
theorem body28 : ∃ r, Tryz.f57.body = some (.seq r (.scope c28)) := ⟨_, rfl⟩
theorem tail_some (l : Nat) (h : l < 6) : findLabel c28 l = some (tail28 l) := by
  match l, h with
  | 0, _ => rfl
  | 1, _ => rfl
  | 2, _ => rfl
  | 3, _ => rfl
  | 4, _ => rfl
  | 5, _ => rfl

noncomputable def head28 : Code := match tail28 0 with | .seq _ x => x | _ => .skip
theorem tail0 : tail28 0 = .seq .skip head28 := rfl

/-- The reader's frame. -/
structure Fr (s : ByteArray) (w0 : World) (v : Value) (code at_ end_ : Int) (a : Act) : Prop where
  defers : a.defers = []
  size : a.tmps.size = 118
  f0 : a.tmps.getD 0 undef = .string s
  f2 : a.tmps.getD 2 undef = .slice none 0 0
  f3 : a.tmps.getD 3 undef = .pointer (some ⟨w0.heap.size, 0, none⟩)
  f4 : a.tmps.getD 4 undef = v
  f5 : a.tmps.getD 5 undef = .pointer (some ⟨w0.heap.size + 1, 0, none⟩)
  f6 : a.tmps.getD 6 undef = .int .i64 code
  f7 : a.tmps.getD 7 undef = .int .i64 at_
  f8 : a.tmps.getD 8 undef = .int .i64 end_
  f9 : a.tmps.getD 9 undef = .map (some (w0.heap.size + 2))
theorem list_range {α : Type} (d : α) (l : List α) (n : Nat) (h : l.length = n) : l = (List.range n).map (fun i => l.getD i d) := by
  apply List.ext_getElem
  · simp [h]
  · intro i h1 h2
    simp [List.getD_eq_getElem?_getD, h1]
theorem fr_open {s : ByteArray} {w0 : World} {v : Value} {code at_ end_ : Int} {a : Act} (h : Fr s w0 v code at_ end_ a) : ∃ u : Nat → Value, a = { tmps := #[.string s, u 1, .slice none 0 0, .pointer (some ⟨w0.heap.size, 0, none⟩), v, .pointer (some ⟨w0.heap.size + 1, 0, none⟩), .int .i64 code, .int .i64 at_, .int .i64 end_, .map (some (w0.heap.size + 2)), u 10, u 11, u 12, u 13, u 14, u 15, u 16, u 17, u 18, u 19, u 20, u 21, u 22, u 23, u 24, u 25, u 26, u 27, u 28, u 29, u 30, u 31, u 32, u 33, u 34, u 35, u 36, u 37, u 38, u 39, u 40, u 41, u 42, u 43, u 44, u 45, u 46, u 47, u 48, u 49, u 50, u 51, u 52, u 53, u 54, u 55, u 56, u 57, u 58, u 59, u 60, u 61, u 62, u 63, u 64, u 65, u 66, u 67, u 68, u 69, u 70, u 71, u 72, u 73, u 74, u 75, u 76, u 77, u 78, u 79, u 80, u 81, u 82, u 83, u 84, u 85, u 86, u 87, u 88, u 89, u 90, u 91, u 92, u 93, u 94, u 95, u 96, u 97, u 98, u 99, u 100, u 101, u 102, u 103, u 104, u 105, u 106, u 107, u 108, u 109, u 110, u 111, u 112, u 113, u 114, u 115, u 116, u 117], defers := [] } := by
  obtain ⟨hd, hsz, h0, h2, h3, h4, h5, h6, h7, h8, h9⟩ := h
  obtain ⟨t, ds⟩ := a
  simp only at hd hsz h0 h2 h3 h4 h5 h6 h7 h8 h9
  subst hd
  refine ⟨fun i => t.getD i undef, ?_⟩
  congr 1
  rw [← h0, ← h2, ← h3, ← h4, ← h5, ← h6, ← h7, ← h8, ← h9]
  apply Array.toList_inj.1
  have e := list_range undef t.toList 118 (by simpa using hsz)
  have e2 : (fun i => t.toList.getD i undef) = fun i => t.getD i undef := by
    funext i
    simp [List.getD_eq_getElem?_getD]
  rw [e2] at e
  exact e

/-- The reader's world: the fault's cell, the token's, the words, the tokens so far. -/
structure Wf (s : ByteArray) (w0 : World) (acc : List Tok) (v : Value) (wr : World) : Prop where
  fault : wr.heap[w0.heap.size]? = some (.cells #[.int .i64 0, .int .i64 0] 25)
  words : wr.ownsMap Tryz.prog 9 (unitElem (H := Unit)) (w0.heap.size + 2) 17 (wordD 17)
  row : wr.ownsRow (w0.heap.size + 3) 93 4 v acc.length (rowOf acc)
  below : Below w0.heap.size w0 wr
  size : w0.heap.size + 3 ≤ wr.heap.size
  few : acc.length ≤ 700
  sg : Sg wr
  big : 3 < w0.heap.size
/-- The token's cells. -/
def Tc (w0 : World) (t : Tok) (wr : World) : Prop := wr.heap[w0.heap.size + 1]? = some (.cells #[.int .i64 t.kind, .int .i64 t.pos, .string t.text, .int .i64 t.num] 93)

/-- How much is left, by the label. -/
def left (S l k e : Nat) : Nat := (S - k) * (S + 20) + (match l with | 0 => S + 10 | 1 => S + 9 | 2 => 5 + (S - e) | 3 => 5 + (S - e) | 4 => 5 | _ => 4)
theorem left_next (S k j : Nat) (h : k < j) (hj : j ≤ S) : (S - j) * (S + 20) + (S + 20) ≤ (S - k) * (S + 20) := by
  have e : (S - j + 1) * (S + 20) ≤ (S - k) * (S + 20) := Nat.mul_le_mul_right _ (by omega)
  rw [Nat.succ_mul] at e
  exact e

/-- What holds at each label. -/
def St (s : ByteArray) (R : List Tok × Int × Int) (w0 : World) (l : Nat) (k e : Nat) (code : Int) (acc : List Tok) (wr : World) : Prop :=
  match l with
  | 0 => k ≤ s.size ∧ lexFrom s k acc = R
  | 1 => k < s.size ∧ gb s k ≠ 10 ∧ lexFrom s (remEnd s k) acc = R
  | 2 => k < s.size ∧ lexFrom s k acc = R ∧ skip s k = k ∧ isLet (gb s k) = true ∧ k < e ∧ e ≤ s.size ∧ runEnd s e = runEnd s k
  | 3 => k < s.size ∧ lexFrom s k acc = R ∧ skip s k = k ∧ isLet (gb s k) = false ∧ isDig (gb s k) = true ∧ k < e ∧ e ≤ s.size ∧ digEnd s e = digEnd s k
  | 4 => k < s.size ∧ lexFrom s k acc = R ∧ skip s k = k ∧ isLet (gb s k) = false ∧ isDig (gb s k) = false
  | 5 => k < s.size ∧ lexFrom s k acc = R ∧ skip s k = k ∧ code = tokCode s k ∧ (code = 0 → e = tokEnd s k ∧ Tc w0 { tokAt s k with pos := 0 } wr)
  | _ => False
def J28 (s : ByteArray) (R : List Tok × Int × Int) (w0 : World) (l m : Nat) (a : Act) (wr : World) : Prop :=
  ∃ (k e : Nat) (code : Int) (acc : List Tok) (v : Value) (T : Tok), Fr s w0 v code (k : Int) (e : Int) a ∧ Wf s w0 acc v wr ∧ Tc w0 T wr ∧ m = left s.size l k e ∧ St s R w0 l k e code acc wr

/-- What is returned. -/
def Out (R : List Tok × Int × Int) (w0 : World) (e : Ending) (w' : World) : Prop :=
  ∃ v, e = .returned (.tuple #[v, .agg #[.int .i64 R.2.1, .int .i64 R.2.2]]) ∧ w'.ownsRow w0.heap.size 93 4 v R.1.length (rowOf R.1) ∧ Below w0.heap.size w0 w'

theorem lexFrom_skip (s : ByteArray) (k j : Nat) (acc : List Tok) (h : skip s k = skip s j) : lexFrom s k acc = lexFrom s j acc := by
  have e1 := lexFrom.eq_1 s k acc
  have e2 := lexFrom.eq_1 s j acc
  rw [h] at e1
  rw [e1, e2]

set_option maxHeartbeats 4000000 in
set_option maxRecDepth 100000 in
theorem pass0_blank (s : ByteArray) (R : List Tok × Int × Int) (w0 : World) (hs : s.size ≤ 3000) (a : Act) (wr : World) (k e : Nat) (code : Int) (acc : List Tok) (v : Value) (T : Tok)
    (hF : Fr s w0 v code (k : Int) (e : Int) a) (hW : Hid (Wf s w0 acc v wr)) (hT : Hid (Tc w0 T wr)) (hR : Hid (lexFrom s k acc = R)) (hlt : k < s.size) (h32 : gb s k = 32 ∨ gb s k = 10) :
    (head28).wp Tryz.prog (jumps (fun l' a' w' => ∃ m', J28 s R w0 l' m' a' w' ∧ m' < left s.size 0 k e) (bodyPost Tryz.prog Tryz.f57 (Out R w0))) a wr := by
  obtain ⟨u, rfl⟩ := fr_open hF
  clear hF
  have hrune := fun w => runeAt_any s k w (by omega)
  rw [rAt_in s k hlt] at hrune
  have eR := (lexFrom_skip s k (k + 1) acc (skip_blank s k hlt h32)).symm.trans (unhide hR)
  conv => arg 2; whnf
  generalize gb s k = c at *
  rcases h32 with rfl | rfl
  · go_wp2_with (go_at_call 90; refine (hrune _).mono ?_; rintro e w' ⟨rfl, rfl⟩)
    apply wp_goto
    show ∃ m', J28 s R w0 0 m' _ _ ∧ m' < left s.size 0 k e
    refine ⟨_, ⟨k + 1, k + 1, code, acc, v, T, ⟨rfl, rfl, rfl, rfl, rfl, rfl, rfl, rfl, rfl, rfl, rfl⟩, unhide hW, unhide hT, rfl, ⟨by omega, eR⟩⟩, ?_⟩
    have := left_next s.size k (k + 1) (by omega) (by omega)
    simp only [left]
    omega
  · go_wp2_with (go_at_call 90; refine (hrune _).mono ?_; rintro e w' ⟨rfl, rfl⟩)
    apply wp_goto
    show ∃ m', J28 s R w0 0 m' _ _ ∧ m' < left s.size 0 k e
    refine ⟨_, ⟨k + 1, k + 1, code, acc, v, T, ⟨rfl, rfl, rfl, rfl, rfl, rfl, rfl, rfl, rfl, rfl, rfl⟩, unhide hW, unhide hT, rfl, ⟨by omega, eR⟩⟩, ?_⟩
    have := left_next s.size k (k + 1) (by omega) (by omega)
    simp only [left]
    omega

set_option maxHeartbeats 4000000 in
set_option maxRecDepth 100000 in
theorem pass0_end (s : ByteArray) (R : List Tok × Int × Int) (w0 : World) (hs : s.size ≤ 3000) (a : Act) (wr : World) (k e : Nat) (code : Int) (acc : List Tok) (v : Value) (T : Tok)
    (hF : Fr s w0 v code (k : Int) (e : Int) a) (hW : Hid (Wf s w0 acc v wr)) (hT : Hid (Tc w0 T wr)) (hR : Hid (lexFrom s k acc = R)) (hlt : ¬ k < s.size) :
    (head28).wp Tryz.prog (jumps (fun l' a' w' => ∃ m', J28 s R w0 l' m' a' w' ∧ m' < left s.size 0 k e) (bodyPost Tryz.prog Tryz.f57 (Out R w0))) a wr := by
  obtain ⟨u, rfl⟩ := fr_open hF
  clear hF
  have hrune := fun w => runeAt_any s k w (by omega)
  rw [rAt_out s k hlt] at hrune
  have eR := (lexFrom_end s k acc (by rw [skip_end s k hlt]; exact hlt)).symm.trans (unhide hR)
  have c0 : wr.cell? ⟨w0.heap.size, 0, none⟩ = some (.int .i64 0) := cell_of (unhide hW).fault rfl
  have c1 : wr.cell? ⟨w0.heap.size, 1, none⟩ = some (.int .i64 0) := cell_of (unhide hW).fault rfl
  have f0 : wr.frozen? ⟨w0.heap.size, 0, none⟩ = false := frozen_of (unhide hW).fault
  have f1 : wr.frozen? ⟨w0.heap.size, 1, none⟩ = false := frozen_of (unhide hW).fault
  conv => arg 2; whnf
  go_wp2_with (go_at_call 90; refine (hrune _).mono ?_; rintro e w' ⟨rfl, rfl⟩)
  show bodyPost Tryz.prog Tryz.f57 (Out R w0) Exit.ret _ _
  refine bodyPost_ret (results_tmp_cell rfl _ _ w0.heap.size 25 _ (0, 0) _ rfl (at_same (at_same (unhide hW).fault)) Tryz.underlying25 rfl (by kernel_rfl)) rfl ?_
  subst eR
  exact ⟨_, rfl, row_mono (row_set (row_set (unhide hW).row (by simp) _) (by simp) _) (by omega), ((unhide hW).below.setCell (Nat.le_refl _) _).setCell (Nat.le_refl _) _⟩

set_option maxHeartbeats 4000000 in
set_option maxRecDepth 100000 in
theorem pass0_hash (s : ByteArray) (R : List Tok × Int × Int) (w0 : World) (hs : s.size ≤ 3000) (a : Act) (wr : World) (k e : Nat) (code : Int) (acc : List Tok) (v : Value) (T : Tok)
    (hF : Fr s w0 v code (k : Int) (e : Int) a) (hW : Hid (Wf s w0 acc v wr)) (hT : Hid (Tc w0 T wr)) (hR : Hid (lexFrom s k acc = R)) (hlt : k < s.size) (hc : gb s k = 35) :
    (head28).wp Tryz.prog (jumps (fun l' a' w' => ∃ m', J28 s R w0 l' m' a' w' ∧ m' < left s.size 0 k e) (bodyPost Tryz.prog Tryz.f57 (Out R w0))) a wr := by
  obtain ⟨u, rfl⟩ := fr_open hF
  clear hF
  have hrune := fun w => runeAt_any s k w (by omega)
  rw [rAt_in s k hlt, hc] at hrune
  have e2 := remEnd_go s k hlt (by omega)
  have eR : lexFrom s (remEnd s k) acc = R := by
    refine (lexFrom_skip s k (remEnd s k) acc ?_).symm.trans (unhide hR)
    rw [skip_rem s k hlt hc, e2]
  conv => arg 2; whnf
  go_wp2_with (go_at_call 90; refine (hrune _).mono ?_; rintro e w' ⟨rfl, rfl⟩)
  apply wp_goto
  show ∃ m', J28 s R w0 1 m' _ _ ∧ m' < left s.size 0 k e
  refine ⟨_, ⟨k, k + 1, code, acc, v, T, ⟨rfl, rfl, rfl, rfl, rfl, rfl, rfl, rfl, rfl, rfl, rfl⟩, unhide hW, unhide hT, rfl, ⟨hlt, by omega, eR⟩⟩, ?_⟩
  simp only [left]
  omega

set_option maxHeartbeats 4000000 in
set_option maxRecDepth 100000 in
theorem pass0_name (s : ByteArray) (R : List Tok × Int × Int) (w0 : World) (hs : s.size ≤ 3000) (a : Act) (wr : World) (k e : Nat) (code : Int) (acc : List Tok) (v : Value) (T : Tok)
    (hF : Fr s w0 v code (k : Int) (e : Int) a) (hW : Hid (Wf s w0 acc v wr)) (hT : Hid (Tc w0 T wr)) (hR : Hid (lexFrom s k acc = R)) (hlt : k < s.size) (h1 : ¬ (gb s k = 32 ∨ gb s k = 10)) (h2 : gb s k ≠ 35) (hl : isLet (gb s k) = true) :
    (head28).wp Tryz.prog (jumps (fun l' a' w' => ∃ m', J28 s R w0 l' m' a' w' ∧ m' < left s.size 0 k e) (bodyPost Tryz.prog Tryz.f57 (Out R w0))) a wr := by
  obtain ⟨u, rfl⟩ := fr_open hF
  clear hF
  have hrune := fun w => runeAt_any s k w (by omega)
  rw [rAt_in s k hlt] at hrune
  have hrng := gb_rng s k
  have eS := skip_stop s k h1 h2
  have HL : ∀ w, Calls Tryz.prog 91 #[.int .i32 (gb s k)] w fun e w' => e = .returned (.bool true) ∧ w' = w := fun w => by
    have := isLetter_any (gb s k) w
    rwa [hl] at this
  have HD := isDigit_any (gb s k)
  have g0 : (gb s k == -1) = false := by simp; omega
  have g1 : (gb s k == 32) = false := by simp; omega
  have g2 : (gb s k == 10) = false := by simp; omega
  have g3 : (gb s k == 35) = false := by simpa using h2
  have HS := hide eS
  have Hl := hide hl
  clear eS hl h1 h2
  conv => arg 2; whnf
  go_wp2_with (first | (go_at_call 90; refine (hrune _).mono ?_; rintro e w' ⟨rfl, rfl⟩) | (go_at_call 91; refine (HL _).mono ?_; rintro e w' ⟨rfl, rfl⟩) | (go_at_call 92; refine (HD _).mono ?_; rintro e w' ⟨rfl, rfl⟩))
  apply wp_goto
  show ∃ m', J28 s R w0 2 m' _ _ ∧ m' < left s.size 0 k e
  refine ⟨_, ⟨k, k + 1, code, acc, v, T, ⟨rfl, rfl, rfl, rfl, rfl, rfl, rfl, rfl, rfl, rfl, rfl⟩, unhide hW, unhide hT, rfl, ⟨hlt, unhide hR, unhide HS, unhide Hl, by omega, by omega, (runEnd_go s k hlt (by rw [unhide Hl]; rfl)).symm⟩⟩, ?_⟩
  simp only [left]
  omega

set_option maxHeartbeats 4000000 in
set_option maxRecDepth 100000 in
theorem pass0_num (s : ByteArray) (R : List Tok × Int × Int) (w0 : World) (hs : s.size ≤ 3000) (a : Act) (wr : World) (k e : Nat) (code : Int) (acc : List Tok) (v : Value) (T : Tok)
    (hF : Fr s w0 v code (k : Int) (e : Int) a) (hW : Hid (Wf s w0 acc v wr)) (hT : Hid (Tc w0 T wr)) (hR : Hid (lexFrom s k acc = R)) (hlt : k < s.size) (h1 : ¬ (gb s k = 32 ∨ gb s k = 10)) (h2 : gb s k ≠ 35) (hl : isLet (gb s k) = false) (hd : isDig (gb s k) = true) :
    (head28).wp Tryz.prog (jumps (fun l' a' w' => ∃ m', J28 s R w0 l' m' a' w' ∧ m' < left s.size 0 k e) (bodyPost Tryz.prog Tryz.f57 (Out R w0))) a wr := by
  obtain ⟨u, rfl⟩ := fr_open hF
  clear hF
  have hrune := fun w => runeAt_any s k w (by omega)
  rw [rAt_in s k hlt] at hrune
  have hrng := gb_rng s k
  have eS := skip_stop s k h1 h2
  have HL : ∀ w, Calls Tryz.prog 91 #[.int .i32 (gb s k)] w fun e w' => e = .returned (.bool false) ∧ w' = w := fun w => by
    have := isLetter_any (gb s k) w
    rwa [hl] at this
  have HD : ∀ w, Calls Tryz.prog 92 #[.int .i32 (gb s k)] w fun e w' => e = .returned (.bool true) ∧ w' = w := fun w => by
    have := isDigit_any (gb s k) w
    rwa [hd] at this
  have g0 : (gb s k == -1) = false := by simp; omega
  have g1 : (gb s k == 32) = false := by simp; omega
  have g2 : (gb s k == 10) = false := by simp; omega
  have g3 : (gb s k == 35) = false := by simpa using h2
  have HS := hide eS
  have Hl := hide hl
  have Hd := hide hd
  clear hd
  clear eS hl h1 h2
  conv => arg 2; whnf
  go_wp2_with (first | (go_at_call 90; refine (hrune _).mono ?_; rintro e w' ⟨rfl, rfl⟩) | (go_at_call 91; refine (HL _).mono ?_; rintro e w' ⟨rfl, rfl⟩) | (go_at_call 92; refine (HD _).mono ?_; rintro e w' ⟨rfl, rfl⟩))
  apply wp_goto
  show ∃ m', J28 s R w0 3 m' _ _ ∧ m' < left s.size 0 k e
  refine ⟨_, ⟨k, k + 1, code, acc, v, T, ⟨rfl, rfl, rfl, rfl, rfl, rfl, rfl, rfl, rfl, rfl, rfl⟩, unhide hW, unhide hT, rfl, ⟨hlt, unhide hR, unhide HS, unhide Hl, unhide Hd, by omega, by omega, (digEnd_go s k hlt (unhide Hd)).symm⟩⟩, ?_⟩
  simp only [left]
  omega

set_option maxHeartbeats 4000000 in
set_option maxRecDepth 100000 in
theorem pass0_sign (s : ByteArray) (R : List Tok × Int × Int) (w0 : World) (hs : s.size ≤ 3000) (a : Act) (wr : World) (k e : Nat) (code : Int) (acc : List Tok) (v : Value) (T : Tok)
    (hF : Fr s w0 v code (k : Int) (e : Int) a) (hW : Hid (Wf s w0 acc v wr)) (hT : Hid (Tc w0 T wr)) (hR : Hid (lexFrom s k acc = R)) (hlt : k < s.size) (h1 : ¬ (gb s k = 32 ∨ gb s k = 10)) (h2 : gb s k ≠ 35) (hl : isLet (gb s k) = false) (hd : isDig (gb s k) = false) :
    (head28).wp Tryz.prog (jumps (fun l' a' w' => ∃ m', J28 s R w0 l' m' a' w' ∧ m' < left s.size 0 k e) (bodyPost Tryz.prog Tryz.f57 (Out R w0))) a wr := by
  obtain ⟨u, rfl⟩ := fr_open hF
  clear hF
  have hrune := fun w => runeAt_any s k w (by omega)
  rw [rAt_in s k hlt] at hrune
  have hrng := gb_rng s k
  have eS := skip_stop s k h1 h2
  have HL : ∀ w, Calls Tryz.prog 91 #[.int .i32 (gb s k)] w fun e w' => e = .returned (.bool false) ∧ w' = w := fun w => by
    have := isLetter_any (gb s k) w
    rwa [hl] at this
  have HD : ∀ w, Calls Tryz.prog 92 #[.int .i32 (gb s k)] w fun e w' => e = .returned (.bool false) ∧ w' = w := fun w => by
    have := isDigit_any (gb s k) w
    rwa [hd] at this
  have g0 : (gb s k == -1) = false := by simp; omega
  have g1 : (gb s k == 32) = false := by simp; omega
  have g2 : (gb s k == 10) = false := by simp; omega
  have g3 : (gb s k == 35) = false := by simpa using h2
  have HS := hide eS
  have Hl := hide hl
  have Hd := hide hd
  clear hd
  clear eS hl h1 h2
  conv => arg 2; whnf
  go_wp2_with (first | (go_at_call 90; refine (hrune _).mono ?_; rintro e w' ⟨rfl, rfl⟩) | (go_at_call 91; refine (HL _).mono ?_; rintro e w' ⟨rfl, rfl⟩) | (go_at_call 92; refine (HD _).mono ?_; rintro e w' ⟨rfl, rfl⟩))
  apply wp_goto
  show ∃ m', J28 s R w0 4 m' _ _ ∧ m' < left s.size 0 k e
  refine ⟨_, ⟨k, k + 1, code, acc, v, T, ⟨rfl, rfl, rfl, rfl, rfl, rfl, rfl, rfl, rfl, rfl, rfl⟩, unhide hW, unhide hT, rfl, ⟨hlt, unhide hR, unhide HS, unhide Hl, unhide Hd⟩⟩, ?_⟩
  simp only [left]
  omega

set_option maxHeartbeats 4000000 in
set_option maxRecDepth 100000 in
theorem pass1_more (s : ByteArray) (R : List Tok × Int × Int) (w0 : World) (hs : s.size ≤ 3000) (a : Act) (wr : World) (k e : Nat) (code : Int) (acc : List Tok) (v : Value) (T : Tok)
    (hF : Fr s w0 v code (k : Int) (e : Int) a) (hW : Hid (Wf s w0 acc v wr)) (hT : Hid (Tc w0 T wr)) (hlt : k < s.size) (h10 : gb s k ≠ 10) (hR : Hid (lexFrom s (remEnd s k) acc = R)) (hl2 : k + 1 < s.size) (hne : gb s (k + 1) ≠ 10) :
    (tail28 1).wp Tryz.prog (jumps (fun l' a' w' => ∃ m', J28 s R w0 l' m' a' w' ∧ m' < left s.size 1 k e) (bodyPost Tryz.prog Tryz.f57 (Out R w0))) a wr := by
  obtain ⟨u, rfl⟩ := fr_open hF
  clear hF
  have hrune := fun w => runeAt_any s (k + 1) w (by omega)
  rw [rAt_in s (k + 1) hl2] at hrune
  have eR : lexFrom s (remEnd s (k + 1)) acc = R := by rw [← remEnd_go s k hlt h10]; exact unhide hR
  have hrng := gb_rng s (k + 1)
  have g0 : (gb s (k + 1) != 10) = true := by simpa using hne
  have g1 : (gb s (k + 1) != -1) = true := by simp; omega
  have ek : ((k + 1 : Nat) : Int) = (k : Int) + 1 := by omega
  rw [ek] at hrune
  conv => arg 2; whnf
  go_wp2_with (go_at_call 90; refine (hrune _).mono ?_; rintro e w' ⟨rfl, rfl⟩)
  apply wp_goto
  show ∃ m', J28 s R w0 1 m' _ _ ∧ m' < left s.size 1 k e
  refine ⟨_, ⟨k + 1, e, code, acc, v, T, ⟨rfl, rfl, rfl, rfl, rfl, rfl, rfl, rfl, rfl, rfl, rfl⟩, unhide hW, unhide hT, rfl, ⟨hl2, hne, eR⟩⟩, ?_⟩
  have := left_next s.size k (k + 1) (by omega) (by omega)
  simp only [left]
  omega

set_option maxHeartbeats 4000000 in
set_option maxRecDepth 100000 in
theorem pass1_line (s : ByteArray) (R : List Tok × Int × Int) (w0 : World) (hs : s.size ≤ 3000) (a : Act) (wr : World) (k e : Nat) (code : Int) (acc : List Tok) (v : Value) (T : Tok)
    (hF : Fr s w0 v code (k : Int) (e : Int) a) (hW : Hid (Wf s w0 acc v wr)) (hT : Hid (Tc w0 T wr)) (hlt : k < s.size) (h10 : gb s k ≠ 10) (hR : Hid (lexFrom s (remEnd s k) acc = R)) (hl2 : k + 1 < s.size) (hne : gb s (k + 1) = 10) :
    (tail28 1).wp Tryz.prog (jumps (fun l' a' w' => ∃ m', J28 s R w0 l' m' a' w' ∧ m' < left s.size 1 k e) (bodyPost Tryz.prog Tryz.f57 (Out R w0))) a wr := by
  obtain ⟨u, rfl⟩ := fr_open hF
  clear hF
  have hrune := fun w => runeAt_any s (k + 1) w (by omega)
  rw [rAt_in s (k + 1) hl2, hne] at hrune
  have eR : lexFrom s (k + 1) acc = R := by rw [← remEnd_stop s (k + 1) hne, ← remEnd_go s k hlt h10]; exact unhide hR
  have ek : ((k + 1 : Nat) : Int) = (k : Int) + 1 := by omega
  rw [ek] at hrune
  conv => arg 2; whnf
  go_wp2_with (go_at_call 90; refine (hrune _).mono ?_; rintro e w' ⟨rfl, rfl⟩)
  apply wp_goto
  show ∃ m', J28 s R w0 0 m' _ _ ∧ m' < left s.size 1 k e
  refine ⟨_, ⟨k + 1, e, code, acc, v, T, ⟨rfl, rfl, rfl, rfl, rfl, rfl, rfl, rfl, rfl, rfl, rfl⟩, unhide hW, unhide hT, rfl, ⟨by omega, eR⟩⟩, ?_⟩
  have := left_next s.size k (k + 1) (by omega) (by omega)
  simp only [left]
  omega

set_option maxHeartbeats 4000000 in
set_option maxRecDepth 100000 in
theorem pass1_end (s : ByteArray) (R : List Tok × Int × Int) (w0 : World) (hs : s.size ≤ 3000) (a : Act) (wr : World) (k e : Nat) (code : Int) (acc : List Tok) (v : Value) (T : Tok)
    (hF : Fr s w0 v code (k : Int) (e : Int) a) (hW : Hid (Wf s w0 acc v wr)) (hT : Hid (Tc w0 T wr)) (hlt : k < s.size) (h10 : gb s k ≠ 10) (hR : Hid (lexFrom s (remEnd s k) acc = R)) (hl2 : ¬ k + 1 < s.size) :
    (tail28 1).wp Tryz.prog (jumps (fun l' a' w' => ∃ m', J28 s R w0 l' m' a' w' ∧ m' < left s.size 1 k e) (bodyPost Tryz.prog Tryz.f57 (Out R w0))) a wr := by
  obtain ⟨u, rfl⟩ := fr_open hF
  clear hF
  have hrune := fun w => runeAt_any s (k + 1) w (by omega)
  rw [rAt_out s (k + 1) hl2] at hrune
  have eR : lexFrom s (k + 1) acc = R := by rw [← remEnd_end s (k + 1) hl2, ← remEnd_go s k hlt h10]; exact unhide hR
  have ek : ((k + 1 : Nat) : Int) = (k : Int) + 1 := by omega
  rw [ek] at hrune
  conv => arg 2; whnf
  go_wp2_with (go_at_call 90; refine (hrune _).mono ?_; rintro e w' ⟨rfl, rfl⟩)
  apply wp_goto
  show ∃ m', J28 s R w0 0 m' _ _ ∧ m' < left s.size 1 k e
  refine ⟨_, ⟨k + 1, e, code, acc, v, T, ⟨rfl, rfl, rfl, rfl, rfl, rfl, rfl, rfl, rfl, rfl, rfl⟩, unhide hW, unhide hT, rfl, ⟨by omega, eR⟩⟩, ?_⟩
  have := left_next s.size k (k + 1) (by omega) (by omega)
  simp only [left]
  omega

theorem map_below {w w' : World} {b n : Nat} {D : DataW Unit} (h : w.ownsMap Tryz.prog 9 (unitElem (H := Unit)) b n D) (hb : Below w.heap.size w w') : w'.ownsMap Tryz.prog 9 (unitElem (H := Unit)) b n D := by
  obtain ⟨es, clock, hh, r⟩ := h
  exact ⟨es, clock, (hb.block b (Array.getElem?_eq_some_iff.1 hh).1).trans hh, r⟩
theorem Sg.set {w : World} (h : Sg w) {b i : Nat} (hb : 3 < b) (u : Value) : Sg (w.setCell ⟨b, i, none⟩ u) := by
  obtain ⟨t, fr, h⟩ := h
  exact ⟨t, fr, at_other h (by omega)⟩
theorem Wf.pos {s : ByteArray} {w0 : World} {acc : List Tok} {v : Value} {wr : World} (h : Wf s w0 acc v wr) (hs : Sg w0) : 3 < w0.heap.size := hs.size
theorem Wf.later {s : ByteArray} {w0 : World} {acc : List Tok} {v : Value} {wr w1 : World} (h : Wf s w0 acc v wr) (hb : Below wr.heap.size wr w1) : Wf s w0 acc v w1 :=
  ⟨at_below hb h.fault (by have := h.size; omega), map_below h.words hb, row_below h.row hb, h.below.trans (hb.mono (by have := h.size; omega)), Nat.le_trans h.size hb.size, h.few, h.sg.below hb (by have := h.sg.size; omega), h.big⟩
theorem Wf.set {s : ByteArray} {w0 : World} {acc : List Tok} {v : Value} {wr : World} (h : Wf s w0 acc v wr) (i : Nat) (u : Value) : Wf s w0 acc v (wr.setCell ⟨w0.heap.size + 1, i, none⟩ u) :=
  ⟨at_other h.fault (by omega), h.words.setCell (by simp) u, row_set h.row (by simp) u, h.below.setCell (by simp) u, by simpa using h.size, h.few, h.sg.set (by have := h.big; omega) u, h.big⟩
theorem Wf.set4 {s : ByteArray} {w0 : World} {acc : List Tok} {v : Value} {wr : World} (h : Wf s w0 acc v wr) (a b c d : Value) :
    Wf s w0 acc v ((((wr.setCell ⟨w0.heap.size + 1, 0, none⟩ a).setCell ⟨w0.heap.size + 1, 1, none⟩ b).setCell ⟨w0.heap.size + 1, 2, none⟩ c).setCell ⟨w0.heap.size + 1, 3, none⟩ d) :=
  (((h.set 0 a).set 1 b).set 2 c).set 3 d
theorem Tc.set4 {w0 : World} {T : Tok} {wr : World} (h : Tc w0 T wr) (k p n : Int) (t : ByteArray) :
    Tc w0 ⟨k, p, t, n⟩ ((((wr.setCell ⟨w0.heap.size + 1, 0, none⟩ (.int .i64 k)).setCell ⟨w0.heap.size + 1, 1, none⟩ (.int .i64 p)).setCell ⟨w0.heap.size + 1, 2, none⟩ (.string t)).setCell ⟨w0.heap.size + 1, 3, none⟩ (.int .i64 n)) :=
  at_same (at_same (at_same (at_same h)))
theorem Tc.later {w0 : World} {T : Tok} {wr w1 : World} (h : Tc w0 T wr) (hb : Below wr.heap.size wr w1) : Tc w0 T w1 := at_below hb h (Array.getElem?_eq_some_iff.1 h).1

set_option maxHeartbeats 4000000 in
set_option maxRecDepth 100000 in
theorem pass2_let (s : ByteArray) (R : List Tok × Int × Int) (w0 : World) (hs : s.size ≤ 3000) (a : Act) (wr : World) (k e : Nat) (code : Int) (acc : List Tok) (v : Value) (T : Tok)
    (hF : Fr s w0 v code (k : Int) (e : Int) a) (hW : Hid (Wf s w0 acc v wr)) (hT : Hid (Tc w0 T wr)) (hlt : k < s.size) (hR : Hid (lexFrom s k acc = R)) (hS : Hid (skip s k = k)) (hl : Hid (isLet (gb s k) = true)) (hke : k < e) (hes : e ≤ s.size) (hE : Hid (runEnd s e = runEnd s k)) (h2 : e < s.size) (hl' : isLet (rAt s e) = true) :
    (tail28 2).wp Tryz.prog (jumps (fun l' a' w' => ∃ m', J28 s R w0 l' m' a' w' ∧ m' < left s.size 2 k e) (bodyPost Tryz.prog Tryz.f57 (Out R w0))) a wr := by
  obtain ⟨u, rfl⟩ := fr_open hF
  clear hF
  have hrune := fun w => runeAt_any s e w (by omega)
  have HL : ∀ w, Calls Tryz.prog 91 #[.int .i32 (rAt s e)] w fun e' w' => e' = .returned (.bool true) ∧ w' = w := fun w => by
    have := isLetter_any (rAt s e) w
    rwa [hl'] at this
  have HD := isDigit_any (rAt s e)
  have eE := (runEnd_go s e h2 (by rw [← rAt_in s e h2, hl']; rfl)).symm.trans (unhide hE)
  have HE := hide eE
  clear eE hl'
  generalize rAt s e = c at *
  conv => arg 2; whnf
  go_wp2_with (first | (go_at_call 90; refine (hrune _).mono ?_; rintro e' w' ⟨rfl, rfl⟩) | (go_at_call 91; refine (HL _).mono ?_; rintro e' w' ⟨rfl, rfl⟩) | (go_at_call 92; refine (HD _).mono ?_; rintro e' w' ⟨rfl, rfl⟩))
  apply wp_goto
  show ∃ m', J28 s R w0 2 m' _ _ ∧ m' < left s.size 2 k e
  refine ⟨_, ⟨k, e + 1, code, acc, v, T, ⟨rfl, rfl, rfl, rfl, rfl, rfl, rfl, rfl, rfl, rfl, rfl⟩, unhide hW, unhide hT, rfl, ⟨hlt, unhide hR, unhide hS, unhide hl, by omega, by omega, unhide HE⟩⟩, ?_⟩
  simp only [left]
  omega

set_option maxHeartbeats 4000000 in
set_option maxRecDepth 100000 in
theorem pass2_dig (s : ByteArray) (R : List Tok × Int × Int) (w0 : World) (hs : s.size ≤ 3000) (a : Act) (wr : World) (k e : Nat) (code : Int) (acc : List Tok) (v : Value) (T : Tok)
    (hF : Fr s w0 v code (k : Int) (e : Int) a) (hW : Hid (Wf s w0 acc v wr)) (hT : Hid (Tc w0 T wr)) (hlt : k < s.size) (hR : Hid (lexFrom s k acc = R)) (hS : Hid (skip s k = k)) (hl : Hid (isLet (gb s k) = true)) (hke : k < e) (hes : e ≤ s.size) (hE : Hid (runEnd s e = runEnd s k)) (h2 : e < s.size) (hl' : isLet (rAt s e) = false) (hd' : isDig (rAt s e) = true) :
    (tail28 2).wp Tryz.prog (jumps (fun l' a' w' => ∃ m', J28 s R w0 l' m' a' w' ∧ m' < left s.size 2 k e) (bodyPost Tryz.prog Tryz.f57 (Out R w0))) a wr := by
  obtain ⟨u, rfl⟩ := fr_open hF
  clear hF
  have hrune := fun w => runeAt_any s e w (by omega)
  have HL : ∀ w, Calls Tryz.prog 91 #[.int .i32 (rAt s e)] w fun e' w' => e' = .returned (.bool false) ∧ w' = w := fun w => by
    have := isLetter_any (rAt s e) w
    rwa [hl'] at this
  have HD : ∀ w, Calls Tryz.prog 92 #[.int .i32 (rAt s e)] w fun e' w' => e' = .returned (.bool true) ∧ w' = w := fun w => by
    have := isDigit_any (rAt s e) w
    rwa [hd'] at this
  have eE := (runEnd_go s e h2 (by rw [← rAt_in s e h2, hd']; exact Bool.or_true _)).symm.trans (unhide hE)
  have HE := hide eE
  clear eE hl' hd'
  generalize rAt s e = c at *
  conv => arg 2; whnf
  go_wp2_with (first | (go_at_call 90; refine (hrune _).mono ?_; rintro e' w' ⟨rfl, rfl⟩) | (go_at_call 91; refine (HL _).mono ?_; rintro e' w' ⟨rfl, rfl⟩) | (go_at_call 92; refine (HD _).mono ?_; rintro e' w' ⟨rfl, rfl⟩))
  apply wp_goto
  show ∃ m', J28 s R w0 2 m' _ _ ∧ m' < left s.size 2 k e
  refine ⟨_, ⟨k, e + 1, code, acc, v, T, ⟨rfl, rfl, rfl, rfl, rfl, rfl, rfl, rfl, rfl, rfl, rfl⟩, unhide hW, unhide hT, rfl, ⟨hlt, unhide hR, unhide hS, unhide hl, by omega, by omega, unhide HE⟩⟩, ?_⟩
  simp only [left]
  omega

set_option maxHeartbeats 4000000 in
set_option maxRecDepth 100000 in
theorem pass2_long (s : ByteArray) (R : List Tok × Int × Int) (w0 : World) (hs : s.size ≤ 3000) (a : Act) (wr : World) (k e : Nat) (code : Int) (acc : List Tok) (v : Value) (T : Tok)
    (hF : Fr s w0 v code (k : Int) (e : Int) a) (hW : Hid (Wf s w0 acc v wr)) (hT : Hid (Tc w0 T wr)) (hlt : k < s.size) (hR : Hid (lexFrom s k acc = R)) (hS : Hid (skip s k = k)) (hl : Hid (isLet (gb s k) = true)) (hke : k < e) (hes : e ≤ s.size) (hE : Hid (runEnd s e = runEnd s k)) (hl' : isLet (rAt s e) = false) (hd' : isDig (rAt s e) = false) (h8 : 8 < e - k) :
    (tail28 2).wp Tryz.prog (jumps (fun l' a' w' => ∃ m', J28 s R w0 l' m' a' w' ∧ m' < left s.size 2 k e) (bodyPost Tryz.prog Tryz.f57 (Out R w0))) a wr := by
  obtain ⟨u, rfl⟩ := fr_open hF
  clear hF
  have hrune := fun w => runeAt_any s e w (by omega)
  have HL : ∀ w, Calls Tryz.prog 91 #[.int .i32 (rAt s e)] w fun e' w' => e' = .returned (.bool false) ∧ w' = w := fun w => by
    have := isLetter_any (rAt s e) w
    rwa [hl'] at this
  have HD : ∀ w, Calls Tryz.prog 92 #[.int .i32 (rAt s e)] w fun e' w' => e' = .returned (.bool false) ∧ w' = w := fun w => by
    have := isDigit_any (rAt s e) w
    rwa [hd'] at this
  have eE : runEnd s k = e := by
    rw [← unhide hE]
    by_cases h2 : e < s.size
    · rw [rAt_in s e h2] at hl' hd'
      exact runEnd_stop s e (by rw [hl', hd']; rfl)
    · exact runEnd_end s e h2
  have HE := hide eE
  have hsz : (s.extract k e).size = e - k := by simp; omega
  have HN := fun w (hm : w.ownsMap Tryz.prog 9 (unitElem (H := Unit)) (w0.heap.size + 2) 17 (wordD 17)) => nameToken_long (s.extract k e) (w0.heap.size + 2) 17 w (by omega) (by omega)
  clear eE hl' hd'
  generalize rAt s e = c at *
  conv => arg 2; whnf
  go_wp2_with (first | (go_at_call 90; refine (hrune _).mono ?_; rintro e' w' ⟨rfl, rfl⟩) | (go_at_call 91; refine (HL _).mono ?_; rintro e' w' ⟨rfl, rfl⟩) | (go_at_call 92; refine (HD _).mono ?_; rintro e' w' ⟨rfl, rfl⟩) | (go_at_call 93; refine (HN _ (unhide hW).words).mono ?_; rintro e1 w1 ⟨rfl, hb⟩; have q4 := (unhide hT).later hb; obtain ⟨c0, c1, c2, c3, g0, g1, g2, g3⟩ := f4 q4; have Q4 := hide q4; clear q4; have W4 := hide ((unhide hW).later hb)))
  apply wp_goto
  show ∃ m', J28 s R w0 5 m' _ _ ∧ m' < left s.size 2 k e
  refine ⟨_, ⟨k, e, 3, acc, v, ⟨0, 0, ⟨#[]⟩, 0⟩, ⟨rfl, rfl, rfl, rfl, rfl, rfl, rfl, rfl, rfl, rfl, rfl⟩, (unhide W4).set4 _ _ _ _, (unhide Q4).set4 _ _ _ _, rfl, ⟨hlt, unhide hR, unhide hS, by rw [tokCode, if_pos (unhide hl), unhide HE, if_pos h8], fun h => by omega⟩⟩, ?_⟩
  simp only [left]
  omega

set_option maxHeartbeats 4000000 in
set_option maxRecDepth 100000 in
theorem pass2_short (s : ByteArray) (R : List Tok × Int × Int) (w0 : World) (hs : s.size ≤ 3000) (a : Act) (wr : World) (k e : Nat) (code : Int) (acc : List Tok) (v : Value) (T : Tok)
    (hF : Fr s w0 v code (k : Int) (e : Int) a) (hW : Hid (Wf s w0 acc v wr)) (hT : Hid (Tc w0 T wr)) (hlt : k < s.size) (hR : Hid (lexFrom s k acc = R)) (hS : Hid (skip s k = k)) (hl : Hid (isLet (gb s k) = true)) (hke : k < e) (hes : e ≤ s.size) (hE : Hid (runEnd s e = runEnd s k)) (hl' : isLet (rAt s e) = false) (hd' : isDig (rAt s e) = false) (h8 : ¬ 8 < e - k) :
    (tail28 2).wp Tryz.prog (jumps (fun l' a' w' => ∃ m', J28 s R w0 l' m' a' w' ∧ m' < left s.size 2 k e) (bodyPost Tryz.prog Tryz.f57 (Out R w0))) a wr := by
  obtain ⟨u, rfl⟩ := fr_open hF
  clear hF
  have hrune := fun w => runeAt_any s e w (by omega)
  have HL : ∀ w, Calls Tryz.prog 91 #[.int .i32 (rAt s e)] w fun e' w' => e' = .returned (.bool false) ∧ w' = w := fun w => by
    have := isLetter_any (rAt s e) w
    rwa [hl'] at this
  have HD : ∀ w, Calls Tryz.prog 92 #[.int .i32 (rAt s e)] w fun e' w' => e' = .returned (.bool false) ∧ w' = w := fun w => by
    have := isDigit_any (rAt s e) w
    rwa [hd'] at this
  have eE : runEnd s k = e := by
    rw [← unhide hE]
    by_cases h2 : e < s.size
    · rw [rAt_in s e h2] at hl' hd'
      exact runEnd_stop s e (by rw [hl', hd']; rfl)
    · exact runEnd_end s e h2
  have HE := hide eE
  have hsz : (s.extract k e).size = e - k := by simp; omega
  have HN := fun w (hm : w.ownsMap Tryz.prog 9 (unitElem (H := Unit)) (w0.heap.size + 2) 17 (wordD 17)) => nameToken_short (s.extract k e) (w0.heap.size + 2) 17 w (by omega) hm
  generalize hX : (if isWord (s.extract k e).data.toList then (3 : Int) else 1) = X at *
  have HX := hide hX
  clear hX
  clear eE hl' hd'
  generalize rAt s e = c at *
  conv => arg 2; whnf
  go_wp2_with (first | (go_at_call 90; refine (hrune _).mono ?_; rintro e' w' ⟨rfl, rfl⟩) | (go_at_call 91; refine (HL _).mono ?_; rintro e' w' ⟨rfl, rfl⟩) | (go_at_call 92; refine (HD _).mono ?_; rintro e' w' ⟨rfl, rfl⟩) | (go_at_call 93; refine (HN _ (unhide hW).words).mono ?_; rintro e1 w1 ⟨rfl, hb⟩; have q4 := (unhide hT).later hb; obtain ⟨c0, c1, c2, c3, g0, g1, g2, g3⟩ := f4 q4; have Q4 := hide q4; clear q4; have W4 := hide ((unhide hW).later hb)))
  apply wp_goto
  show ∃ m', J28 s R w0 5 m' _ _ ∧ m' < left s.size 2 k e
  refine ⟨_, ⟨k, e, 0, acc, v, ⟨X, 0, s.extract k e, 0⟩, ⟨rfl, rfl, rfl, rfl, rfl, rfl, rfl, rfl, rfl, rfl, rfl⟩, (unhide W4).set4 _ _ _ _, (unhide Q4).set4 _ _ _ _, rfl, ⟨hlt, unhide hR, unhide hS, by rw [tokCode, if_pos (unhide hl), unhide HE, if_neg h8], fun h => ⟨by rw [tokEnd, if_pos (unhide hl), unhide HE], ?_⟩⟩⟩, ?_⟩
  · rw [tokAt, if_pos (unhide hl), nameTok, unhide HE, unhide HX]
    exact (unhide Q4).set4 _ _ _ _
  · simp only [left]
    omega

set_option maxHeartbeats 4000000 in
set_option maxRecDepth 100000 in
theorem pass3_dig (s : ByteArray) (R : List Tok × Int × Int) (w0 : World) (hs : s.size ≤ 3000) (a : Act) (wr : World) (k e : Nat) (code : Int) (acc : List Tok) (v : Value) (T : Tok)
    (hF : Fr s w0 v code (k : Int) (e : Int) a) (hW : Hid (Wf s w0 acc v wr)) (hT : Hid (Tc w0 T wr)) (hlt : k < s.size) (hR : Hid (lexFrom s k acc = R)) (hS : Hid (skip s k = k)) (hl : Hid (isLet (gb s k) = false)) (hd : Hid (isDig (gb s k) = true)) (hke : k < e) (hes : e ≤ s.size) (hE : Hid (digEnd s e = digEnd s k)) (h2 : e < s.size) (hd' : isDig (rAt s e) = true) :
    (tail28 3).wp Tryz.prog (jumps (fun l' a' w' => ∃ m', J28 s R w0 l' m' a' w' ∧ m' < left s.size 3 k e) (bodyPost Tryz.prog Tryz.f57 (Out R w0))) a wr := by
  obtain ⟨u, rfl⟩ := fr_open hF
  clear hF
  have hrune := fun w => runeAt_any s e w (by omega)
  have HD : ∀ w, Calls Tryz.prog 92 #[.int .i32 (rAt s e)] w fun e' w' => e' = .returned (.bool true) ∧ w' = w := fun w => by
    have := isDigit_any (rAt s e) w
    rwa [hd'] at this
  have eE := (digEnd_go s e h2 (by rw [← rAt_in s e h2, hd'])).symm.trans (unhide hE)
  have HE := hide eE
  clear eE hd'
  generalize rAt s e = c at *
  conv => arg 2; whnf
  go_wp2_with (first | (go_at_call 90; refine (hrune _).mono ?_; rintro e' w' ⟨rfl, rfl⟩) | (go_at_call 92; refine (HD _).mono ?_; rintro e' w' ⟨rfl, rfl⟩))
  apply wp_goto
  show ∃ m', J28 s R w0 3 m' _ _ ∧ m' < left s.size 3 k e
  refine ⟨_, ⟨k, e + 1, code, acc, v, T, ⟨rfl, rfl, rfl, rfl, rfl, rfl, rfl, rfl, rfl, rfl, rfl⟩, unhide hW, unhide hT, rfl, ⟨hlt, unhide hR, unhide hS, unhide hl, unhide hd, by omega, by omega, unhide HE⟩⟩, ?_⟩
  simp only [left]
  omega

set_option maxHeartbeats 4000000 in
set_option maxRecDepth 100000 in
theorem pass3_bad (s : ByteArray) (R : List Tok × Int × Int) (w0 : World) (hs : s.size ≤ 3000) (a : Act) (wr : World) (k e : Nat) (code : Int) (acc : List Tok) (v : Value) (T : Tok)
    (hF : Fr s w0 v code (k : Int) (e : Int) a) (hW : Hid (Wf s w0 acc v wr)) (hT : Hid (Tc w0 T wr)) (hlt : k < s.size) (hR : Hid (lexFrom s k acc = R)) (hS : Hid (skip s k = k)) (hl : Hid (isLet (gb s k) = false)) (hd : Hid (isDig (gb s k) = true)) (hke : k < e) (hes : e ≤ s.size) (hE : Hid (digEnd s e = digEnd s k)) (hd' : isDig (rAt s e) = false) (h8 : value (s.extract k e) < 0) :
    (tail28 3).wp Tryz.prog (jumps (fun l' a' w' => ∃ m', J28 s R w0 l' m' a' w' ∧ m' < left s.size 3 k e) (bodyPost Tryz.prog Tryz.f57 (Out R w0))) a wr := by
  obtain ⟨u, rfl⟩ := fr_open hF
  clear hF
  have hrune := fun w => runeAt_any s e w (by omega)
  have HD : ∀ w, Calls Tryz.prog 92 #[.int .i32 (rAt s e)] w fun e' w' => e' = .returned (.bool false) ∧ w' = w := fun w => by
    have := isDigit_any (rAt s e) w
    rwa [hd'] at this
  have eE : digEnd s k = e := by
    rw [← unhide hE]
    by_cases h2 : e < s.size
    · rw [rAt_in s e h2] at hd'
      exact digEnd_stop s e hd'
    · exact digEnd_end s e h2
  have HE := hide eE
  have hsz : (s.extract k e).size = e - k := by simp; omega
  have hall : allDig (s.extract k e) := by
    have := allDig_cut s k
    rwa [eE] at this
  have HN : ∀ w, Calls Tryz.prog 94 #[.string (s.extract k e)] w fun e1 w' => e1 = .returned (.tuple #[.agg #[.int .i64 0, .int .i64 0, .string ⟨#[]⟩, .int .i64 0], .int .i64 4]) ∧ Below w.heap.size w w' := fun w => by
    refine (numToken_any (s.extract k e) w (by omega) (by omega) hall).mono ?_
    rintro e1 w1 ⟨⟨hv, rfl⟩ | ⟨hv, rfl⟩, hb⟩
    · first | exact ⟨rfl, hb⟩ | omega
    · first | exact ⟨rfl, hb⟩ | omega
  have H8 := hide h8
  clear eE hd' hall h8
  generalize rAt s e = c at *
  conv => arg 2; whnf
  go_wp2_with (first | (go_at_call 90; refine (hrune _).mono ?_; rintro e' w' ⟨rfl, rfl⟩) | (go_at_call 92; refine (HD _).mono ?_; rintro e' w' ⟨rfl, rfl⟩) | (go_at_call 94; refine (HN _).mono ?_; rintro e1 w1 ⟨rfl, hb⟩; have q4 := (unhide hT).later hb; obtain ⟨c0, c1, c2, c3, g0, g1, g2, g3⟩ := f4 q4; have Q4 := hide q4; clear q4; have W4 := hide ((unhide hW).later hb)))
  apply wp_goto
  show ∃ m', J28 s R w0 5 m' _ _ ∧ m' < left s.size 3 k e
  refine ⟨_, ⟨k, e, 4, acc, v, ⟨0, 0, ⟨#[]⟩, 0⟩, ⟨rfl, rfl, rfl, rfl, rfl, rfl, rfl, rfl, rfl, rfl, rfl⟩, (unhide W4).set4 _ _ _ _, (unhide Q4).set4 _ _ _ _, rfl, ⟨hlt, unhide hR, unhide hS, by rw [tokCode, if_neg (by rw [unhide hl]; exact Bool.false_ne_true), if_pos (unhide hd), unhide HE, if_pos (unhide H8)], fun h => by omega⟩⟩, ?_⟩
  simp only [left]
  omega

set_option maxHeartbeats 4000000 in
set_option maxRecDepth 100000 in
theorem pass3_good (s : ByteArray) (R : List Tok × Int × Int) (w0 : World) (hs : s.size ≤ 3000) (a : Act) (wr : World) (k e : Nat) (code : Int) (acc : List Tok) (v : Value) (T : Tok)
    (hF : Fr s w0 v code (k : Int) (e : Int) a) (hW : Hid (Wf s w0 acc v wr)) (hT : Hid (Tc w0 T wr)) (hlt : k < s.size) (hR : Hid (lexFrom s k acc = R)) (hS : Hid (skip s k = k)) (hl : Hid (isLet (gb s k) = false)) (hd : Hid (isDig (gb s k) = true)) (hke : k < e) (hes : e ≤ s.size) (hE : Hid (digEnd s e = digEnd s k)) (hd' : isDig (rAt s e) = false) (h8 : 0 ≤ value (s.extract k e)) :
    (tail28 3).wp Tryz.prog (jumps (fun l' a' w' => ∃ m', J28 s R w0 l' m' a' w' ∧ m' < left s.size 3 k e) (bodyPost Tryz.prog Tryz.f57 (Out R w0))) a wr := by
  obtain ⟨u, rfl⟩ := fr_open hF
  clear hF
  have hrune := fun w => runeAt_any s e w (by omega)
  have HD : ∀ w, Calls Tryz.prog 92 #[.int .i32 (rAt s e)] w fun e' w' => e' = .returned (.bool false) ∧ w' = w := fun w => by
    have := isDigit_any (rAt s e) w
    rwa [hd'] at this
  have eE : digEnd s k = e := by
    rw [← unhide hE]
    by_cases h2 : e < s.size
    · rw [rAt_in s e h2] at hd'
      exact digEnd_stop s e hd'
    · exact digEnd_end s e h2
  have HE := hide eE
  have hsz : (s.extract k e).size = e - k := by simp; omega
  have hall : allDig (s.extract k e) := by
    have := allDig_cut s k
    rwa [eE] at this
  have HN : ∀ w, Calls Tryz.prog 94 #[.string (s.extract k e)] w fun e1 w' => e1 = .returned (.tuple #[.agg #[.int .i64 2, .int .i64 0, .string (s.extract k e), .int .i64 (value (s.extract k e))], .int .i64 0]) ∧ Below w.heap.size w w' := fun w => by
    refine (numToken_any (s.extract k e) w (by omega) (by omega) hall).mono ?_
    rintro e1 w1 ⟨⟨hv, rfl⟩ | ⟨hv, rfl⟩, hb⟩
    · first | exact ⟨rfl, hb⟩ | omega
    · first | exact ⟨rfl, hb⟩ | omega
  have H8 := hide h8
  clear eE hd' hall h8
  generalize rAt s e = c at *
  conv => arg 2; whnf
  go_wp2_with (first | (go_at_call 90; refine (hrune _).mono ?_; rintro e' w' ⟨rfl, rfl⟩) | (go_at_call 92; refine (HD _).mono ?_; rintro e' w' ⟨rfl, rfl⟩) | (go_at_call 94; refine (HN _).mono ?_; rintro e1 w1 ⟨rfl, hb⟩; have q4 := (unhide hT).later hb; obtain ⟨c0, c1, c2, c3, g0, g1, g2, g3⟩ := f4 q4; have Q4 := hide q4; clear q4; have W4 := hide ((unhide hW).later hb)))
  apply wp_goto
  show ∃ m', J28 s R w0 5 m' _ _ ∧ m' < left s.size 3 k e
  refine ⟨_, ⟨k, e, 0, acc, v, ⟨2, 0, s.extract k e, value (s.extract k e)⟩, ⟨rfl, rfl, rfl, rfl, rfl, rfl, rfl, rfl, rfl, rfl, rfl⟩, (unhide W4).set4 _ _ _ _, (unhide Q4).set4 _ _ _ _, rfl, ⟨hlt, unhide hR, unhide hS, by rw [tokCode, if_neg (by rw [unhide hl]; exact Bool.false_ne_true), if_pos (unhide hd), unhide HE, if_neg (by have := unhide H8; omega)], fun h => ⟨by rw [tokEnd, if_neg (by rw [unhide hl]; exact Bool.false_ne_true), if_pos (unhide hd), unhide HE], ?_⟩⟩⟩, ?_⟩
  · rw [tokAt, if_neg (by rw [unhide hl]; exact Bool.false_ne_true), if_pos (unhide hd), numTok, unhide HE]
    exact (unhide Q4).set4 _ _ _ _
  · simp only [left]
    omega

/-- The code behind the last label. -/
noncomputable def told28 : Code := match tail28 5 with | .seq _ x => x | _ => .skip
theorem tail5 : tail28 5 = .seq .skip told28 := rfl
theorem two_new (w : World) (a b : Value) (t : TypeId) : (w.alloc (.cells #[a, b] t)).cell? ⟨w.heap.size, 0, none⟩ = some a ∧ (w.alloc (.cells #[a, b] t)).cell? ⟨w.heap.size, 1, none⟩ = some b :=
  ⟨cell_of (one_first w _) rfl, cell_of (one_first w _) rfl⟩

set_option maxHeartbeats 4000000 in
set_option maxRecDepth 100000 in
theorem told_bad (s : ByteArray) (R : List Tok × Int × Int) (w0 : World) (hs : s.size ≤ 3000) (a : Act) (wr : World) (k e : Nat) (code : Int) (acc : List Tok) (v : Value) (T : Tok) (M : Nat) (hM : left s.size 5 k e ≤ M)
    (hF : Fr s w0 v code (k : Int) (e : Int) a) (hW : Hid (Wf s w0 acc v wr)) (hT : Hid (Tc w0 T wr)) (hlt : k < s.size) (hR : Hid (lexFrom s k acc = R)) (hS : Hid (skip s k = k)) (hC : Hid (code = tokCode s k)) (h0 : code ≠ 0) :
    told28.wp Tryz.prog (jumps (fun l' a' w' => ∃ m', J28 s R w0 l' m' a' w' ∧ m' < M) (bodyPost Tryz.prog Tryz.f57 (Out R w0))) a wr := by
  obtain ⟨u, rfl⟩ := fr_open hF
  clear hF
  obtain ⟨sa, sc, rfl⟩ := row_slice (unhide hW).row
  have eR : ([], code, (k : Int)) = R := by
    have := lexFrom_bad s k acc (by rw [unhide hS]; exact hlt)
    rw [unhide hS, ← unhide hC] at this
    exact (this h0).symm.trans (unhide hR)
  have g0 : (code != 0) = true := by simpa using h0
  have HO : ∀ (b : Nat) (w : World), w.cell? ⟨b, 0, none⟩ = some (.int .i64 code) → w.cell? ⟨b, 1, none⟩ = some (.int .i64 5) → Calls Tryz.prog 97 #[.slice (some ⟨b, 0, none⟩) 2 2] w fun e w' => e = .returned (.int .i64 code) ∧ w' = w := fun b w h1 h2 => by
    have := or_any b code 5 w h1 h2
    rwa [if_pos h0] at this
  have q0 := (unhide hW).fault
  have c0 : ∀ o, (wr.alloc o).cell? ⟨w0.heap.size, 0, none⟩ = some (.int .i64 0) := fun o => cell_of (at_alloc q0) rfl
  have c1 : ∀ o, (wr.alloc o).cell? ⟨w0.heap.size, 1, none⟩ = some (.int .i64 0) := fun o => cell_of (at_alloc q0) rfl
  have f0 : ∀ o, (wr.alloc o).frozen? ⟨w0.heap.size, 0, none⟩ = false := fun o => frozen_of (at_alloc q0)
  have f1 : ∀ o, (wr.alloc o).frozen? ⟨w0.heap.size, 1, none⟩ = false := fun o => frozen_of (at_alloc q0)
  have HQ := hide q0
  clear q0
  conv => arg 2; whnf
  go_wp2_with (go_at_call 97; refine (HO _ _ (two_new _ _ _ _).1 (two_new _ _ _ _).2).mono ?_; rintro e1 w1 ⟨rfl, rfl⟩)
  show bodyPost Tryz.prog Tryz.f57 (Out R w0) Exit.ret _ _
  refine bodyPost_ret (results_tmp_cell rfl _ _ w0.heap.size 25 _ (0, 0) _ rfl (at_same (at_same (at_alloc (unhide HQ)))) Tryz.underlying25 rfl (by kernel_rfl)) rfl ?_
  subst eR
  have hsz := (unhide hW).size
  exact ⟨_, rfl, ⟨rfl, .inl ⟨rfl, rfl⟩⟩, (((unhide hW).below.alloc (by omega) _).setCell (Nat.le_refl _) _).setCell (Nat.le_refl _) _⟩

set_option maxHeartbeats 4000000 in
set_option maxRecDepth 100000 in
theorem told_many (s : ByteArray) (R : List Tok × Int × Int) (w0 : World) (hs : s.size ≤ 3000) (a : Act) (wr : World) (k e : Nat) (code : Int) (acc : List Tok) (v : Value) (T : Tok) (M : Nat) (hM : left s.size 5 k e ≤ M)
    (hF : Fr s w0 v code (k : Int) (e : Int) a) (hW : Hid (Wf s w0 acc v wr)) (hT : Hid (Tc w0 T wr)) (hlt : k < s.size) (hR : Hid (lexFrom s k acc = R)) (hS : Hid (skip s k = k)) (hC : Hid ((0 : Int) = tokCode s k)) (hn : acc.length = 700) (h0 : code = 0) :
    told28.wp Tryz.prog (jumps (fun l' a' w' => ∃ m', J28 s R w0 l' m' a' w' ∧ m' < M) (bodyPost Tryz.prog Tryz.f57 (Out R w0))) a wr := by
  obtain ⟨u, rfl⟩ := fr_open hF
  clear hF
  obtain ⟨sa, sc, rfl⟩ := row_slice (unhide hW).row
  have eR : ([], (5 : Int), (k : Int)) = R := by
    have := lexFrom_many s k acc (by rw [unhide hS]; exact hlt)
    rw [unhide hS, ← unhide hC] at this
    exact (this rfl (by omega)).symm.trans (unhide hR)
  subst h0
  have g0 : ((acc.length : Int) == 700) = true := by simp; omega
  have HO : ∀ (b : Nat) (w : World), w.cell? ⟨b, 0, none⟩ = some (.int .i64 0) → w.cell? ⟨b, 1, none⟩ = some (.int .i64 5) → Calls Tryz.prog 97 #[.slice (some ⟨b, 0, none⟩) 2 2] w fun e w' => e = .returned (.int .i64 5) ∧ w' = w := fun b w h1 h2 => by
    have := or_any b 0 5 w h1 h2
    rwa [if_neg (by omega)] at this
  have q0 := (unhide hW).fault
  have c0 : ∀ o, (wr.alloc o).cell? ⟨w0.heap.size, 0, none⟩ = some (.int .i64 0) := fun o => cell_of (at_alloc q0) rfl
  have c1 : ∀ o, (wr.alloc o).cell? ⟨w0.heap.size, 1, none⟩ = some (.int .i64 0) := fun o => cell_of (at_alloc q0) rfl
  have f0 : ∀ o, (wr.alloc o).frozen? ⟨w0.heap.size, 0, none⟩ = false := fun o => frozen_of (at_alloc q0)
  have f1 : ∀ o, (wr.alloc o).frozen? ⟨w0.heap.size, 1, none⟩ = false := fun o => frozen_of (at_alloc q0)
  have HQ := hide q0
  clear q0
  conv => arg 2; whnf
  go_wp2_with (go_at_call 97; refine (HO _ _ (two_new _ _ _ _).1 (two_new _ _ _ _).2).mono ?_; rintro e1 w1 ⟨rfl, rfl⟩)
  show bodyPost Tryz.prog Tryz.f57 (Out R w0) Exit.ret _ _
  refine bodyPost_ret (results_tmp_cell rfl _ _ w0.heap.size 25 _ (0, 0) _ rfl (at_same (at_same (at_alloc (unhide HQ)))) Tryz.underlying25 rfl (by kernel_rfl)) rfl ?_
  subst eR
  have hsz := (unhide hW).size
  exact ⟨_, rfl, ⟨rfl, .inl ⟨rfl, rfl⟩⟩, (((unhide hW).below.alloc (by omega) _).setCell (Nat.le_refl _) _).setCell (Nat.le_refl _) _⟩

set_option maxHeartbeats 4000000 in
set_option maxRecDepth 100000 in
theorem told_go (s : ByteArray) (R : List Tok × Int × Int) (w0 : World) (hs : s.size ≤ 3000) (a : Act) (wr : World) (k e : Nat) (code : Int) (acc : List Tok) (v : Value) (T : Tok) (M : Nat) (hM : left s.size 5 k e ≤ M)
    (hF : Fr s w0 v code (k : Int) (e : Int) a) (hW : Hid (Wf s w0 acc v wr)) (hT : Hid (Tc w0 T wr)) (hlt : k < s.size) (hR : Hid (lexFrom s k acc = R)) (hS : Hid (skip s k = k)) (hC : Hid ((0 : Int) = tokCode s k)) (hn : acc.length < 700) (h0 : code = 0) (hE : Hid (e = tokEnd s k)) (hTT : Hid (Tc w0 { tokAt s k with pos := 0 } wr)) :
    told28.wp Tryz.prog (jumps (fun l' a' w' => ∃ m', J28 s R w0 l' m' a' w' ∧ m' < M) (bodyPost Tryz.prog Tryz.f57 (Out R w0))) a wr := by
  obtain ⟨u, rfl⟩ := fr_open hF
  clear hF
  obtain ⟨sa, sc, rfl⟩ := row_slice (unhide hW).row
  subst h0
  obtain ⟨i0, hi, hz0, hz1, hz2⟩ := info_parts infoTok
  have eR : lexFrom s e (acc ++ [tokAt s k]) = R := by
    have := lexFrom_go s k acc (by rw [unhide hS]; exact hlt)
    rw [unhide hS, ← unhide hC, ← unhide hE] at this
    exact (this rfl (by omega)).symm.trans (unhide hR)
  have t1 := tokEnd_le s k hlt
  have t2 := lt_tokEnd s k hlt (unhide hC).symm
  rw [← unhide hE] at t1 t2
  have epos : (tokAt s k).pos = k := by unfold tokAt; split; rfl; split; rfl; rfl
  have hTc := unhide hTT
  clear hTT hC hR hE hT
  generalize tokAt s k = X at *
  obtain ⟨tk, tp, tx, tn⟩ := X
  simp only at epos
  subst epos
  have HR := hide eR
  clear eR
  have HT := hide hTc
  have hn1 : ((acc.length : Int) == 700) = false := by simp; omega
  obtain ⟨c0, c1, c2, c3, g0, g1, g2, g3⟩ := f4 hTc
  clear hTc
  have hsz := (unhide hW).size
  have hW1 := hide ((unhide hW).set 1 (.int .i64 (k : Int)))
  conv => arg 2; whnf
  go_wp2_with (at_builtin; refine wpList_append_own _ rfl _ _ 62 rfl (w0.heap.size + 3) 93 i0 (.agg #[.int .i64 0, .int .i64 0, .string ⟨#[]⟩, .int .i64 0]) 4 40 Tryz.underlying62 hi hz0 hz1 hz2 rfl (by decide) _ _ _ rfl ((unhide hW1).row.alloc _) ⟨wr.heap.size, 0, none⟩ 1 1 [.int .i64 tk, .int .i64 k, .string tx, .int .i64 tn] rfl rfl (by have := four_new (wr.setCell ⟨w0.heap.size + 1, 1, none⟩ (.int .i64 k)) (.int .i64 tk) (.int .i64 k) (.string tx) (.int .i64 tn) 93; simpa using this) (four_one _ _ _ _) (by unfold maxLen; omega) (by omega) (by simp; omega) ?_; intro v' w2 hown' hgrow hnil)
  obtain ⟨na, nc, rfl⟩ := row_slice hown'
  have hob : ∀ g, (Value.slice sa acc.length sc).ownBlock = some g → w0.heap.size + 3 ≤ g := row_block (unhide hW).row
  have hg2 := hgrow.size
  simp at hg2
  apply wp_goto
  show ∃ m', J28 s R w0 0 m' _ _ ∧ m' < M
  refine ⟨_, ⟨e, e, 0, acc ++ [⟨tk, k, tx, tn⟩], .slice na (acc.length + 1) nc, ⟨tk, k, tx, tn⟩, ⟨rfl, rfl, rfl, rfl, rfl, rfl, rfl, rfl, rfl, rfl, rfl⟩, ?_, ?_, rfl, by omega, unhide HR⟩, ?_⟩
  · have W1 := unhide hW1
    refine ⟨at_grown hgrow (at_alloc W1.fault) (fun g hg => by have := hob g hg; omega), ?_, ?_, ?_, by omega, by simp; omega, ?_, W1.big⟩
    · obtain ⟨es, clock, hh, r⟩ := W1.words
      exact ⟨es, clock, at_grown hgrow (at_alloc hh) (fun g hg => by have := hob g hg; omega), r⟩
    · have : rowOf (acc ++ [⟨tk, k, tx, tn⟩]) = rowOf acc ++ [.int .i64 tk, .int .i64 k, .string tx, .int .i64 tn] := rowOf_snoc _ _
      rw [this, List.length_append]
      exact hown'
    · exact (W1.below.alloc (by have := W1.size; omega) _).grown hgrow (by have := W1.size; simp; omega) (fun g hg => by have := hob g hg; omega)
    · obtain ⟨tt, fr, hh⟩ := W1.sg
      have hbig := W1.big
      exact ⟨tt, fr, at_grown hgrow (at_alloc hh) (fun g hg => by have := hob g hg; omega)⟩
  · exact at_grown hgrow (at_alloc (at_same (unhide HT))) (fun g hg => by have := hob g hg; omega)
  · have := left_next s.size k e (by omega) (by omega)
    refine Nat.lt_of_lt_of_le ?_ hM
    simp only [left]
    omega

theorem told_any (s : ByteArray) (R : List Tok × Int × Int) (w0 : World) (hs : s.size ≤ 3000) (a : Act) (wr : World) (k e : Nat) (code : Int) (acc : List Tok) (v : Value) (T : Tok) (M : Nat) (hM : left s.size 5 k e ≤ M)
    (hF : Fr s w0 v code (k : Int) (e : Int) a) (hW : Wf s w0 acc v wr) (hT : Tc w0 T wr) (hlt : k < s.size) (hR : lexFrom s k acc = R) (hS : skip s k = k) (hC : code = tokCode s k) (h5 : code = 0 → e = tokEnd s k ∧ Tc w0 { tokAt s k with pos := 0 } wr) :
    told28.wp Tryz.prog (jumps (fun l' a' w' => ∃ m', J28 s R w0 l' m' a' w' ∧ m' < M) (bodyPost Tryz.prog Tryz.f57 (Out R w0))) a wr := by
  by_cases h0 : code = 0
  · obtain ⟨h6, h7⟩ := h5 h0
    by_cases hn : acc.length < 700
    · exact told_go s R w0 hs a wr k e code acc v T M hM hF (hide hW) (hide hT) hlt (hide hR) (hide hS) (hide (h0 ▸ hC)) hn h0 (hide h6) (hide h7)
    · exact told_many s R w0 hs a wr k e code acc v T M hM hF (hide hW) (hide hT) hlt (hide hR) (hide hS) (hide (h0 ▸ hC)) (by have := hW.few; omega) h0
  · exact told_bad s R w0 hs a wr k e code acc v T M hM hF (hide hW) (hide hT) hlt (hide hR) (hide hS) (hide hC) h0

set_option maxHeartbeats 4000000 in
set_option maxRecDepth 100000 in
theorem pass4 (s : ByteArray) (R : List Tok × Int × Int) (w0 : World) (hs : s.size ≤ 3000) (a : Act) (wr : World) (k e : Nat) (code : Int) (acc : List Tok) (v : Value) (T : Tok)
    (hF : Fr s w0 v code (k : Int) (e : Int) a) (hW : Hid (Wf s w0 acc v wr)) (hT : Hid (Tc w0 T wr)) (hlt : k < s.size) (hR : Hid (lexFrom s k acc = R)) (hS : Hid (skip s k = k)) (hl : Hid (isLet (gb s k) = false)) (hd : Hid (isDig (gb s k) = false)) :
    (tail28 4).wp Tryz.prog (jumps (fun l' a' w' => ∃ m', J28 s R w0 l' m' a' w' ∧ m' < left s.size 4 k e) (bodyPost Tryz.prog Tryz.f57 (Out R w0))) a wr := by
  obtain ⟨u, rfl⟩ := fr_open hF
  clear hF
  have HS := fun w hg => implSign_any s k w (by omega) hg
  have HT := fun w => signToken_any (signAt s k) w
  have eT : tokAt s k = sgnTok s k := by rw [tokAt, if_neg (by rw [unhide hl]; exact Bool.false_ne_true), if_neg (by rw [unhide hd]; exact Bool.false_ne_true)]
  have eE : tokEnd s k = k + (signAt s k).size := by rw [tokEnd, if_neg (by rw [unhide hl]; exact Bool.false_ne_true), if_neg (by rw [unhide hd]; exact Bool.false_ne_true)]
  have eC : tokCode s k = if (signAt s k).size = 0 then 2 else 0 := by rw [tokCode, if_neg (by rw [unhide hl]; exact Bool.false_ne_true), if_neg (by rw [unhide hd]; exact Bool.false_ne_true)]
  have hsz := signAt_size s k hlt
  rw [sgnTok] at eT
  have HTT := hide eT
  have HEE := hide eE
  have HCC := hide eC
  clear eT eE eC
  generalize signAt s k = g at *
  generalize hX : (if g.size = 0 then (2 : Int) else 0) = X at *
  generalize hY : (if g.size = 0 then (0 : Int) else 4) = Y at *
  have HX := hide hX
  have HY := hide hY
  clear hX hY
  conv => arg 2; whnf
  go_wp2_with (first | (go_at_call 96; refine (HS _ (unhide hW).sg).mono ?_; rintro e' w' ⟨rfl, rfl⟩) | (go_at_call 95; refine (HT _).mono ?_; rintro e1 w1 ⟨rfl, hb⟩; have q4 := (unhide hT).later hb; obtain ⟨c0, c1, c2, c3, g0, g1, g2, g3⟩ := f4 q4; have Q4 := hide q4; clear q4; have W4 := hide ((unhide hW).later hb)))
  rename_i K hK
  apply wp_label
  refine hK _ _ ?_
  refine told_any s R w0 hs _ _ k (k + g.size) X acc v ⟨Y, 0, g, 0⟩ (left s.size 4 k e) ?_ ⟨rfl, rfl, rfl, rfl, rfl, rfl, rfl, rfl, rfl, rfl, rfl⟩ ((unhide W4).set4 _ _ _ _) ((unhide Q4).set4 _ _ _ _) hlt (unhide hR) (unhide hS) (by rw [unhide HCC]) ?_
  · simp only [left]
    omega
  · intro h
    have hg : ¬ g.size = 0 := by
      intro hg
      have := unhide HX
      rw [if_pos hg] at this
      omega
    have hY := unhide HY
    rw [if_neg hg] at hY
    refine ⟨by rw [unhide HEE], ?_⟩
    rw [unhide HTT, hY]
    exact (unhide Q4).set4 _ _ _ _

theorem head_any (s : ByteArray) (R : List Tok × Int × Int) (w0 : World) (hs : s.size ≤ 3000) (a : Act) (wr : World) (k e : Nat) (code : Int) (acc : List Tok) (v : Value) (T : Tok) (hF : Fr s w0 v code (k : Int) (e : Int) a) (hW : Wf s w0 acc v wr) (hT : Tc w0 T wr) (hS : k ≤ s.size ∧ lexFrom s k acc = R) :
    head28.wp Tryz.prog (jumps (fun l' a' w' => ∃ m', J28 s R w0 l' m' a' w' ∧ m' < left s.size 0 k e) (bodyPost Tryz.prog Tryz.f57 (Out R w0))) a wr := by
  obtain ⟨hk, hR⟩ := hS
  by_cases hlt : k < s.size
  · by_cases h1 : gb s k = 32 ∨ gb s k = 10
    · exact pass0_blank s R w0 hs a wr k e code acc v T hF (hide hW) (hide hT) (hide hR) hlt h1
    · by_cases h2 : gb s k = 35
      · exact pass0_hash s R w0 hs a wr k e code acc v T hF (hide hW) (hide hT) (hide hR) hlt h2
      · cases hl : isLet (gb s k) with
        | true => exact pass0_name s R w0 hs a wr k e code acc v T hF (hide hW) (hide hT) (hide hR) hlt h1 h2 hl
        | false =>
          cases hd : isDig (gb s k) with
          | true => exact pass0_num s R w0 hs a wr k e code acc v T hF (hide hW) (hide hT) (hide hR) hlt h1 h2 hl hd
          | false => exact pass0_sign s R w0 hs a wr k e code acc v T hF (hide hW) (hide hT) (hide hR) hlt h1 h2 hl hd
  · exact pass0_end s R w0 hs a wr k e code acc v T hF (hide hW) (hide hT) (hide hR) hlt

/-- A pass from each label. -/
theorem pass_any (s : ByteArray) (R : List Tok × Int × Int) (w0 : World) (hs : s.size ≤ 3000) (l m : Nat) (a : Act) (wr : World) (h : J28 s R w0 l m a wr) :
    ∃ rest, findLabel c28 l = some rest ∧ rest.wp Tryz.prog (jumps (fun l' a' w' => ∃ m', J28 s R w0 l' m' a' w' ∧ m' < m) (bodyPost Tryz.prog Tryz.f57 (Out R w0))) a wr := by
  obtain ⟨k, e, code, acc, v, T, hF, hW, hT, rfl, hS⟩ := h
  match l, hS with
  | 0, hS =>
    refine ⟨_, tail_some 0 (by omega), ?_⟩
    rw [tail0]
    refine wp_seq (wp_skip ?_)
    show head28.wp _ _ _ _
    exact head_any s R w0 hs a wr k e code acc v T hF hW hT hS
  | 1, hS =>
    refine ⟨_, tail_some 1 (by omega), ?_⟩
    obtain ⟨hlt, h10, hR⟩ := hS
    by_cases h2 : k + 1 < s.size
    · by_cases h3 : gb s (k + 1) = 10
      · exact pass1_line s R w0 hs a wr k e code acc v T hF (hide hW) (hide hT) hlt h10 (hide hR) h2 h3
      · exact pass1_more s R w0 hs a wr k e code acc v T hF (hide hW) (hide hT) hlt h10 (hide hR) h2 h3
    · exact pass1_end s R w0 hs a wr k e code acc v T hF (hide hW) (hide hT) hlt h10 (hide hR) h2
  | 2, hS =>
    refine ⟨_, tail_some 2 (by omega), ?_⟩
    obtain ⟨hlt, hR, hK, hl, hke, hes, hE⟩ := hS
    cases hl' : isLet (rAt s e) with
    | true =>
      have h2 : e < s.size := by
        by_cases h2 : e < s.size
        · exact h2
        · rw [rAt_out s e h2] at hl'; cases hl'
      exact pass2_let s R w0 hs a wr k e code acc v T hF (hide hW) (hide hT) hlt (hide hR) (hide hK) (hide hl) hke hes (hide hE) h2 hl'
    | false =>
      cases hd' : isDig (rAt s e) with
      | true =>
        have h2 : e < s.size := by
          by_cases h2 : e < s.size
          · exact h2
          · rw [rAt_out s e h2] at hd'; cases hd'
        exact pass2_dig s R w0 hs a wr k e code acc v T hF (hide hW) (hide hT) hlt (hide hR) (hide hK) (hide hl) hke hes (hide hE) h2 hl' hd'
      | false =>
        by_cases h8 : 8 < e - k
        · exact pass2_long s R w0 hs a wr k e code acc v T hF (hide hW) (hide hT) hlt (hide hR) (hide hK) (hide hl) hke hes (hide hE) hl' hd' h8
        · exact pass2_short s R w0 hs a wr k e code acc v T hF (hide hW) (hide hT) hlt (hide hR) (hide hK) (hide hl) hke hes (hide hE) hl' hd' h8
  | 3, hS =>
    refine ⟨_, tail_some 3 (by omega), ?_⟩
    obtain ⟨hlt, hR, hK, hl, hd, hke, hes, hE⟩ := hS
    cases hd' : isDig (rAt s e) with
    | true =>
      have h2 : e < s.size := by
        by_cases h2 : e < s.size
        · exact h2
        · rw [rAt_out s e h2] at hd'; cases hd'
      exact pass3_dig s R w0 hs a wr k e code acc v T hF (hide hW) (hide hT) hlt (hide hR) (hide hK) (hide hl) (hide hd) hke hes (hide hE) h2 hd'
    | false =>
      by_cases h8 : value (s.extract k e) < 0
      · exact pass3_bad s R w0 hs a wr k e code acc v T hF (hide hW) (hide hT) hlt (hide hR) (hide hK) (hide hl) (hide hd) hke hes (hide hE) hd' h8
      · exact pass3_good s R w0 hs a wr k e code acc v T hF (hide hW) (hide hT) hlt (hide hR) (hide hK) (hide hl) (hide hd) hke hes (hide hE) hd' (by omega)
  | 4, hS =>
    refine ⟨_, tail_some 4 (by omega), ?_⟩
    obtain ⟨hlt, hR, hK, hl, hd⟩ := hS
    exact pass4 s R w0 hs a wr k e code acc v T hF (hide hW) (hide hT) hlt (hide hR) (hide hK) (hide hl) (hide hd)
  | 5, hS =>
    refine ⟨_, tail_some 5 (by omega), ?_⟩
    obtain ⟨hlt, hR, hK, hC, h5⟩ := hS
    rw [tail5]
    refine wp_seq (wp_skip ?_)
    exact told_any s R w0 hs a wr k e code acc v T _ (Nat.le_refl _) hF hW hT hlt hR hK hC h5
  | n + 6, hS => exact hS.elim

set_option maxHeartbeats 4000000 in
set_option maxRecDepth 100000 in
theorem lexRead_any (s : ByteArray) (w : World) (hs : s.size ≤ 3000) (hg : Sg w) : Calls Tryz.prog 57 #[.string s] w (Out (lexFrom s 0 []) w) := by
  generalize hR : lexFrom s 0 [] = R
  go_enter Tryz.func57, Tryz.ntmps57
  go_wp2
  refine wp_scope_labels (J28 s R w) (left s.size 0 0 0) ?_ (fun l m a wr h => pass_any s R w hs l m a wr h)
  go_wp2_with (go_at_call 89; refine (lexWords_any _).mono ?_; rintro e w1 ⟨rfl, hown, hb, hs1⟩)
  rename_i K hK
  apply wp_label
  refine hK _ _ ?_
  show head28.wp _ _ _ _
  have hz := hg.size
  refine head_any s R w hs _ _ 0 0 0 [] (.slice none 0 0) ⟨0, 0, ⟨#[]⟩, 0⟩ ⟨rfl, rfl, rfl, rfl, rfl, rfl, rfl, rfl, rfl, rfl, rfl⟩ ?_ ?_ ⟨by omega, hR⟩
  · have hs2 : w.heap.size + 3 ≤ w1.heap.size := by simp at hs1; omega
    have b1 : Below w.heap.size w w1 := (below_two _ _ _).trans (hb.mono (by simp; omega))
    exact ⟨at_below hb (two_first _ _ _) (by simp; omega), by simpa using hown, ⟨rfl, .inl ⟨rfl, rfl⟩⟩, b1, hs2, by simp, hg.below b1 (by omega), hz⟩
  · have q := one_first (w.alloc (.cells #[.int .i64 0, .int .i64 0] 25)) (.cells #[.int .i64 0, .int .i64 0, .string ⟨#[]⟩, .int .i64 0] 93)
    have q2 := at_below hb q (by simp)
    show w1.heap[w.heap.size + 1]? = _
    simpa using q2

/-- The program's tokens of a text. -/
theorem implLex_any (s : ByteArray) (w : World) (hs : s.size ≤ 1048576) (hg : Sg w) : Calls Tryz.prog 37 #[.string s] w (Out (lexAll s) w) := by
  by_cases h : 3000 < s.size
  · have h' : 3000 < (s.size : Int) := by omega
    have e : lexAll s = ([], 1, 0) := by rw [lexAll, if_pos h]
    rw [e]
    go_enter Tryz.func37, Tryz.ntmps37
    go_wp2
    (try simp only [Exit.inBlock, Exit.then])
    refine bodyPost_ret (results_tmp_cell rfl _ _ w.heap.size 25 _ (0, 0) _ rfl (one_first _ _) Tryz.underlying25 rfl (by kernel_rfl)) rfl ?_
    exact ⟨_, rfl, ⟨rfl, .inl ⟨rfl, rfl⟩⟩, (Below.refl _ _).alloc (Nat.le_refl _) _⟩
  · have h' : ¬ 3000 < (s.size : Int) := by omega
    have e : lexAll s = lexFrom s 0 [] := by rw [lexAll, if_neg h]
    rw [e]
    have hr := fun w hg => lexRead_any s w (by omega) hg
    generalize lexFrom s 0 [] = R at *
    have hz := hg.size
    have hg1 : ∀ o, Sg (w.alloc o) := fun o => hg.below ((Below.refl _ w).alloc (Nat.le_refl _) o) hz
    go_enter Tryz.func37, Tryz.ntmps37
    go_wp2_with (go_at_call 57; refine (hr _ (hg1 _)).mono ?_; rintro e1 w1 ⟨v, rfl, hrow, hb⟩; have q0 := at_below hb (one_first _ _) (by simp); have HQ := hide q0; have c0 : w1.cell? ⟨w.heap.size, 0, none⟩ = some (.int .i64 0) := cell_of q0 rfl; have c1 : w1.cell? ⟨w.heap.size, 1, none⟩ = some (.int .i64 0) := cell_of q0 rfl; have f0 : w1.frozen? ⟨w.heap.size, 0, none⟩ = false := frozen_of q0; have f1 : w1.frozen? ⟨w.heap.size, 1, none⟩ = false := frozen_of q0; clear q0)
    (try simp only [Exit.inBlock, Exit.then])
    refine bodyPost_ret (results_tmp_cell rfl _ _ w.heap.size 25 _ (0, 0) _ rfl (at_same (at_same (unhide HQ))) Tryz.underlying25 rfl (by kernel_rfl)) rfl ?_
    have b1 : Below w.heap.size w w1 := ((Below.refl _ w).alloc (Nat.le_refl _) _).trans (hb.mono (by simp))
    exact ⟨_, rfl, row_mono (row_set (row_set hrow (by simp) _) (by simp) _) (by simp), (b1.setCell (Nat.le_refl _) _).setCell (Nat.le_refl _) _⟩

end Go.Proofs.YtjikjejfobnfnaaGreatDoor.lex
