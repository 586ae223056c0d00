/-
  Tokens compared.
  The model's reader of programs as plain functions: what each of its rules makes of a state.
  Where the model's reader of programs lies in memory, and its short rules: what each returns and makes of the reader.
  The reader's tests: whether the next token is a sign or word, or of a kind.
  The reader's short rules that turn it.
-/
import Derived.Test.YtjikjejfobnfnaaGreatDoorC08
import Derived.Deep.RegionWith
import Derived.BigRegion
import Derived.Test.YtjikjejfobnfnaaGreatDoorC05
import Derived.Deep.QuietTactic
import Derived.BigQuiet
namespace Go.Proofs.YtjikjejfobnfnaaGreatDoor.lex
open Go.RowKit Go.Proofs.YtjikjejfobnfnaaGreatDoor.num
set_option linter.unusedVariables false
theorem eqFault_same (c p : Int) (w : World) : Calls Tryz.prog 15 #[.agg #[.int .i64 c, .int .i64 p], .agg #[.int .i64 c, .int .i64 p]] w fun e w' => e = .returned (.bool true) ∧ Below w.heap.size w w' := by
  go_enter Tryz.func15, Tryz.ntmps15
  go_wp2
  go_ret
  exact ⟨rfl, below_two _ _ _⟩

theorem rowOf_get (l : List Tok) (j i : Nat) (t : Tok) (h : l[j]? = some t) (hi : i < 4) : (rowOf l)[j * 4 + i]? = t.cells[i]? := by
  induction l generalizing j with
  | nil => simp at h
  | cons a r ih =>
    cases j with
    | zero =>
      simp at h
      subst h
      have e : (rowOf (a :: r)) = a.cells ++ rowOf r := by simp [rowOf]
      rw [e, List.getElem?_append_left (by simp [Tok.cells]; omega)]
      simp
    | succ j =>
      have e : (rowOf (a :: r)) = a.cells ++ rowOf r := by simp [rowOf]
      rw [e, List.getElem?_append_right (by simp [Tok.cells]; omega)]
      have e2 : (j + 1) * 4 + i - a.cells.length = j * 4 + i := by simp [Tok.cells]; omega
      rw [e2]
      exact ih j (by simpa using h)
/-- A row that is not empty lies in a block; its cells read as the tokens. -/
theorem row_read {w : World} {base : Nat} {v : Value} {l : List Tok} (h : w.ownsRow base 93 4 v l.length (rowOf l)) (h0 : 0 < l.length) :
    ∃ g cap, v = .slice (some ⟨g, 0, none⟩) l.length cap ∧ base ≤ g ∧ l.length ≤ cap ∧ g < w.heap.size ∧ ∀ j t, l[j]? = some t → w.cell? ⟨g, j * 4, none⟩ = some (.int .i64 t.kind) ∧ w.cell? ⟨g, j * 4 + 1, none⟩ = some (.int .i64 t.pos) ∧ w.cell? ⟨g, j * 4 + 2, none⟩ = some (.string t.text) ∧ w.cell? ⟨g, j * 4 + 3, none⟩ = some (.int .i64 t.num) := by
  rcases h.2 with ⟨rfl, hn⟩ | ⟨g, cap, cur, rfl, hg, hh, hc, _, hsz, hx⟩
  · omega
  · refine ⟨g, cap, rfl, hg, hc, (Array.getElem?_eq_some_iff.1 hh).1, fun j t hj => ?_⟩
    have hl : j < l.length := by
      rcases List.getElem?_eq_some_iff.1 hj with ⟨h, _⟩
      exact h
    have key : ∀ i, i < 4 → cur[j * 4 + i]? = t.cells[i]? := fun i hi => by
      rw [← rowOf_get l j i t hj hi, ← hx, List.getElem?_take_of_lt (by omega), Array.getElem?_toList]
    have k0 := key 0 (by omega)
    have k1 := key 1 (by omega)
    have k2 := key 2 (by omega)
    have k3 := key 3 (by omega)
    exact ⟨cell_of hh k0, cell_of hh k1, cell_of hh k2, cell_of hh k3⟩

end Go.Proofs.YtjikjejfobnfnaaGreatDoor.lex
namespace Go.Proofs.YtjikjejfobnfnaaGreatDoor.par
open Go.RowKit Go.Proofs.YtjikjejfobnfnaaGreatDoor.num Go.Proofs.YtjikjejfobnfnaaGreatDoor.lex
set_option linter.unusedVariables false
/-- A node: its kids are places. -/
structure Nd where
  kind : Int
  pos : Int
  num : Int
  name : ByteArray
  kids : List Nat
/-- Where a reader stands: the next token, the nodes, the depth, the fault and its place. -/
structure S where
  p : Nat
  N : List Nd
  d : Int
  c : Int
  a : Int
def atP (ts : List Tok) (fin : Int) (s : S) : Int := (ts[s.p]?).elim fin Tok.pos
def failP (ts : List Tok) (fin : Int) (s : S) (code : Int) : S := if s.c = 0 then ⟨s.p, s.N, s.d, code, atP ts fin s⟩ else s
def isP (ts : List Tok) (s : S) (x : ByteArray) : Bool := decide (s.c = 0) && (ts[s.p]?).elim false (fun t => decide (t.text = x) && decide (3 ≤ t.kind))
def nextP (ts : List Tok) (s : S) (x : ByteArray) : Bool := (ts[s.p + 1]?).elim false (fun t => decide (t.text = x) && decide (t.kind = 4))
def kindP (ts : List Tok) (s : S) (k : Int) : Bool := decide (s.c = 0) && (ts[s.p]?).elim false (fun t => decide (t.kind = k))
def up (s : S) : S := ⟨s.p + 1, s.N, s.d, s.c, s.a⟩
def less (s : S) : S := ⟨s.p, s.N, wrap64 (s.d - 1), s.c, s.a⟩
def more (s : S) : S := ⟨s.p, s.N, wrap64 (s.d + 1), s.c, s.a⟩
def mustP (ts : List Tok) (fin : Int) (s : S) (x : ByteArray) : S := if isP ts s x then up s else failP ts fin s 6
def textP (ts : List Tok) (s : S) : ByteArray := (ts[s.p]?).elim ⟨#[]⟩ Tok.text
def numP (ts : List Tok) (s : S) : Int := (ts[s.p]?).elim 0 Tok.num
def nameP (ts : List Tok) (fin : Int) (s : S) : S := if kindP ts s 1 then up s else failP ts fin s 6
def nameT (ts : List Tok) (s : S) : ByteArray := if kindP ts s 1 then textP ts s else ⟨#[]⟩
def numberP (ts : List Tok) (fin : Int) (s : S) : S := if kindP ts s 2 then up s else failP ts fin s 6
def numberT (ts : List Tok) (s : S) : Int := if kindP ts s 2 then numP ts s else 0
def nodeP (s : S) (n : Nd) : Option (Nat × S) :=
  if s.c ≠ 0 then some (0, s) else if s.N.length < 1000000 then some (s.N.length, ⟨s.p, s.N ++ [n], s.d, s.c, s.a⟩) else none
def downP (ts : List Tok) (fin : Int) (s : S) : S := if 10 < (more s).d then failP ts fin (more s) 7 else more s
def signP (ts : List Tok) (s : S) : ByteArray := if kindP ts s 4 then textP ts s else ⟨#[]⟩
def opP (x : ByteArray) (n : Nat) : Int :=
  if n = 1 ∧ x = ⟨#[124]⟩ then 7 else
  if n = 2 ∧ x = ⟨#[94]⟩ then 8 else
  if n = 3 ∧ x = ⟨#[38]⟩ then 6 else
  if n = 4 ∧ x = ⟨#[60, 60]⟩ then 9 else
  if n = 4 ∧ x = ⟨#[62, 62]⟩ then 10 else
  if n = 5 ∧ x = ⟨#[43]⟩ then 1 else
  if n = 5 ∧ x = ⟨#[45]⟩ then 2 else
  if n = 5 ∧ x = ⟨#[43, 37]⟩ then 11 else
  if n = 5 ∧ x = ⟨#[45, 37]⟩ then 12 else
  if n = 6 ∧ x = ⟨#[42]⟩ then 3 else
  if n = 6 ∧ x = ⟨#[47]⟩ then 4 else
  if n = 6 ∧ x = ⟨#[37]⟩ then 5 else
  if n = 6 ∧ x = ⟨#[42, 37]⟩ then 13 else 0
def cmpP (x : ByteArray) : Int :=
  if x = ⟨#[61, 61]⟩ then 1 else if x = ⟨#[33, 61]⟩ then 2 else if x = ⟨#[60]⟩ then 3 else if x = ⟨#[60, 61]⟩ then 4 else if x = ⟨#[62]⟩ then 5 else if x = ⟨#[62, 61]⟩ then 6 else 0
/-- The rules that call one another. -/
inductive Cmd where
  | primary | unary | level (n : Nat) | last | both | cond | block | named | branch | statement | function
abbrev Rec := Cmd → S → Option (Nat × S)
def primaryF (ts : List Tok) (fin : Int) (R : Rec) (s : S) : Option (Nat × S) :=
  if kindP ts s 2 then nodeP (numberP ts fin s) ⟨24, atP ts fin s, numberT ts s, ⟨#[]⟩, []⟩
  else if isP ts s ⟨#[40]⟩ then
    if (downP ts fin (up s)).c = 0 then
      match R (.level 1) (downP ts fin (up s)) with
      | none => none
      | some (x, s1) => some (x, mustP ts fin (less s1) ⟨#[41]⟩)
    else some (0, downP ts fin (up s))
  else if isP ts s ⟨#[42]⟩ then nodeP (nameP ts fin (up s)) ⟨27, atP ts fin s, 0, nameT ts (up s), []⟩
  else if isP ts (nameP ts fin s) ⟨#[91]⟩ then
    if (downP ts fin (up (nameP ts fin s))).c = 0 then
      match R (.level 1) (downP ts fin (up (nameP ts fin s))) with
      | none => none
      | some (x, s1) => nodeP (mustP ts fin (less s1) ⟨#[93]⟩) ⟨26, atP ts fin s, 0, nameT ts s, [x]⟩
    else some (0, downP ts fin (up (nameP ts fin s)))
  else nodeP (nameP ts fin s) ⟨25, atP ts fin s, 0, nameT ts s, []⟩
def unaryF (ts : List Tok) (fin : Int) (R : Rec) (s : S) : Option (Nat × S) :=
  if isP ts s ⟨#[45]⟩ then
    if (downP ts fin (up s)).c = 0 then
      match nodeP (downP ts fin (up s)) ⟨24, atP ts fin s, 0, ⟨#[]⟩, []⟩ with
      | none => none
      | some (z, s1) =>
        match R .unary s1 with
        | none => none
        | some (x, s2) => nodeP (less s2) ⟨28, atP ts fin s, 2, ⟨#[]⟩, [z, x]⟩
    else some (0, downP ts fin (up s))
  else R .primary s
def levelL (ts : List Tok) (fin : Int) (R : Rec) (n : Nat) : Nat → Nat → S → Option (Nat × S)
  | 0, _, _ => none
  | f + 1, x, s =>
    if s.c = 0 then
      if opP (signP ts s) n = 0 then some (x, s)
      else
        match R (.level (n + 1)) (up s) with
        | none => none
        | some (y, s1) =>
          match nodeP s1 ⟨28, atP ts fin s, opP (signP ts s) n, ⟨#[]⟩, [x, y]⟩ with
          | none => none
          | some (z, s2) => levelL ts fin R n f z s2
    else some (x, s)
def levelF (ts : List Tok) (fin : Int) (R : Rec) (n : Nat) (s : S) : Option (Nat × S) :=
  if 6 < n then R .unary s
  else
    match R (.level (n + 1)) s with
    | none => none
    | some (x, s1) => levelL ts fin R n 1000 x s1
def lastF (ts : List Tok) (fin : Int) (R : Rec) (s : S) : Option (Nat × S) :=
  if isP ts s ⟨#[110, 111, 116]⟩ then
    if (downP ts fin (up s)).c = 0 then
      match R .last (downP ts fin (up s)) with
      | none => none
      | some (x, s1) => nodeP (less s1) ⟨33, atP ts fin s, 0, ⟨#[]⟩, [x]⟩
    else some (0, downP ts fin (up s))
  else if isP ts s ⟨#[91]⟩ then
    if (downP ts fin (up s)).c = 0 then
      match R .cond (downP ts fin (up s)) with
      | none => none
      | some (x, s1) => some (x, mustP ts fin (less s1) ⟨#[93]⟩)
    else some (0, downP ts fin (up s))
  else if isP ts s ⟨#[110, 117, 108, 108]⟩ then nodeP (nameP ts fin (up s)) ⟨34, atP ts fin s, 0, nameT ts (up s), []⟩
  else
    match R (.level 1) s with
    | none => none
    | some (x, s1) =>
      if cmpP (signP ts s1) = 0 then some (0, failP ts fin s1 6)
      else
        match R (.level 1) (up s1) with
        | none => none
        | some (y, s2) => nodeP s2 ⟨30, atP ts fin s1, cmpP (signP ts s1), ⟨#[]⟩, [x, y]⟩
/-- Conditions joined by a word. -/
def joinL (ts : List Tok) (fin : Int) (R : Rec) (word : ByteArray) (k : Int) (c : Cmd) : Nat → Nat → S → Option (Nat × S)
  | 0, _, _ => none
  | f + 1, x, s =>
    if isP ts s word then
      match R c (up s) with
      | none => none
      | some (y, s1) =>
        match nodeP s1 ⟨k, atP ts fin s, 0, ⟨#[]⟩, [x, y]⟩ with
        | none => none
        | some (z, s2) => joinL ts fin R word k c f z s2
    else some (x, s)
def bothF (ts : List Tok) (fin : Int) (R : Rec) (s : S) : Option (Nat × S) :=
  match R .last s with
  | none => none
  | some (x, s1) => joinL ts fin R ⟨#[97, 110, 100]⟩ 31 .last 1000 x s1
def condF (ts : List Tok) (fin : Int) (R : Rec) (s : S) : Option (Nat × S) :=
  match R .both s with
  | none => none
  | some (x, s1) => joinL ts fin R ⟨#[111, 114]⟩ 32 .both 1000 x s1
/-- Statements up to a brace. -/
def stmtsL (ts : List Tok) (fin : Int) (R : Rec) : Nat → List Nat → S → Option (List Nat × S)
  | 0, _, _ => none
  | f + 1, l, s =>
    if s.c = 0 then
      if isP ts s ⟨#[125]⟩ then some (l, s)
      else
        match R .statement s with
        | none => none
        | some (x, s1) => stmtsL ts fin R f (l ++ [x]) s1
    else some (l, s)
def blockF (ts : List Tok) (fin : Int) (R : Rec) (s : S) : Option (Nat × S) :=
  if (downP ts fin (mustP ts fin s ⟨#[123]⟩)).c = 0 then
    match stmtsL ts fin R 1000 [] (downP ts fin (mustP ts fin s ⟨#[123]⟩)) with
    | none => none
    | some (l, s1) => nodeP (mustP ts fin (less s1) ⟨#[125]⟩) ⟨8, atP ts fin s, 0, ⟨#[]⟩, l⟩
  else some (0, downP ts fin (mustP ts fin s ⟨#[123]⟩))
def useF (ts : List Tok) (fin : Int) (s : S) : Option (Nat × S) := nodeP (nameP ts fin s) ⟨23, atP ts fin s, 0, nameT ts s, []⟩
/-- The terms of a call. -/
def argsL (ts : List Tok) (fin : Int) (R : Rec) : Nat → List Nat → S → Option (List Nat × S)
  | 0, _, _ => none
  | f + 1, l, s =>
    if s.c = 0 then
      if isP ts s ⟨#[41]⟩ then some (l, s)
      else
        match R (.level 1) (if 1 < l.length then mustP ts fin s ⟨#[44]⟩ else s) with
        | none => none
        | some (x, s1) => argsL ts fin R f (l ++ [x]) s1
    else some (l, s)
def setF (ts : List Tok) (fin : Int) (R : Rec) (at0 : Int) (n : ByteArray) (s : S) : Option (Nat × S) :=
  if isP ts s ⟨#[38]⟩ then
    match useF ts fin (up s) with
    | none => none
    | some (u, s1) =>
      match R (.level 1) (mustP ts fin s1 ⟨#[91]⟩) with
      | none => none
      | some (x, s2) => nodeP (mustP ts fin (mustP ts fin s2 ⟨#[93]⟩) ⟨#[59]⟩) ⟨12, at0, 0, n, [u, x]⟩
  else if kindP ts s 1 && nextP ts s ⟨#[40]⟩ then
    match useF ts fin s with
    | none => none
    | some (u, s1) =>
      match argsL ts fin R 1000 [u] (mustP ts fin s1 ⟨#[40]⟩) with
      | none => none
      | some (l, s2) => nodeP (mustP ts fin (mustP ts fin s2 ⟨#[41]⟩) ⟨#[59]⟩) ⟨22, at0, 0, n, l⟩
  else if isP ts s ⟨#[110, 117, 108, 108]⟩ then
    match nodeP s ⟨29, atP ts fin s, 0, ⟨#[]⟩, []⟩ with
    | none => none
    | some (x, s1) => nodeP (mustP ts fin (up s1) ⟨#[59]⟩) ⟨9, at0, 0, n, [x]⟩
  else
    match R (.level 1) s with
    | none => none
    | some (x, s1) => nodeP (mustP ts fin s1 ⟨#[59]⟩) ⟨9, at0, 0, n, [x]⟩
def namedF (ts : List Tok) (fin : Int) (R : Rec) (s : S) : Option (Nat × S) :=
  if isP ts (nameP ts fin s) ⟨#[91]⟩ then
    match R (.level 1) (up (nameP ts fin s)) with
    | none => none
    | some (x, s1) =>
      match R (.level 1) (mustP ts fin (mustP ts fin s1 ⟨#[93]⟩) ⟨#[61]⟩) with
      | none => none
      | some (y, s2) => nodeP (mustP ts fin s2 ⟨#[59]⟩) ⟨10, atP ts fin s, 0, nameT ts s, [x, y]⟩
  else if isP ts (nameP ts fin s) ⟨#[43, 61]⟩ then
    match R (.level 1) (up (nameP ts fin s)) with
    | none => none
    | some (x, s1) => nodeP (mustP ts fin s1 ⟨#[59]⟩) ⟨13, atP ts fin s, 0, nameT ts s, [x]⟩
  else setF ts fin R (atP ts fin s) (nameT ts s) (mustP ts fin (nameP ts fin s) ⟨#[61]⟩)
def forF (ts : List Tok) (fin : Int) (R : Rec) (s : S) : Option (Nat × S) :=
  match R (.level 1) (mustP ts fin (nameP ts fin s) ⟨#[61]⟩) with
  | none => none
  | some (x, s1) =>
    match R (.level 1) (mustP ts fin s1 ⟨#[46, 46]⟩) with
    | none => none
    | some (y, s2) =>
      match R .block s2 with
      | none => none
      | some (b, s3) => nodeP s3 ⟨16, atP ts fin s, 0, nameT ts s, [x, y, b]⟩
def branchF (ts : List Tok) (fin : Int) (R : Rec) (s : S) : Option (Nat × S) :=
  if isP ts s ⟨#[105, 102]⟩ then
    match R .cond (up s) with
    | none => none
    | some (c, s1) =>
      match R .block s1 with
      | none => none
      | some (b, s2) =>
        if isP ts s2 ⟨#[101, 108, 115, 101]⟩ then
          match R .block (up s2) with
          | none => none
          | some (e, s3) => nodeP s3 ⟨14, atP ts fin s, 0, ⟨#[]⟩, [c, b, e]⟩
        else nodeP s2 ⟨14, atP ts fin s, 0, ⟨#[]⟩, [c, b]⟩
  else if isP ts s ⟨#[119, 104, 105, 108, 101]⟩ then
    match R .cond (up s) with
    | none => none
    | some (c, s1) =>
      match R .block s1 with
      | none => none
      | some (b, s2) => nodeP s2 ⟨15, atP ts fin s, 0, ⟨#[]⟩, [c, b]⟩
  else forF ts fin R (mustP ts fin s ⟨#[102, 111, 114]⟩)
def statementF (ts : List Tok) (fin : Int) (R : Rec) (s : S) : Option (Nat × S) :=
  if kindP ts s 1 then R .named s
  else if isP ts s ⟨#[105, 102]⟩ || isP ts s ⟨#[119, 104, 105, 108, 101]⟩ || isP ts s ⟨#[102, 111, 114]⟩ then R .branch s
  else if isP ts s ⟨#[42]⟩ then
    match R (.level 1) (mustP ts fin (nameP ts fin (up s)) ⟨#[61]⟩) with
    | none => none
    | some (x, s1) => nodeP (mustP ts fin s1 ⟨#[59]⟩) ⟨11, atP ts fin s, 0, nameT ts (up s), [x]⟩
  else if isP ts s ⟨#[114, 101, 97, 100]⟩ then nodeP (mustP ts fin (nameP ts fin (up s)) ⟨#[59]⟩) ⟨17, atP ts fin (up s), 0, nameT ts (up s), []⟩
  else if isP ts s ⟨#[112, 114, 105, 110, 116]⟩ then
    match R (.level 1) (up s) with
    | none => none
    | some (x, s1) => nodeP (mustP ts fin s1 ⟨#[59]⟩) ⟨18, atP ts fin s, 0, ⟨#[]⟩, [x]⟩
  else if isP ts s ⟨#[97, 115, 115, 101, 114, 116]⟩ then
    match R .cond (up s) with
    | none => none
    | some (x, s1) => nodeP (mustP ts fin s1 ⟨#[59]⟩) ⟨19, atP ts fin s, 0, ⟨#[]⟩, [x]⟩
  else if isP ts s ⟨#[115, 116, 111, 112]⟩ then nodeP (mustP ts fin (up s) ⟨#[59]⟩) ⟨20, atP ts fin s, 0, ⟨#[]⟩, []⟩
  else if isP ts s ⟨#[114, 101, 116, 117, 114, 110]⟩ then
    match R (.level 1) (up s) with
    | none => none
    | some (x, s1) => nodeP (mustP ts fin s1 ⟨#[59]⟩) ⟨21, atP ts fin s, 0, ⟨#[]⟩, [x]⟩
  else nodeP (mustP ts fin (failP ts fin s 6) ⟨#[59]⟩) ⟨0, atP ts fin s, 0, ⟨#[]⟩, []⟩
/-- A name that is declared. -/
def declF (ts : List Tok) (fin : Int) (k : Int) (s : S) : Option (Nat × S) := nodeP (nameP ts fin s) ⟨k, atP ts fin s, 0, nameT ts s, []⟩
def commaL (ts : List Tok) (fin : Int) (k : Int) : Nat → List Nat → S → Option (List Nat × S)
  | 0, _, _ => none
  | f + 1, l, s =>
    if isP ts s ⟨#[44]⟩ then
      match declF ts fin k (up s) with
      | none => none
      | some (x, s1) => commaL ts fin k f (l ++ [x]) s1
    else some (l, s)
def localsL (ts : List Tok) (fin : Int) : Nat → List Nat → S → Option (List Nat × S)
  | 0, _, _ => none
  | f + 1, l, s =>
    if isP ts s ⟨#[118, 97, 114]⟩ || isP ts s ⟨#[114, 101, 102]⟩ then
      match declF ts fin (if isP ts s ⟨#[114, 101, 102]⟩ then 7 else 6) (up s) with
      | none => none
      | some (x, s1) =>
        match commaL ts fin (if isP ts s ⟨#[114, 101, 102]⟩ then 7 else 6) 1000 (l ++ [x]) s1 with
        | none => none
        | some (l2, s2) => localsL ts fin f l2 (mustP ts fin s2 ⟨#[59]⟩)
    else some (l, s)
def paramsL (ts : List Tok) (fin : Int) : Nat → List Nat → S → Option (List Nat × S)
  | 0, _, _ => none
  | f + 1, l, s =>
    if s.c = 0 then
      if isP ts s ⟨#[41]⟩ then some (l, s)
      else
        match declF ts fin 5 (if 0 < l.length then mustP ts fin s ⟨#[44]⟩ else s) with
        | none => none
        | some (x, s1) => paramsL ts fin f (l ++ [x]) s1
    else some (l, s)
def functionF (ts : List Tok) (fin : Int) (R : Rec) (s : S) : Option (Nat × S) :=
  match paramsL ts fin 1000 [] (mustP ts fin (nameP ts fin s) ⟨#[40]⟩) with
  | none => none
  | some (ps, s1) =>
    if (downP ts fin (mustP ts fin (mustP ts fin s1 ⟨#[41]⟩) ⟨#[123]⟩)).c = 0 then
      match localsL ts fin 1000 [] (downP ts fin (mustP ts fin (mustP ts fin s1 ⟨#[41]⟩) ⟨#[123]⟩)) with
      | none => none
      | some (ls, s2) =>
        match stmtsL ts fin R 1000 [] s2 with
        | none => none
        | some (l, s3) =>
          match nodeP (mustP ts fin (less s3) ⟨#[125]⟩) ⟨8, atP ts fin (mustP ts fin s1 ⟨#[41]⟩), 0, ⟨#[]⟩, l⟩ with
          | none => none
          | some (b, s4) => nodeP s4 ⟨4, atP ts fin s, 0, nameT ts s, ps ++ ls ++ [b]⟩
    else some (0, downP ts fin (mustP ts fin (mustP ts fin s1 ⟨#[41]⟩) ⟨#[123]⟩))
def step (ts : List Tok) (fin : Int) (R : Rec) : Rec
  | .primary => primaryF ts fin R
  | .unary => unaryF ts fin R
  | .level n => levelF ts fin R n
  | .last => lastF ts fin R
  | .both => bothF ts fin R
  | .cond => condF ts fin R
  | .block => blockF ts fin R
  | .named => namedF ts fin R
  | .branch => branchF ts fin R
  | .statement => statementF ts fin R
  | .function => functionF ts fin R
def run (ts : List Tok) (fin : Int) : Nat → Rec
  | 0 => fun _ _ => none
  | f + 1 => step ts fin (run ts fin f)
/-- The declarations of a program. -/
def programL (ts : List Tok) (fin : Int) (R : Rec) : Nat → List Nat → S → Option (List Nat × S)
  | 0, _, _ => none
  | f + 1, l, s =>
    if s.c = 0 ∧ s.p < ts.length then
      if isP ts s ⟨#[97, 114, 114, 97, 121]⟩ then
        match nodeP (mustP ts fin (mustP ts fin (numberP ts fin (mustP ts fin (nameP ts fin (up s)) ⟨#[91]⟩)) ⟨#[93]⟩) ⟨#[59]⟩)
          ⟨2, atP ts fin (up s), numberT ts (mustP ts fin (nameP ts fin (up s)) ⟨#[91]⟩), nameT ts (up s), []⟩ with
        | none => none
        | some (x, s1) => programL ts fin R f (l ++ [x]) s1
      else if isP ts s ⟨#[118, 97, 114]⟩ then
        match nodeP (mustP ts fin (nameP ts fin (up s)) ⟨#[59]⟩) ⟨3, atP ts fin (up s), 0, nameT ts (up s), []⟩ with
        | none => none
        | some (x, s1) => programL ts fin R f (l ++ [x]) s1
      else
        match R .function (mustP ts fin s ⟨#[102, 117, 110, 99]⟩) with
        | none => none
        | some (x, s1) => programL ts fin R f (l ++ [x]) s1
    else some (l, s)
def programF (ts : List Tok) (fin : Int) (R : Rec) (s : S) : Option S :=
  match programL ts fin R 1000 [] s with
  | none => none
  | some (l, s1) =>
    match nodeP s1 ⟨1, 0, 0, ⟨#[]⟩, l⟩ with
    | none => none
    | some (_, s2) => some s2
section
/-- What stays while a text is read: the world ahead of it, the reader's block, the tokens and where they lie, the text's end. -/
structure Cx where
  W : World
  B : Nat
  ta : Option Addr
  tc : Nat
  ts : List Tok
  fin : Int
structure Cx.Ok (x : Cx) : Prop where
  len : x.ts.length ≤ 700
  cap : x.ts.length ≤ x.tc
  size : x.B ≤ x.W.heap.size
  tok : ∀ j t, x.ts[j]? = some t → ∃ g, x.ta = some ⟨g, 0, none⟩ ∧ g < x.B ∧ x.W.cell? ⟨g, j * 4, none⟩ = some (.int .i64 t.kind) ∧ x.W.cell? ⟨g, j * 4 + 1, none⟩ = some (.int .i64 t.pos) ∧ x.W.cell? ⟨g, j * 4 + 2, none⟩ = some (.string t.text) ∧ x.W.cell? ⟨g, j * 4 + 3, none⟩ = some (.int .i64 t.num)
def ints (l : List Nat) : List Value := l.map fun (k : Nat) => Value.int .i64 (k : Int)
def nCells (m : Nd × Value) : List Value := [.int .i64 m.1.kind, .int .i64 m.1.pos, .int .i64 m.1.num, .string m.1.name, m.2]
def flatN (M : List (Nd × Value)) : List Value := M.flatMap nCells
theorem flatN_snoc (M : List (Nd × Value)) (m : Nd × Value) : flatN (M ++ [m]) = flatN M ++ nCells m := by simp [flatN]
/-- The reader's cells. -/
def rdCells (x : Cx) (nv : Value) (s : S) : Array Value := #[.slice x.ta x.ts.length x.tc, .int .i64 s.p, .int .i64 x.fin, nv, .int .i64 s.d, .int .i64 s.c, .int .i64 s.a]
/-- Numbers lie in a row of the reader's own, in none of the blocks of L. -/
structure KRow (x : Cx) (L : List (Nat × Obj)) (w : World) (kv : Value) (l : List Nat) : Prop where
  row : w.ownsRow (x.B + 1) 3 1 kv l.length (ints l)
  apart : ∀ b o, (b, o) ∈ L → kv.ownBlock ≠ some b
/-- The nodes lie in memory that the reader owns. -/
structure Nodes (x : Cx) (L : List (Nat × Obj)) (nv : Value) (N : List Nd) (w : World) : Prop where
  rows : ∃ M : List (Nd × Value), M.map (·.1) = N ∧ w.ownsRow (x.B + 1) 33 5 nv M.length (flatN M) ∧ ∀ m ∈ M, KRow x L w m.2 m.1.kids
theorem KRow.of_block {x : Cx} {L : List (Nat × Obj)} {w w' : World} {kv : Value} {l : List Nat} (h : KRow x L w kv l) (hk : ∀ (b : Nat) (cur : Array Value), kv.ownBlock = some b → w.heap[b]? = some (Obj.cells cur 3) → x.B < b → w'.heap[b]? = some (Obj.cells cur 3)) : KRow x L w' kv l := by
  refine ⟨⟨h.row.1, ?_⟩, h.apart⟩
  rcases h.row.2 with h2 | ⟨g, cap, cur, hv, hg, hh, r⟩
  · exact .inl h2
  · exact .inr ⟨g, cap, cur, hv, hg, hk g cur (by rw [hv]; rfl) hh (by omega), r⟩
/-- The reader stands in a state; L: blocks of somebody else's that stay as they are. -/
structure PS (x : Cx) (L : List (Nat × Obj)) (s : S) (w : World) : Prop where
  le : s.p ≤ x.ts.length
  blk : ∃ nv, w.heap[x.B]? = some (.cells (rdCells x nv s) 67) ∧ Nodes x L nv s.N w ∧ ∀ b o, (b, o) ∈ L → nv.ownBlock ≠ some b
  keep : ∀ b o, (b, o) ∈ L → x.B < b ∧ w.heap[b]? = some o
  nd : (L.map (·.1)).Nodup
  bel : Below x.B x.W w
theorem Nodes.of_blocks {x : Cx} {L : List (Nat × Obj)} {nv : Value} {N : List Nd} {w w' : World} (h : Nodes x L nv N w) (hk : ∀ (b : Nat) (o : Obj), w.heap[b]? = some o → x.B < b → nv.ownBlock = some b ∨ (∀ o', (b, o') ∉ L) → w'.heap[b]? = some o) : Nodes x L nv N w' := by
  obtain ⟨M, hM, hr, hm⟩ := h.rows
  refine ⟨M, hM, ⟨hr.1, ?_⟩, fun m hmm => (hm m hmm).of_block fun b cur hv hb hlt => hk b _ hb hlt (.inr fun o' hin => (hm m hmm).apart b o' hin hv)⟩
  rcases hr.2 with h2 | ⟨g, cap, cur, hv, hg, hh, r⟩
  · exact .inl h2
  · exact .inr ⟨g, cap, cur, hv, hg, hk g _ hh (by omega) (.inl (by rw [hv]; rfl)), r⟩
/-- All that lies in w lies in w' as it lay. -/
theorem PS.grow {x : Cx} {L : List (Nat × Obj)} {s : S} {w w' : World} (h : PS x L s w) (hb : Below w.heap.size w w') : PS x L s w' := by
  have lift : ∀ (b : Nat) (o : Obj), w.heap[b]? = some o → w'.heap[b]? = some o := fun b o hbo => (hb.block b (Array.getElem?_eq_some_iff.1 hbo).1).trans hbo
  obtain ⟨nv, h1, h2, h3⟩ := h.blk
  exact ⟨h.le, ⟨nv, lift _ _ h1, h2.of_blocks fun b o hbo _ _ => lift b o hbo, h3⟩, fun b o hm => ⟨(h.keep b o hm).1, lift _ _ (h.keep b o hm).2⟩, h.nd, h.bel.trans (hb.mono (Nat.le_of_lt (Array.getElem?_eq_some_iff.1 h1).1))⟩
theorem PS.alloc {x : Cx} {L : List (Nat × Obj)} {s : S} {w : World} (h : PS x L s w) (o : Obj) : PS x L s (w.alloc o) := h.grow ((Below.refl _ _).alloc (Nat.le_refl _) o)
theorem PS.drewN {x : Cx} {L : List (Nat × Obj)} {s : S} {w : World} (h : PS x L s w) (n : Nat) : PS x L s (w.drewN n) := by
  obtain ⟨nv, h1, h2, h3⟩ := h.blk
  exact ⟨h.le, ⟨nv, h1, h2.of_blocks fun b o hbo _ _ => hbo, h3⟩, h.keep, h.nd, ⟨h.bel.os, h.bel.tape, h.bel.output, h.bel.size, h.bel.block⟩⟩
theorem PS.drew {x : Cx} {L : List (Nat × Obj)} {s : S} {w : World} (h : PS x L s w) : PS x L s w.drew := h.drewN 1
/-- One of the reader's own cells is turned. -/
theorem PS.set {x : Cx} {L : List (Nat × Obj)} {s s' : S} {w : World} (h : PS x L s w) (i : Nat) (v : Value) (hB : x.B ≤ x.B) (hle : s'.p ≤ x.ts.length) (hN : s'.N = s.N) (hc : ∀ nv, (rdCells x nv s).setIfInBounds i v = rdCells x nv s') : PS x L s' (w.setCell ⟨x.B, i, none⟩ v) := by
  obtain ⟨nv, h1, h2, h3⟩ := h.blk
  refine ⟨hle, ⟨nv, ?_, ?_, h3⟩, fun b o hm => ?_, h.nd, ?_⟩
  · rw [← hc nv]; exact at_same h1
  · rw [hN]; exact h2.of_blocks fun b o hbo hlt _ => at_other hbo (by omega)
  · have hk := h.keep b o hm
    exact ⟨hk.1, at_other hk.2 (by omega)⟩
  · exact h.bel.setCell (p := ⟨x.B, i, none⟩) (Nat.le_refl _) _
theorem PS.up {x : Cx} {L : List (Nat × Obj)} {s : S} {w : World} (h : PS x L s w) (hlt : s.p < x.ts.length) : PS x L (up s) (w.setCell ⟨x.B, 1, none⟩ (.int .i64 ((s.p : Int) + 1))) :=
  h.set 1 _ (Nat.le_refl _) hlt rfl fun nv => by simp [rdCells, par.up]
theorem PS.deep {x : Cx} {L : List (Nat × Obj)} {s : S} {w : World} (h : PS x L s w) (d : Int) : PS x L ⟨s.p, s.N, d, s.c, s.a⟩ (w.setCell ⟨x.B, 4, none⟩ (.int .i64 d)) :=
  h.set 4 _ (Nat.le_refl _) h.le rfl fun nv => by simp [rdCells]
theorem PS.code {x : Cx} {L : List (Nat × Obj)} {s : S} {w : World} (h : PS x L s w) (c : Int) : PS x L ⟨s.p, s.N, s.d, c, s.a⟩ (w.setCell ⟨x.B, 5, none⟩ (.int .i64 c)) :=
  h.set 5 _ (Nat.le_refl _) h.le rfl fun nv => by simp [rdCells]
theorem PS.place {x : Cx} {L : List (Nat × Obj)} {s : S} {w : World} (h : PS x L s w) (a : Int) : PS x L ⟨s.p, s.N, s.d, s.c, a⟩ (w.setCell ⟨x.B, 6, none⟩ (.int .i64 a)) :=
  h.set 6 _ (Nat.le_refl _) h.le rfl fun nv => by simp [rdCells]
section
variable {x : Cx} {L : List (Nat × Obj)} {s : S} {w : World}
theorem PS.c0 (h : PS x L s w) : w.cell? ⟨x.B, 0, none⟩ = some (.slice x.ta x.ts.length x.tc) := by obtain ⟨nv, h1, _, _⟩ := h.blk; exact cell_of h1 rfl
theorem PS.c1 (h : PS x L s w) : w.cell? ⟨x.B, 1, none⟩ = some (.int .i64 s.p) := by obtain ⟨nv, h1, _, _⟩ := h.blk; exact cell_of h1 rfl
theorem PS.c2 (h : PS x L s w) : w.cell? ⟨x.B, 2, none⟩ = some (.int .i64 x.fin) := by obtain ⟨nv, h1, _, _⟩ := h.blk; exact cell_of h1 rfl
theorem PS.c4 (h : PS x L s w) : w.cell? ⟨x.B, 4, none⟩ = some (.int .i64 s.d) := by obtain ⟨nv, h1, _, _⟩ := h.blk; exact cell_of h1 rfl
theorem PS.c5 (h : PS x L s w) : w.cell? ⟨x.B, 5, none⟩ = some (.int .i64 s.c) := by obtain ⟨nv, h1, _, _⟩ := h.blk; exact cell_of h1 rfl
theorem PS.c6 (h : PS x L s w) : w.cell? ⟨x.B, 6, none⟩ = some (.int .i64 s.a) := by obtain ⟨nv, h1, _, _⟩ := h.blk; exact cell_of h1 rfl
theorem PS.fz (h : PS x L s w) (i : Nat) : w.frozen? ⟨x.B, i, none⟩ = false := by obtain ⟨nv, h1, _, _⟩ := h.blk; exact frozen_of h1
theorem PS.tok (h : PS x L s w) (ok : x.Ok) {j : Nat} {t : Tok} (ht : x.ts[j]? = some t) : ∃ g, x.ta = some ⟨g, 0, none⟩ ∧ g < x.B ∧ w.cell? ⟨g, j * 4, none⟩ = some (.int .i64 t.kind) ∧ w.cell? ⟨g, j * 4 + 1, none⟩ = some (.int .i64 t.pos) ∧ w.cell? ⟨g, j * 4 + 2, none⟩ = some (.string t.text) ∧ w.cell? ⟨g, j * 4 + 3, none⟩ = some (.int .i64 t.num) := by
  obtain ⟨g, e, hg, a0, a1, a2, a3⟩ := ok.tok j t ht
  exact ⟨g, e, hg, (h.bel.cell hg).trans a0, (h.bel.cell hg).trans a1, (h.bel.cell hg).trans a2, (h.bel.cell hg).trans a3⟩
end
/-- The next token is there, or the tokens are at their end. -/
theorem tok_cases (ts : List Tok) (p : Nat) (h : p ≤ ts.length) : (∃ t, ts[p]? = some t ∧ p < ts.length) ∨ (ts[p]? = none ∧ p = ts.length) := by
  by_cases hp : p < ts.length
  · exact .inl ⟨_, List.getElem?_eq_getElem hp, hp⟩
  · exact .inr ⟨List.getElem?_eq_none (by omega), by omega⟩
set_option maxRecDepth 100000 in
theorem at_any {x : Cx} {L : List (Nat × Obj)} {s : S} {w : World} (ok : x.Ok) (h : PS x L s w) : Calls Tryz.prog 47 #[.pointer (some ⟨x.B, 0, none⟩)] w fun e w' => e = .returned (.int .i64 (atP x.ts x.fin s)) ∧ PS x L s w' := by
  have c0 := h.c0
  have c1 := h.c1
  have c2 := h.c2
  have l1 := ok.len
  have l2 := ok.cap
  rcases tok_cases x.ts s.p h.le with ⟨t, ht, hp⟩ | ⟨ht, hp⟩
  · obtain ⟨g, e, hg, a0, a1, a2, a3⟩ := h.tok ok ht
    rw [e] at c0
    have e2 : atP x.ts x.fin s = t.pos := by simp [atP, ht]
    rw [e2]
    go_enter Tryz.func47, Tryz.ntmps47
    go_wp2
    repeat (go_quiet (fail); go_wp2)
    go_ret
    exact ⟨rfl, by first | exact h | exact h.drewN _ | exact (h.drewN _).drewN _⟩
  · have e2 : atP x.ts x.fin s = x.fin := by simp [atP, ht]
    rw [e2]
    go_enter Tryz.func47, Tryz.ntmps47
    go_wp2
    repeat (go_quiet (fail); go_wp2)
    go_ret
    exact ⟨rfl, by first | exact h | exact h.drewN _ | exact (h.drewN _).drewN _⟩
end
section
theorem isP_tok {ts : List Tok} {s : S} {t : Tok} (X : ByteArray) (h : ts[s.p]? = some t) (hc : s.c = 0) : isP ts s X = (decide (t.text = X) && decide (3 ≤ t.kind)) := by simp [isP, h, hc]
theorem isP_none {ts : List Tok} {s : S} (X : ByteArray) (h : ts[s.p]? = none) : isP ts s X = false := by simp [isP, h]
theorem isP_bad {ts : List Tok} {s : S} (X : ByteArray) (h : s.c ≠ 0) : isP ts s X = false := by simp [isP, h]
theorem kindP_tok {ts : List Tok} {s : S} {t : Tok} (k : Int) (h : ts[s.p]? = some t) (hc : s.c = 0) : kindP ts s k = decide (t.kind = k) := by simp [kindP, h, hc]
theorem kindP_none {ts : List Tok} {s : S} (k : Int) (h : ts[s.p]? = none) : kindP ts s k = false := by simp [kindP, h]
theorem kindP_bad {ts : List Tok} {s : S} (k : Int) (h : s.c ≠ 0) : kindP ts s k = false := by simp [kindP, h]
theorem isP_lt {ts : List Tok} {s : S} {X : ByteArray} (h : isP ts s X = true) : s.p < ts.length := by
  unfold isP at h
  cases e : ts[s.p]? with
  | none => rw [e] at h; simp at h
  | some t => exact (List.getElem?_eq_some_iff.1 e).1
theorem kindP_lt {ts : List Tok} {s : S} {k : Int} (h : kindP ts s k = true) : s.p < ts.length := by
  unfold kindP at h
  cases e : ts[s.p]? with
  | none => rw [e] at h; simp at h
  | some t => exact (List.getElem?_eq_some_iff.1 e).1
theorem ba_ne {a b : ByteArray} (h : ¬ a = b) : (a.toList == b.toList) = false := by
  rw [beq_eq_false_iff_ne]
  intro e
  rw [ByteArray.toList_eq, ByteArray.toList_eq] at e
  exact h (by rcases a with ⟨⟨a⟩⟩; rcases b with ⟨⟨b⟩⟩; simp at e; rw [e])
section
variable {x : Cx} {L : List (Nat × Obj)} {s : S} {w : World}
set_option maxRecDepth 100000 in
theorem is_any (ok : x.Ok) (X : ByteArray) (h : PS x L s w) : Calls Tryz.prog 81 #[.pointer (some ⟨x.B, 0, none⟩), .string X] w fun e w' => e = .returned (.bool (isP x.ts s X)) ∧ PS x L s w' := by
  have c0 := h.c0
  have c1 := h.c1
  have c5 := h.c5
  have l1 := ok.len
  have l2 := ok.cap
  by_cases hc : s.c = 0
  · rw [hc] at c5
    rcases tok_cases x.ts s.p h.le with ⟨t, ht, hp⟩ | ⟨ht, hp⟩
    · obtain ⟨g, e, hg, a0, a1, a2, a3⟩ := h.tok ok ht
      rw [e] at c0
      rw [isP_tok X ht hc]
      by_cases hX : t.text = X
      · rw [hX] at a2 ⊢
        rw [decide_eq_true rfl, Bool.true_and]
        go_enter Tryz.func81, Tryz.ntmps81
        go_wp2
        repeat (go_quiet (fail); go_wp2)
        go_ret
        exact ⟨rfl, by first | exact h | exact h.drewN _ | exact (h.drewN _).drewN _⟩
      · have e3 := ba_ne hX
        rw [decide_eq_false hX, Bool.false_and]
        go_enter Tryz.func81, Tryz.ntmps81
        go_wp2
        repeat (go_quiet (fail); go_wp2)
        go_ret
        exact ⟨rfl, by first | exact h | exact h.drewN _ | exact (h.drewN _).drewN _⟩
    · rw [isP_none X ht]
      go_enter Tryz.func81, Tryz.ntmps81
      go_wp2
      repeat (go_quiet (fail); go_wp2)
      go_ret
      exact ⟨rfl, by first | exact h | exact h.drewN _ | exact (h.drewN _).drewN _⟩
  · have e3 : (s.c == 0) = false := by simpa using hc
    rw [isP_bad X hc]
    go_enter Tryz.func81, Tryz.ntmps81
    go_wp2
    repeat (go_quiet (fail); go_wp2)
    go_ret
    exact ⟨rfl, by first | exact h | exact h.drewN _ | exact (h.drewN _).drewN _⟩
set_option maxRecDepth 100000 in
theorem kind_any (ok : x.Ok) (k : Int) (h : PS x L s w) : Calls Tryz.prog 82 #[.pointer (some ⟨x.B, 0, none⟩), .int .i64 k] w fun e w' => e = .returned (.bool (kindP x.ts s k)) ∧ PS x L s w' := by
  have c0 := h.c0
  have c1 := h.c1
  have c5 := h.c5
  have l1 := ok.len
  have l2 := ok.cap
  by_cases hc : s.c = 0
  · rw [hc] at c5
    rcases tok_cases x.ts s.p h.le with ⟨t, ht, hp⟩ | ⟨ht, hp⟩
    · obtain ⟨g, e, hg, a0, a1, a2, a3⟩ := h.tok ok ht
      rw [e] at c0
      rw [kindP_tok k ht hc]
      by_cases hX : t.kind = k
      · subst hX
        rw [decide_eq_true rfl]
        go_enter Tryz.func82, Tryz.ntmps82
        go_wp2
        repeat (go_quiet (fail); go_wp2)
        go_ret
        exact ⟨rfl, by first | exact h | exact h.drewN _ | exact (h.drewN _).drewN _⟩
      · have e3 : (t.kind == k) = false := by simpa using hX
        rw [decide_eq_false hX]
        go_enter Tryz.func82, Tryz.ntmps82
        go_wp2
        repeat (go_quiet (fail); go_wp2)
        go_ret
        exact ⟨rfl, by first | exact h | exact h.drewN _ | exact (h.drewN _).drewN _⟩
    · rw [kindP_none k ht]
      go_enter Tryz.func82, Tryz.ntmps82
      go_wp2
      repeat (go_quiet (fail); go_wp2)
      go_ret
      exact ⟨rfl, by first | exact h | exact h.drewN _ | exact (h.drewN _).drewN _⟩
  · have e3 : (s.c == 0) = false := by simpa using hc
    rw [kindP_bad k hc]
    go_enter Tryz.func82, Tryz.ntmps82
    go_wp2
    repeat (go_quiet (fail); go_wp2)
    go_ret
    exact ⟨rfl, by first | exact h | exact h.drewN _ | exact (h.drewN _).drewN _⟩
set_option maxRecDepth 100000 in
theorem next_any (ok : x.Ok) (X : ByteArray) (h : PS x L s w) : Calls Tryz.prog 152 #[.pointer (some ⟨x.B, 0, none⟩), .string X] w fun e w' => e = .returned (.bool (nextP x.ts s X)) ∧ PS x L s w' := by
  have c0 := h.c0
  have c1 := h.c1
  have c5 := h.c5
  have l1 := ok.len
  have l2 := ok.cap
  have le := h.le
  obtain ⟨j, hj⟩ : ∃ j, j = s.p + 1 := ⟨_, rfl⟩
  have hw : IntKind.i64.wrap ((s.p : Int) + 1) = (j : Int) := (IntWalk.i64_in _ ⟨by omega, by omega⟩).trans (by omega)
  unfold nextP
  rw [← hj]
  clear le hj
  by_cases hp : j < x.ts.length
  · obtain ⟨t, ht⟩ : ∃ t, x.ts[j]? = some t := ⟨_, List.getElem?_eq_getElem hp⟩
    obtain ⟨g, e, hg, a0, a1, a2, a3⟩ := h.tok ok ht
    rw [e] at c0
    rw [ht, Option.elim_some]
    by_cases hX : t.text = X
    · rw [hX] at a2 ⊢
      rw [decide_eq_true rfl, Bool.true_and]
      by_cases hk : t.kind = 4
      · rw [hk] at a0 ⊢
        rw [decide_eq_true rfl]
        go_enter Tryz.func152, Tryz.ntmps152
        go_wp2
        repeat (go_quiet (fail); go_wp2)
        go_ret
        exact ⟨rfl, by first | exact h | exact h.drewN _ | exact (h.drewN _).drewN _⟩
      · have e3 : (t.kind == 4) = false := by simpa using hk
        rw [decide_eq_false hk]
        go_enter Tryz.func152, Tryz.ntmps152
        go_wp2
        repeat (go_quiet (fail); go_wp2)
        go_ret
        exact ⟨rfl, by first | exact h | exact h.drewN _ | exact (h.drewN _).drewN _⟩
    · have e3 := ba_ne hX
      rw [decide_eq_false hX, Bool.false_and]
      go_enter Tryz.func152, Tryz.ntmps152
      go_wp2
      repeat (go_quiet (fail); go_wp2)
      go_ret
      exact ⟨rfl, by first | exact h | exact h.drewN _ | exact (h.drewN _).drewN _⟩
  · rw [List.getElem?_eq_none (by omega : x.ts.length ≤ j), Option.elim_none]
    go_enter Tryz.func152, Tryz.ntmps152
    go_wp2
    repeat (go_quiet (fail); go_wp2)
    go_ret
    exact ⟨rfl, by first | exact h | exact h.drewN _ | exact (h.drewN _).drewN _⟩
end
end
section
section
variable {x : Cx} {L : List (Nat × Obj)} {s : S} {w : World}
theorem is_yes (ok : x.Ok) (X : ByteArray) (h : PS x L s w) (hi : isP x.ts s X = true) : Calls Tryz.prog 81 #[.pointer (some ⟨x.B, 0, none⟩), .string X] w fun e w' => e = .returned (.bool true) ∧ PS x L s w' := by
  have := is_any ok X h
  rwa [hi] at this
theorem is_no (ok : x.Ok) (X : ByteArray) (h : PS x L s w) (hi : isP x.ts s X = false) : Calls Tryz.prog 81 #[.pointer (some ⟨x.B, 0, none⟩), .string X] w fun e w' => e = .returned (.bool false) ∧ PS x L s w' := by
  have := is_any ok X h
  rwa [hi] at this
theorem kind_yes (ok : x.Ok) (k : Int) (h : PS x L s w) (hi : kindP x.ts s k = true) : Calls Tryz.prog 82 #[.pointer (some ⟨x.B, 0, none⟩), .int .i64 k] w fun e w' => e = .returned (.bool true) ∧ PS x L s w' := by
  have := kind_any ok k h
  rwa [hi] at this
theorem kind_no (ok : x.Ok) (k : Int) (h : PS x L s w) (hi : kindP x.ts s k = false) : Calls Tryz.prog 82 #[.pointer (some ⟨x.B, 0, none⟩), .int .i64 k] w fun e w' => e = .returned (.bool false) ∧ PS x L s w' := by
  have := kind_any ok k h
  rwa [hi] at this
theorem next_yes (ok : x.Ok) (X : ByteArray) (h : PS x L s w) (hi : nextP x.ts s X = true) : Calls Tryz.prog 152 #[.pointer (some ⟨x.B, 0, none⟩), .string X] w fun e w' => e = .returned (.bool true) ∧ PS x L s w' := by
  have := next_any ok X h
  rwa [hi] at this
theorem next_no (ok : x.Ok) (X : ByteArray) (h : PS x L s w) (hi : nextP x.ts s X = false) : Calls Tryz.prog 152 #[.pointer (some ⟨x.B, 0, none⟩), .string X] w fun e w' => e = .returned (.bool false) ∧ PS x L s w' := by
  have := next_any ok X h
  rwa [hi] at this
set_option maxRecDepth 100000 in
theorem fail_any (ok : x.Ok) (code : Int) (h : PS x L s w) : Calls Tryz.prog 83 #[.pointer (some ⟨x.B, 0, none⟩), .int .i64 code] w fun e w' => e = .returned (.tuple #[]) ∧ PS x L (failP x.ts x.fin s code) w' := by
  have c5 := h.c5
  have c6 := h.c6
  have f5 := h.fz 5
  have f6 := h.fz 6
  by_cases hc : s.c = 0
  · have e2 : failP x.ts x.fin s code = ⟨s.p, s.N, s.d, code, atP x.ts x.fin s⟩ := by simp [failP, hc]
    rw [e2]
    rw [hc] at c5
    go_enter Tryz.func83, Tryz.ntmps83
    go_wp2_with (go_at_call 47; refine (at_any ok h).mono ?_; rintro e w' ⟨rfl, h⟩; have c5 := h.c5; have c6 := h.c6; have f5 := h.fz 5; have f6 := h.fz 6)
    (try simp only [Exit.inBlock, Exit.then])
    refine bodyPost_end (results_none rfl _ _ _) rfl ?_
    exact ⟨rfl, (h.code code).place (atP x.ts x.fin s)⟩
  · have e3 : (s.c == 0) = false := by simpa using hc
    have e2 : failP x.ts x.fin s code = s := by simp [failP, hc]
    rw [e2]
    go_enter Tryz.func83, Tryz.ntmps83
    go_wp2
    (try simp only [Exit.inBlock, Exit.then])
    refine bodyPost_end (results_none rfl _ _ _) rfl ?_
    exact ⟨rfl, h⟩
set_option maxRecDepth 100000 in
theorem take_yes (ok : x.Ok) (X : ByteArray) (h : PS x L s w) (hi : isP x.ts s X = true) : Calls Tryz.prog 46 #[.pointer (some ⟨x.B, 0, none⟩), .string X] w fun e w' => e = .returned (.bool true) ∧ PS x L (up s) w' := by
  have hp := isP_lt hi
  have l1 := ok.len
  go_enter Tryz.func46, Tryz.ntmps46
  go_wp2_with (go_at_call 81; refine (is_yes ok X h hi).mono ?_; rintro e w' ⟨rfl, h⟩; have c1 := h.c1; have f1 := h.fz 1)
  go_ret
  exact ⟨rfl, h.up hp⟩
set_option maxRecDepth 100000 in
theorem take_no (ok : x.Ok) (X : ByteArray) (h : PS x L s w) (hi : isP x.ts s X = false) : Calls Tryz.prog 46 #[.pointer (some ⟨x.B, 0, none⟩), .string X] w fun e w' => e = .returned (.bool false) ∧ PS x L s w' := by
  go_enter Tryz.func46, Tryz.ntmps46
  go_wp2_with (go_at_call 81; refine (is_no ok X h hi).mono ?_; rintro e w' ⟨rfl, h⟩)
  go_ret
  exact ⟨rfl, h⟩
set_option maxRecDepth 100000 in
theorem must_any (ok : x.Ok) (X : ByteArray) (h : PS x L s w) : Calls Tryz.prog 49 #[.pointer (some ⟨x.B, 0, none⟩), .string X] w fun e w' => e = .returned (.tuple #[]) ∧ PS x L (mustP x.ts x.fin s X) w' := by
  cases hi : isP x.ts s X with
  | true =>
    have e2 : mustP x.ts x.fin s X = up s := by simp [mustP, hi]
    rw [e2]
    go_enter Tryz.func49, Tryz.ntmps49
    go_wp2_with (go_at_call 46; refine (take_yes ok X h hi).mono ?_; rintro e w' ⟨rfl, h⟩)
    (try simp only [Exit.inBlock, Exit.then])
    refine bodyPost_end (results_none rfl _ _ _) rfl ?_
    exact ⟨rfl, h⟩
  | false =>
    have e2 : mustP x.ts x.fin s X = failP x.ts x.fin s 6 := by simp [mustP, hi]
    rw [e2]
    go_enter Tryz.func49, Tryz.ntmps49
    go_wp2_with (first | (go_at_call 46; refine (take_no ok X h hi).mono ?_; rintro e w' ⟨rfl, h⟩) | (go_at_call 83; refine (fail_any ok 6 h).mono ?_; rintro e w' ⟨rfl, h⟩))
    (try simp only [Exit.inBlock, Exit.then])
    refine bodyPost_end (results_none rfl _ _ _) rfl ?_
    exact ⟨rfl, h⟩
theorem textP_tok {ts : List Tok} {s : S} {t : Tok} (h : ts[s.p]? = some t) : textP ts s = t.text := by simp [textP, h]
theorem numP_tok {ts : List Tok} {s : S} {t : Tok} (h : ts[s.p]? = some t) : numP ts s = t.num := by simp [numP, h]
set_option maxRecDepth 100000 in
theorem name_any (ok : x.Ok) (h : PS x L s w) : Calls Tryz.prog 48 #[.pointer (some ⟨x.B, 0, none⟩)] w fun e w' => e = .returned (.string (nameT x.ts s)) ∧ PS x L (nameP x.ts x.fin s) w' := by
  have l1 := ok.len
  have l2 := ok.cap
  cases hi : kindP x.ts s 1 with
  | true =>
    have hp := kindP_lt hi
    obtain ⟨t, ht⟩ : ∃ t, x.ts[s.p]? = some t := ⟨_, List.getElem?_eq_getElem hp⟩
    have e2 : nameP x.ts x.fin s = up s := by simp [nameP, hi]
    have e3 : nameT x.ts s = t.text := by rw [nameT, hi, if_pos rfl, textP_tok ht]
    rw [e2, e3]
    go_enter Tryz.func48, Tryz.ntmps48
    go_wp2_with (go_at_call 82; refine (kind_yes ok 1 h hi).mono ?_; rintro e w' ⟨rfl, h⟩; have c0 := h.c0; have c1 := h.c1; have f1 := h.fz 1; obtain ⟨g, e, hg, a0, a1, a2, a3⟩ := h.tok ok ht; rw [e] at c0; have hg' : x.B ≠ g := by omega)
    repeat (go_quiet (fail); go_wp2)
    go_ret
    exact ⟨rfl, by first | exact h.up hp | exact (h.up hp).drewN _⟩
  | false =>
    have e2 : nameP x.ts x.fin s = failP x.ts x.fin s 6 := by simp [nameP, hi]
    have e3 : nameT x.ts s = ⟨#[]⟩ := by simp [nameT, hi]
    rw [e2, e3]
    go_enter Tryz.func48, Tryz.ntmps48
    go_wp2_with (first | (go_at_call 82; refine (kind_no ok 1 h hi).mono ?_; rintro e w' ⟨rfl, h⟩) | (go_at_call 83; refine (fail_any ok 6 h).mono ?_; rintro e w' ⟨rfl, h⟩))
    go_ret
    exact ⟨rfl, h⟩
set_option maxRecDepth 100000 in
theorem number_any (ok : x.Ok) (h : PS x L s w) : Calls Tryz.prog 50 #[.pointer (some ⟨x.B, 0, none⟩)] w fun e w' => e = .returned (.int .i64 (numberT x.ts s)) ∧ PS x L (numberP x.ts x.fin s) w' := by
  have l1 := ok.len
  have l2 := ok.cap
  cases hi : kindP x.ts s 2 with
  | true =>
    have hp := kindP_lt hi
    obtain ⟨t, ht⟩ : ∃ t, x.ts[s.p]? = some t := ⟨_, List.getElem?_eq_getElem hp⟩
    have e2 : numberP x.ts x.fin s = up s := by simp [numberP, hi]
    have e3 : numberT x.ts s = t.num := by rw [numberT, hi, if_pos rfl, numP_tok ht]
    rw [e2, e3]
    go_enter Tryz.func50, Tryz.ntmps50
    go_wp2_with (go_at_call 82; refine (kind_yes ok 2 h hi).mono ?_; rintro e w' ⟨rfl, h⟩; have c0 := h.c0; have c1 := h.c1; have f1 := h.fz 1; obtain ⟨g, e, hg, a0, a1, a2, a3⟩ := h.tok ok ht; rw [e] at c0; have hg' : x.B ≠ g := by omega)
    repeat (go_quiet (fail); go_wp2)
    go_ret
    exact ⟨rfl, by first | exact h.up hp | exact (h.up hp).drewN _⟩
  | false =>
    have e2 : numberP x.ts x.fin s = failP x.ts x.fin s 6 := by simp [numberP, hi]
    have e3 : numberT x.ts s = 0 := by simp [numberT, hi]
    rw [e2, e3]
    go_enter Tryz.func50, Tryz.ntmps50
    go_wp2_with (first | (go_at_call 82; refine (kind_no ok 2 h hi).mono ?_; rintro e w' ⟨rfl, h⟩) | (go_at_call 83; refine (fail_any ok 6 h).mono ?_; rintro e w' ⟨rfl, h⟩))
    go_ret
    exact ⟨rfl, h⟩
set_option maxRecDepth 100000 in
theorem sign_any (ok : x.Ok) (h : PS x L s w) : Calls Tryz.prog 156 #[.pointer (some ⟨x.B, 0, none⟩)] w fun e w' => e = .returned (.string (signP x.ts s)) ∧ PS x L s w' := by
  have l1 := ok.len
  have l2 := ok.cap
  cases hi : kindP x.ts s 4 with
  | true =>
    have hp := kindP_lt hi
    obtain ⟨t, ht⟩ : ∃ t, x.ts[s.p]? = some t := ⟨_, List.getElem?_eq_getElem hp⟩
    have e3 : signP x.ts s = t.text := by rw [signP, hi, if_pos rfl, textP_tok ht]
    rw [e3]
    go_enter Tryz.func156, Tryz.ntmps156
    go_wp2_with (go_at_call 82; refine (kind_yes ok 4 h hi).mono ?_; rintro e w' ⟨rfl, h⟩; have c0 := h.c0; have c1 := h.c1; obtain ⟨g, e, hg, a0, a1, a2, a3⟩ := h.tok ok ht; rw [e] at c0)
    repeat (go_quiet (fail); go_wp2)
    go_ret
    exact ⟨rfl, by first | exact h | exact h.drewN _⟩
  | false =>
    have e3 : signP x.ts s = ⟨#[]⟩ := by simp [signP, hi]
    rw [e3]
    go_enter Tryz.func156, Tryz.ntmps156
    go_wp2_with (go_at_call 82; refine (kind_no ok 4 h hi).mono ?_; rintro e w' ⟨rfl, h⟩)
    go_ret
    exact ⟨rfl, h⟩
end
end
end Go.Proofs.YtjikjejfobnfnaaGreatDoor.par
