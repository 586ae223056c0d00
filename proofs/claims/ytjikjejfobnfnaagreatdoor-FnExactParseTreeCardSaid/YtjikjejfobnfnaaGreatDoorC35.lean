/-
  Statements, all of them.
  Both readers as plain functions tell the same: what is the same of their states.
  Both readers behind a fault: every rule ends, and the fault stays.
  The program's reader behind a fault: every rule ends, and the fault stays.
  Both readers as plain functions tell the same: what is told of a rule, and the short rules.
  Both readers as plain functions tell the same: terms.
  Both readers as plain functions tell the same: unaries and levels.
  Both readers as plain functions tell the same: conditions.
  Both readers as plain functions tell the same: names, statements one behind the other, blocks.
  Both readers as plain functions tell the same: blocks, parameters, locals.
  Both readers as plain functions tell the same: functions; terms that end a statement, terms of a call.
  Both readers as plain functions tell the same: calls, assignments, statements that begin with a name.
  Both readers as plain functions tell the same: assignments, statements that begin with a name.
  Both readers as plain functions tell the same: statements.
  Both readers as plain functions tell the same: branches, statements.
  Both readers as plain functions tell the same: loops over numbers, statements.
  Both readers as plain functions tell the same: statements; all rules.
  Both readers as plain functions tell the same: all rules.
  Both readers as plain functions tell the same: declarations, programs.
  Tokens are of the kind that their text says; the tree of a text is the listing of what the program reads.
-/
import Derived.Test.YtjikjejfobnfnaaGreatDoorC27
import Derived.Test.YtjikjejfobnfnaaGreatDoorC28
import Derived.Test.YtjikjejfobnfnaaGreatDoorC29
import Derived.Test.YtjikjejfobnfnaaGreatDoorC30
import Derived.Test.YtjikjejfobnfnaaGreatDoorC32
import Derived.Test.YtjikjejfobnfnaaGreatDoorC33
import Derived.Test.YtjikjejfobnfnaaGreatDoorC34
import Derived.Test.YtjikjejfobnfnaaGreatDoorC16
namespace Go.Proofs.YtjikjejfobnfnaaGreatDoor.imp
open Go.RowKit Go.Proofs.YtjikjejfobnfnaaGreatDoor.num Go.Proofs.YtjikjejfobnfnaaGreatDoor.lex Go.Proofs.YtjikjejfobnfnaaGreatDoor.par
set_option linter.unusedVariables false
section
section
variable {x : Cx} {Q : List (Value × P)} {L : List (Nat × Obj)} {s s' : T} {w w' : World} {R : RecI} {p : P}
theorem statement_walk (ok : x.Ok) (G : GoodI x R) (C : GoodC x R) (S : GoodS x R) (h : PT x Q L s w) (hr : statementI x.ts x.fin R s = some (p, s')) : Calls Tryz.prog 161 #[.pointer (some ⟨x.B, 0, none⟩)] w fun e w' => ∃ v, e = .returned v ∧ PT x ((v, p) :: Q) L s' w' := by
  unfold statementI at hr
  split at hr
  · rename_i hk
    exact statement_name ok G h hk hr
  rename_i hk
  split at hr
  · rename_i h0
    exact statement_put ok G C S h hk h0 hr
  rename_i g0
  have h0 := eq_false_of_ne_true g0
  split at hr
  · rename_i h1
    exact statement_if ok G C S h hk h0 h1 hr
  rename_i g1
  have h1 := eq_false_of_ne_true g1
  split at hr
  · rename_i h2
    exact statement_while ok G C S h hk h0 h1 h2 hr
  rename_i g2
  have h2 := eq_false_of_ne_true g2
  split at hr
  · rename_i h3
    exact statement_for ok G C S h hk h0 h1 h2 h3 hr
  rename_i g3
  have h3 := eq_false_of_ne_true g3
  split at hr
  · rename_i h4
    exact statement_read ok G C S h hk h0 h1 h2 h3 h4 hr
  rename_i g4
  have h4 := eq_false_of_ne_true g4
  split at hr
  · rename_i h5
    exact statement_print ok G C S h hk h0 h1 h2 h3 h4 h5 hr
  rename_i g5
  have h5 := eq_false_of_ne_true g5
  split at hr
  · rename_i h6
    exact statement_assert ok G C S h hk h0 h1 h2 h3 h4 h5 h6 hr
  rename_i g6
  have h6 := eq_false_of_ne_true g6
  split at hr
  · rename_i h7
    exact statement_stop ok G C S h hk h0 h1 h2 h3 h4 h5 h6 h7 hr
  rename_i g7
  have h7 := eq_false_of_ne_true g7
  split at hr
  · rename_i h8
    exact statement_return ok G C S h hk h0 h1 h2 h3 h4 h5 h6 h7 h8 hr
  rename_i g8
  have h8 := eq_false_of_ne_true g8
  exact statement_none ok G C S h hk h0 h1 h2 h3 h4 h5 h6 h7 h8 hr
set_option maxHeartbeats 1000000 in
set_option maxRecDepth 100000 in
theorem term_level (hlev : ∀ {Q L s w p s'}, PT x Q L s w → R (.level 1) s = some (p, s') → Calls Tryz.prog 59 #[.agg #[.pointer (some ⟨x.B, 0, none⟩), .int .i64 (6 - (5 : Nat) : Int), lvl x.B 5]] w fun e w' => ∃ v, e = .returned v ∧ PT x ((v, p) :: Q) L s' w') (h : PT x Q L s w) (hr : R (.level 1) s = some (p, s')) : Calls Tryz.prog 136 #[.pointer (some ⟨x.B, 0, none⟩)] w fun e w' => ∃ v, e = .returned v ∧ PT x ((v, p) :: Q) L s' w' := by
  have hsz := h.size
  have c6 := h.c6
  rw [lvl] at c6
  have hL := fun (w : World) (h : PT x Q L s w) => hlev h hr
  go_enter Tryz.func136, Tryz.ntmps136
  go_wp2_with (first | (go_at_call 59; refine (hL _ h).mono ?_; rintro e w' ⟨v, rfl, h⟩; rcases h.top.shp with rfl | ⟨ty, u, rfl⟩))
  all_goals go_ret
  all_goals exact ⟨_, rfl, h⟩
end
/-- One rule, the others given. -/
def stepI (ts : List Tok) (fin : Int) (R : RecI) : RecI
  | .primary, s => primaryI ts fin R s
  | .unary, s => unaryI ts fin R s
  | .level n, s => levelI ts fin R n s
  | .var t, s => variableI ts fin R t s
  | .last, s => lastI ts fin R s
  | .both, s => bothI ts fin R s
  | .cond, s => condI ts fin R s
  | .statement, s => statementI ts fin R s
  | .block, _ => none
/-- The rules, so deep. -/
def runI (ts : List Tok) (fin : Int) : Nat → RecI
  | 0 => fun _ _ => none
  | f + 1 => stepI ts fin (runI ts fin f)
theorem good_runI {x : Cx} (ok : x.Ok) (tb : Tb x.W) (hB : 2 < x.B) (f : Nat) : GoodI x (runI x.ts x.fin f) ∧ GoodC x (runI x.ts x.fin f) ∧ GoodS x (runI x.ts x.fin f) := by
  induction f with
  | zero =>
    exact ⟨⟨fun _ h => (by cases h), fun _ h => (by cases h), fun _ _ h => (by cases h), fun _ h => (by cases h), fun _ h => (by cases h)⟩, ⟨fun _ h => (by cases h), fun _ h => (by cases h), fun _ h => (by cases h)⟩, ⟨fun _ h => (by cases h)⟩⟩
  | succ f ih =>
    obtain ⟨G, C, S⟩ := ih
    have hlev : ∀ {k Q L s w p s'}, k ≤ 5 → PT x Q L s w → runI x.ts x.fin (f + 1) (.level (6 - k)) s = some (p, s') → Calls Tryz.prog 59 #[.agg #[.pointer (some ⟨x.B, 0, none⟩), .int .i64 (6 - k : Int), lvl x.B k]] w fun e w' => ∃ v, e = .returned v ∧ PT x ((v, p) :: Q) L s' w' := by
      intro k Q L s w p s' hk h hr
      cases k with
      | zero => exact level_six ok G tb hB h hr
      | succ k =>
        have e : 6 - (k + 1) = 5 - k := by omega
        rw [e] at hr
        exact level_low (by omega) ok G tb hB h hr
    refine ⟨⟨fun h hr => primary_walk ok G h hr, fun h hr => unary_walk ok G h hr, hlev, fun h hr => term_level (fun h hr => hlev (k := 5) (by omega) h hr) h hr, fun h hr => variable_walk ok G _ h hr⟩, ⟨fun h hr => last_walk ok G C tb hB h hr, fun h hr => both_walk ok C h hr, fun h hr => cond_walk ok C h hr⟩, ⟨fun h hr => statement_walk ok G C S h hr⟩⟩
end
section
/-- What a token's kind says of its text. -/
structure TK (t : Tok) : Prop where
  word : isWord t.text.data.toList = true → t.kind = 3
  sign : signs.contains t.text.data.toList = true → t.kind = 4
  kind : 1 ≤ t.kind ∧ t.kind ≤ 4
  ne : t.text ≠ ⟨#[]⟩
mutual
/-- The nodes of a piece, behind so many others. -/
def post (k : Nat) : P → List Nd
  | .nil => []
  | .node ty h ks =>
    (if ty = 164 then [⟨24, h.pos, 0, ⟨#[]⟩, []⟩] else []) ++ (postL (if ty = 164 then k + 1 else k) ks).1 ++
      [⟨h.kind, h.pos, h.num, h.name, (if ty = 164 then [k] else []) ++ (postL (if ty = 164 then k + 1 else k) ks).2⟩]
/-- Those of several, and their places. -/
def postL (k : Nat) : List P → List Nd × List Nat
  | [] => ([], [])
  | p :: ps => (post k p ++ (postL (k + (post k p).length) ps).1, (k + (post k p).length - 1) :: (postL (k + (post k p).length) ps).2)
end
theorem postL_snoc (q : P) : ∀ (ps : List P) (k : Nat), postL k (ps ++ [q]) = ((postL k ps).1 ++ post (k + (postL k ps).1.length) q, (postL k ps).2 ++ [k + (postL k ps).1.length + (post (k + (postL k ps).1.length) q).length - 1]) := by
  intro ps
  induction ps with
  | nil => intro k; simp [postL]
  | cons p ps ih => intro k; simp [postL, ih, Nat.add_assoc]
theorem postL_append (qs : List P) : ∀ (ps : List P) (k : Nat), postL k (ps ++ qs) = ((postL k ps).1 ++ (postL (k + (postL k ps).1.length) qs).1, (postL k ps).2 ++ (postL (k + (postL k ps).1.length) qs).2) := by
  intro ps
  induction ps with
  | nil => intro k; simp [postL]
  | cons p ps ih => intro k; simp [postL, ih, Nat.add_assoc]
def fineT (ty n : Nat) : Bool := (leafT.contains ty && n == 0) || (oneT.contains ty && n == 1) || (twoT.contains ty && n == 2) || (ty == 210 && n == 2) || ty == 212 || (ty == 144 && n == 2) || (ty == 146 && n == 3) || ty == 141 || ty == 136 || ty == 134
mutual
/-- A piece that is whole. -/
def fine : P → Bool
  | .nil => false
  | .node ty h ks => fineT ty ks.length && fineL ks
def fineL : List P → Bool
  | [] => true
  | p :: ps => fine p && fineL ps
end
theorem fineL_append (qs : List P) : ∀ ps : List P, fineL (ps ++ qs) = (fineL ps && fineL qs) := by
  intro ps
  induction ps with
  | nil => simp [fineL]
  | cons p ps ih => simp [fineL, ih, Bool.and_assoc]
/-- Readers that go on. -/
abbrev sOk (p : Nat) (N : List Nd) (d : Int) : S := ⟨p, N, d, 0, 0⟩
abbrev tOk (p : Nat) (d : Int) : T := ⟨(p : Int), d, 0, 0⟩
/-- Readers that found the same fault. -/
def Bad (s : S) (t : T) : Prop := s.c ≠ 0 ∧ t.c = s.c ∧ t.a = s.a
def knd (ts : List Tok) (p : Nat) : Int := (ts[p]?).elim 0 Tok.kind
def loc (ts : List Tok) (fin : Int) (p : Nat) : Int := (ts[p]?).elim fin Tok.pos
def txt (ts : List Tok) (p : Nat) : ByteArray := (ts[p]?).elim ⟨#[]⟩ Tok.text
def nbr (ts : List Tok) (p : Nat) : Int := (ts[p]?).elim 0 Tok.num
section
variable {ts : List Tok} {fin : Int} {p : Nat} {N : List Nd} {d : Int}
theorem tok_ok : tokT ts fin (tOk p d) = ⟨knd ts p, loc ts fin p, txt ts p, nbr ts p⟩ := by
  simp only [tokT, tokA, knd, loc, txt, nbr]
  have e : ((p : Int) + ((0 : Nat) : Int)).toNat = p := by omega
  rw [if_true, e]
  cases ts[p]? <;> rfl
theorem tokA_ok : tokA ts fin (tOk p d) 1 = ⟨knd ts (p + 1), loc ts fin (p + 1), txt ts (p + 1), nbr ts (p + 1)⟩ := by
  simp only [tokA, knd, loc, txt, nbr]
  have e : ((p : Int) + ((1 : Nat) : Int)).toNat = p + 1 := by omega
  rw [if_true, e]
  cases ts[p + 1]? <;> rfl
theorem sees_ok (X : ByteArray) : seesT ts fin (tOk p d) X = decide (txt ts p = X) := by simp [seesT, tok_ok]
theorem at_ok : atP ts fin (sOk p N d) = loc ts fin p := rfl
theorem text_ok : textP ts (sOk p N d) = txt ts p := rfl
theorem num_ok : numP ts (sOk p N d) = nbr ts p := rfl
theorem kind_ok (k : Int) (hk : k ≠ 0) : kindP ts (sOk p N d) k = decide (knd ts p = k) := by
  rcases Option.eq_none_or_eq_some (ts[p]?) with h | ⟨t, h⟩
  · simp [kindP, knd, h, Ne.symm hk]
  · simp [kindP, knd, h]
theorem is_ok (tk : ∀ t ∈ ts, TK t) (X : ByteArray) (hX : isWord X.data.toList = true ∨ signs.contains X.data.toList = true) (hn : X ≠ ⟨#[]⟩) : isP ts (sOk p N d) X = decide (txt ts p = X) := by
  rcases Option.eq_none_or_eq_some (ts[p]?) with h | ⟨t, h⟩
  · simp [isP, txt, h, Ne.symm hn]
  · have ht := tk t (List.mem_of_getElem? h)
    simp only [isP, txt, h, Option.elim_some, decide_true, Bool.true_and]
    by_cases e : t.text = X
    · have : 3 ≤ t.kind := by
        rcases hX with hX | hX
        · rw [← e] at hX; rw [ht.word hX]; omega
        · rw [← e] at hX; rw [ht.sign hX]; omega
      simp [e, this]
    · simp [e]
theorem next_ok (tk : ∀ t ∈ ts, TK t) (X : ByteArray) (hX : signs.contains X.data.toList = true) (hn : X ≠ ⟨#[]⟩) : nextP ts (sOk p N d) X = decide (txt ts (p + 1) = X) := by
  rcases Option.eq_none_or_eq_some (ts[p + 1]?) with h | ⟨t, h⟩
  · simp [nextP, txt, h, Ne.symm hn]
  · have ht := tk t (List.mem_of_getElem? h)
    simp only [nextP, txt, h, Option.elim_some]
    by_cases e : t.text = X
    · have : t.kind = 4 := by rw [← e] at hX; exact ht.sign hX
      simp [e, this]
    · simp [e]
/-- What a text says of the kind. -/
theorem knd_word (tk : ∀ t ∈ ts, TK t) (hX : isWord (txt ts p).data.toList = true) : knd ts p = 3 := by
  revert hX
  simp only [txt, knd]
  cases h : ts[p]? with
  | none => intro hX; simp only [Option.elim_none] at hX; exact absurd hX (by decide)
  | some t => exact (tk t (List.mem_of_getElem? h)).word
theorem knd_sign (tk : ∀ t ∈ ts, TK t) (hX : signs.contains (txt ts p).data.toList = true) : knd ts p = 4 := by
  revert hX
  simp only [txt, knd]
  cases h : ts[p]? with
  | none => intro hX; simp only [Option.elim_none] at hX; exact absurd hX (by decide)
  | some t => exact (tk t (List.mem_of_getElem? h)).sign
theorem knd_lt (h : knd ts p ≠ 0) : p < ts.length := by
  apply Classical.byContradiction
  intro hn
  apply h
  simp [knd, List.getElem?_eq_none (Nat.le_of_not_lt hn)]
theorem txt_lt {X : ByteArray} (hn : X ≠ ⟨#[]⟩) (h : txt ts p = X) : p < ts.length := by
  apply Classical.byContradiction
  intro hq
  apply hn
  rw [← h]
  simp [txt, List.getElem?_eq_none (Nat.le_of_not_lt hq)]
theorem knd_zero (tk : ∀ t ∈ ts, TK t) : knd ts p = 0 ↔ ts.length ≤ p := by
  constructor
  · intro h
    apply Classical.byContradiction
    intro hn
    have hl : p < ts.length := by omega
    simp only [knd, List.getElem?_eq_getElem hl, Option.elim_some] at h
    have := (tk _ (List.getElem_mem hl)).kind
    omega
  · intro h; simp [knd, List.getElem?_eq_none h]
theorem up_ok : up (sOk p N d) = sOk (p + 1) N d := rfl
theorem upT_ok (h : p ≤ 10000) : upT (tOk p d) = tOk (p + 1) d := by
  have e : wrap64 ((p : Int) + 1) = (p : Int) + 1 := by unfold wrap64; omega
  simp [upT, e]
theorem less_ok (h : 0 ≤ d ∧ d ≤ 10) : less (sOk p N (d + 1)) = sOk p N d := by
  have e : wrap64 (d + 1 - 1) = d := by unfold wrap64; omega
  simp only [less, e]
theorem lessT_ok (h : 0 ≤ d ∧ d ≤ 10) : lessT (tOk p (d + 1)) = tOk p d := by
  have e : wrap64 (d + 1 - 1) = d := by unfold wrap64; omega
  simp only [lessT, e]
theorem down_ok (h : 0 ≤ d ∧ d < 10) : downP ts fin (sOk p N d) = sOk p N (d + 1) := by
  have e : wrap64 (d + 1) = d + 1 := by unfold wrap64; omega
  simp only [downP, more, e]
  rw [if_neg (by omega)]
theorem down_no (h : d = 10) : downP ts fin (sOk p N d) = ⟨p, N, d + 1, 7, loc ts fin p⟩ := by
  have e : wrap64 (d + 1) = d + 1 := by unfold wrap64; omega
  simp only [downP, more, e]
  rw [if_pos (by omega)]
  simp [failP, atP, loc]
theorem deep_ok (h : 0 ≤ d ∧ d < 10) : deeperT ts fin (tOk p d) = tOk p (d + 1) := by
  have e : wrap64 (d + 1) = d + 1 := by unfold wrap64; omega
  simp only [deeperT, moreT, e]
  rw [if_neg (by omega)]
theorem deep_no (h : d = 10) : deeperT ts fin (tOk p d) = ⟨p, d + 1, 7, loc ts fin p⟩ := by
  have e : wrap64 (d + 1) = d + 1 := by unfold wrap64; omega
  simp only [deeperT, moreT, e]
  rw [if_pos (by omega)]
  simp only [failT, if_true]
  rw [tok_ok]
theorem fail_ok (c : Int) : failP ts fin (sOk p N d) c = ⟨p, N, d, c, loc ts fin p⟩ := by simp [failP, at_ok]
theorem failT_ok (c : Int) : failT ts fin (tOk p d) c = ⟨p, d, c, loc ts fin p⟩ := by
  simp only [failT, if_true]
  rw [tok_ok]
theorem node_ok (n : Nd) (h : N.length < 1000000) : nodeP (sOk p N d) n = some (N.length, sOk p (N ++ [n]) d) := by
  simp [nodeP, h]
end
end
end Go.Proofs.YtjikjejfobnfnaaGreatDoor.imp
namespace Go.Proofs.YtjikjejfobnfnaaGreatDoor.imp
open Go.RowKit Go.Proofs.YtjikjejfobnfnaaGreatDoor.num Go.Proofs.YtjikjejfobnfnaaGreatDoor.lex Go.Proofs.YtjikjejfobnfnaaGreatDoor.par
set_option linter.unusedVariables false
set_option linter.unusedSimpArgs false
section
section
variable {ts : List Tok} {fin : Int} {s : S}
theorem isP_bad (h : s.c ≠ 0) (X : ByteArray) : isP ts s X = false := by simp [isP, h]
theorem kindP_bad (h : s.c ≠ 0) (k : Int) : kindP ts s k = false := by simp [kindP, h]
theorem failP_bad (h : s.c ≠ 0) (k : Int) : failP ts fin s k = s := by simp [failP, h]
theorem mustP_bad (h : s.c ≠ 0) (X : ByteArray) : mustP ts fin s X = s := by simp [mustP, isP_bad h, failP_bad h]
theorem nameP_bad (h : s.c ≠ 0) : nameP ts fin s = s := by simp [nameP, kindP_bad h, failP_bad h]
theorem numberP_bad (h : s.c ≠ 0) : numberP ts fin s = s := by simp [numberP, kindP_bad h, failP_bad h]
theorem nodeP_bad (h : s.c ≠ 0) (n : Nd) : nodeP s n = some (0, s) := by simp [nodeP, h]
theorem signP_bad (h : s.c ≠ 0) : signP ts s = ⟨#[]⟩ := by simp [signP, kindP_bad h]
theorem less_c : (less s).c = s.c := rfl
theorem less_a : (less s).a = s.a := rfl
theorem up_c : (up s).c = s.c := rfl
theorem up_a : (up s).a = s.a := rfl
theorem downP_c (h : s.c ≠ 0) : (downP ts fin s).c = s.c := by
  unfold downP
  split
  · rw [failP_bad (by exact h)]; rfl
  · rfl
theorem downP_a (h : s.c ≠ 0) : (downP ts fin s).a = s.a := by
  unfold downP
  split
  · rw [failP_bad (by exact h)]; rfl
  · rfl
theorem cmp_none : cmpP ⟨#[]⟩ = 0 := by decide
theorem op_none (n : Nat) : opP ⟨#[]⟩ n = 0 := by
  simp [opP]
theorem levelL_bad {R : Rec} {n m x : Nat} (hm : 0 < m) (h : s.c ≠ 0) : levelL ts fin R n m x s = some (x, s) := by
  obtain ⟨m, rfl⟩ : ∃ g, m = g + 1 := ⟨m - 1, by omega⟩
  simp [levelL, h]
theorem joinL_bad {R : Rec} {w : ByteArray} {k : Int} {c : Cmd} {m x : Nat} (hm : 0 < m) (h : s.c ≠ 0) : joinL ts fin R w k c m x s = some (x, s) := by
  obtain ⟨m, rfl⟩ : ∃ g, m = g + 1 := ⟨m - 1, by omega⟩
  simp [joinL, isP_bad h]
theorem stmtsL_bad {R : Rec} {m : Nat} {l : List Nat} (hm : 0 < m) (h : s.c ≠ 0) : stmtsL ts fin R m l s = some (l, s) := by
  obtain ⟨m, rfl⟩ : ∃ g, m = g + 1 := ⟨m - 1, by omega⟩
  simp [stmtsL, h]
theorem argsL_bad {R : Rec} {m : Nat} {l : List Nat} (hm : 0 < m) (h : s.c ≠ 0) : argsL ts fin R m l s = some (l, s) := by
  obtain ⟨m, rfl⟩ : ∃ g, m = g + 1 := ⟨m - 1, by omega⟩
  simp [argsL, h]
theorem commaL_bad {k : Int} {m : Nat} {l : List Nat} (hm : 0 < m) (h : s.c ≠ 0) : commaL ts fin k m l s = some (l, s) := by
  obtain ⟨m, rfl⟩ : ∃ g, m = g + 1 := ⟨m - 1, by omega⟩
  simp [commaL, isP_bad h]
theorem localsL_bad {m : Nat} {l : List Nat} (hm : 0 < m) (h : s.c ≠ 0) : localsL ts fin m l s = some (l, s) := by
  obtain ⟨m, rfl⟩ : ∃ g, m = g + 1 := ⟨m - 1, by omega⟩
  simp [localsL, isP_bad h]
theorem paramsL_bad {m : Nat} {l : List Nat} (hm : 0 < m) (h : s.c ≠ 0) : paramsL ts fin m l s = some (l, s) := by
  obtain ⟨m, rfl⟩ : ∃ g, m = g + 1 := ⟨m - 1, by omega⟩
  simp [paramsL, h]
end
/-- It ends, and the fault stays. -/
def MB {α : Type} (o : Option (α × S)) (s : S) : Prop := ∃ x s', o = some (x, s') ∧ s'.c = s.c ∧ s'.a = s.a
def rk : Cmd → Nat
  | .primary => 1
  | .unary => 2
  | .level n => 3 + (7 - n)
  | .last => 10
  | .both => 11
  | .cond => 12
  | .block => 1
  | .named => 10
  | .branch => 10
  | .statement => 13
  | .function => 1
def GB (n : Nat) (R : Rec) : Prop := ∀ c s, rk c ≤ n → s.c ≠ 0 → MB (R c s) s
section
variable {ts : List Tok} {fin : Int} {s : S} {R : Rec} {n : Nat}
theorem primary_mb (G : GB n R) (hn : rk .primary ≤ n + 1) (hc : s.c ≠ 0) : MB (primaryF ts fin R s) s := by
  simp only [rk] at hn
  simp only [primaryF, MB, isP_bad, kindP_bad, nameP_bad, numberP_bad, mustP_bad, failP_bad, nodeP_bad, signP_bad, downP_c, downP_a, less_c, less_a, up_c, up_a, ne_eq, not_false_eq_true, if_false, if_true, Bool.false_eq_true, Bool.or_false, Bool.false_and, hc, cmp_none]
  exact ⟨_, _, rfl, by simp only [isP_bad, kindP_bad, nameP_bad, numberP_bad, mustP_bad, failP_bad, nodeP_bad, signP_bad, downP_c, downP_a, less_c, less_a, up_c, up_a, ne_eq, not_false_eq_true, if_false, if_true, Bool.false_eq_true, Bool.or_false, Bool.false_and, hc, cmp_none], by simp only [isP_bad, kindP_bad, nameP_bad, numberP_bad, mustP_bad, failP_bad, nodeP_bad, signP_bad, downP_c, downP_a, less_c, less_a, up_c, up_a, ne_eq, not_false_eq_true, if_false, if_true, Bool.false_eq_true, Bool.or_false, Bool.false_and, hc, cmp_none]⟩
theorem unary_mb (G : GB n R) (hn : rk .unary ≤ n + 1) (hc : s.c ≠ 0) : MB (unaryF ts fin R s) s := by
  simp only [rk] at hn
  obtain ⟨x1, s1, e1, c1, a1⟩ := G .primary s (by simp only [rk]; omega) (by simp only [ne_eq, hc, not_false_eq_true])
  simp only [unaryF, MB, isP_bad, kindP_bad, nameP_bad, numberP_bad, mustP_bad, failP_bad, nodeP_bad, signP_bad, downP_c, downP_a, less_c, less_a, up_c, up_a, ne_eq, not_false_eq_true, if_false, if_true, Bool.false_eq_true, Bool.or_false, Bool.false_and, hc, cmp_none, e1, c1, a1]
  exact ⟨_, _, rfl, by simp only [isP_bad, kindP_bad, nameP_bad, numberP_bad, mustP_bad, failP_bad, nodeP_bad, signP_bad, downP_c, downP_a, less_c, less_a, up_c, up_a, ne_eq, not_false_eq_true, if_false, if_true, Bool.false_eq_true, Bool.or_false, Bool.false_and, hc, cmp_none, e1, c1, a1], by simp only [isP_bad, kindP_bad, nameP_bad, numberP_bad, mustP_bad, failP_bad, nodeP_bad, signP_bad, downP_c, downP_a, less_c, less_a, up_c, up_a, ne_eq, not_false_eq_true, if_false, if_true, Bool.false_eq_true, Bool.or_false, Bool.false_and, hc, cmp_none, e1, c1, a1]⟩
theorem last_mb (G : GB n R) (hn : rk .last ≤ n + 1) (hc : s.c ≠ 0) : MB (lastF ts fin R s) s := by
  simp only [rk] at hn
  obtain ⟨x1, s1, e1, c1, a1⟩ := G (.level 1) s (by simp only [rk]; omega) (by simp only [ne_eq, hc, not_false_eq_true])
  simp only [lastF, MB, isP_bad, kindP_bad, nameP_bad, numberP_bad, mustP_bad, failP_bad, nodeP_bad, signP_bad, downP_c, downP_a, less_c, less_a, up_c, up_a, ne_eq, not_false_eq_true, if_false, if_true, Bool.false_eq_true, Bool.or_false, Bool.false_and, hc, cmp_none, e1, c1, a1]
  exact ⟨_, _, rfl, by simp only [isP_bad, kindP_bad, nameP_bad, numberP_bad, mustP_bad, failP_bad, nodeP_bad, signP_bad, downP_c, downP_a, less_c, less_a, up_c, up_a, ne_eq, not_false_eq_true, if_false, if_true, Bool.false_eq_true, Bool.or_false, Bool.false_and, hc, cmp_none, e1, c1, a1], by simp only [isP_bad, kindP_bad, nameP_bad, numberP_bad, mustP_bad, failP_bad, nodeP_bad, signP_bad, downP_c, downP_a, less_c, less_a, up_c, up_a, ne_eq, not_false_eq_true, if_false, if_true, Bool.false_eq_true, Bool.or_false, Bool.false_and, hc, cmp_none, e1, c1, a1]⟩
theorem named_mb (G : GB n R) (hn : rk .named ≤ n + 1) (hc : s.c ≠ 0) : MB (namedF ts fin R s) s := by
  simp only [rk] at hn
  obtain ⟨x1, s1, e1, c1, a1⟩ := G (.level 1) s (by simp only [rk]; omega) (by simp only [ne_eq, hc, not_false_eq_true])
  simp only [namedF, setF, MB, isP_bad, kindP_bad, nameP_bad, numberP_bad, mustP_bad, failP_bad, nodeP_bad, signP_bad, downP_c, downP_a, less_c, less_a, up_c, up_a, ne_eq, not_false_eq_true, if_false, if_true, Bool.false_eq_true, Bool.or_false, Bool.false_and, hc, cmp_none, e1, c1, a1]
  exact ⟨_, _, rfl, by simp only [isP_bad, kindP_bad, nameP_bad, numberP_bad, mustP_bad, failP_bad, nodeP_bad, signP_bad, downP_c, downP_a, less_c, less_a, up_c, up_a, ne_eq, not_false_eq_true, if_false, if_true, Bool.false_eq_true, Bool.or_false, Bool.false_and, hc, cmp_none, e1, c1, a1], by simp only [isP_bad, kindP_bad, nameP_bad, numberP_bad, mustP_bad, failP_bad, nodeP_bad, signP_bad, downP_c, downP_a, less_c, less_a, up_c, up_a, ne_eq, not_false_eq_true, if_false, if_true, Bool.false_eq_true, Bool.or_false, Bool.false_and, hc, cmp_none, e1, c1, a1]⟩
theorem block_mb (G : GB n R) (hn : rk .block ≤ n + 1) (hc : s.c ≠ 0) : MB (blockF ts fin R s) s := by
  simp only [rk] at hn
  simp only [blockF, MB, isP_bad, kindP_bad, nameP_bad, numberP_bad, mustP_bad, failP_bad, nodeP_bad, signP_bad, downP_c, downP_a, less_c, less_a, up_c, up_a, ne_eq, not_false_eq_true, if_false, if_true, Bool.false_eq_true, Bool.or_false, Bool.false_and, hc, cmp_none]
  exact ⟨_, _, rfl, by simp only [isP_bad, kindP_bad, nameP_bad, numberP_bad, mustP_bad, failP_bad, nodeP_bad, signP_bad, downP_c, downP_a, less_c, less_a, up_c, up_a, ne_eq, not_false_eq_true, if_false, if_true, Bool.false_eq_true, Bool.or_false, Bool.false_and, hc, cmp_none], by simp only [isP_bad, kindP_bad, nameP_bad, numberP_bad, mustP_bad, failP_bad, nodeP_bad, signP_bad, downP_c, downP_a, less_c, less_a, up_c, up_a, ne_eq, not_false_eq_true, if_false, if_true, Bool.false_eq_true, Bool.or_false, Bool.false_and, hc, cmp_none]⟩
theorem branch_mb (G : GB n R) (hn : rk .branch ≤ n + 1) (hc : s.c ≠ 0) : MB (branchF ts fin R s) s := by
  simp only [rk] at hn
  obtain ⟨x1, s1, e1, c1, a1⟩ := G (.level 1) s (by simp only [rk]; omega) (by simp only [ne_eq, hc, not_false_eq_true])
  obtain ⟨x2, s2, e2, c2, a2⟩ := G (.level 1) s1 (by simp only [rk]; omega) (by simp only [c1, ne_eq, hc, not_false_eq_true])
  obtain ⟨x3, s3, e3, c3, a3⟩ := G .block s2 (by simp only [rk]; omega) (by simp only [c1, c2, ne_eq, hc, not_false_eq_true])
  simp only [branchF, forF, MB, isP_bad, kindP_bad, nameP_bad, numberP_bad, mustP_bad, failP_bad, nodeP_bad, signP_bad, downP_c, downP_a, less_c, less_a, up_c, up_a, ne_eq, not_false_eq_true, if_false, if_true, Bool.false_eq_true, Bool.or_false, Bool.false_and, hc, cmp_none, e1, c1, a1, e2, c2, a2, e3, c3, a3]
  exact ⟨_, _, rfl, by simp only [isP_bad, kindP_bad, nameP_bad, numberP_bad, mustP_bad, failP_bad, nodeP_bad, signP_bad, downP_c, downP_a, less_c, less_a, up_c, up_a, ne_eq, not_false_eq_true, if_false, if_true, Bool.false_eq_true, Bool.or_false, Bool.false_and, hc, cmp_none, e1, c1, a1, e2, c2, a2, e3, c3, a3], by simp only [isP_bad, kindP_bad, nameP_bad, numberP_bad, mustP_bad, failP_bad, nodeP_bad, signP_bad, downP_c, downP_a, less_c, less_a, up_c, up_a, ne_eq, not_false_eq_true, if_false, if_true, Bool.false_eq_true, Bool.or_false, Bool.false_and, hc, cmp_none, e1, c1, a1, e2, c2, a2, e3, c3, a3]⟩
theorem statement_mb (G : GB n R) (hn : rk .statement ≤ n + 1) (hc : s.c ≠ 0) : MB (statementF ts fin R s) s := by
  simp only [rk] at hn
  simp only [statementF, MB, isP_bad, kindP_bad, nameP_bad, numberP_bad, mustP_bad, failP_bad, nodeP_bad, signP_bad, downP_c, downP_a, less_c, less_a, up_c, up_a, ne_eq, not_false_eq_true, if_false, if_true, Bool.false_eq_true, Bool.or_false, Bool.false_and, hc, cmp_none]
  exact ⟨_, _, rfl, by simp only [isP_bad, kindP_bad, nameP_bad, numberP_bad, mustP_bad, failP_bad, nodeP_bad, signP_bad, downP_c, downP_a, less_c, less_a, up_c, up_a, ne_eq, not_false_eq_true, if_false, if_true, Bool.false_eq_true, Bool.or_false, Bool.false_and, hc, cmp_none], by simp only [isP_bad, kindP_bad, nameP_bad, numberP_bad, mustP_bad, failP_bad, nodeP_bad, signP_bad, downP_c, downP_a, less_c, less_a, up_c, up_a, ne_eq, not_false_eq_true, if_false, if_true, Bool.false_eq_true, Bool.or_false, Bool.false_and, hc, cmp_none]⟩
theorem level_mb (G : GB n R) (k : Nat) (hn : rk (.level k) ≤ n + 1) (hc : s.c ≠ 0) : MB (levelF ts fin R k s) s := by
  simp only [rk] at hn
  unfold levelF
  split
  · exact G .unary s (by simp only [rk]; omega) hc
  · obtain ⟨x1, s1, e1, c1, a1⟩ := G (.level (k + 1)) s (by simp only [rk]; omega) hc
    rw [e1]
    simp only [levelL_bad (show 0 < 1000 by omega) (show s1.c ≠ 0 by rw [c1]; exact hc)]
    exact ⟨_, _, rfl, c1, a1⟩
theorem both_mb (G : GB n R) (hn : rk .both ≤ n + 1) (hc : s.c ≠ 0) : MB (bothF ts fin R s) s := by
  simp only [rk] at hn
  obtain ⟨x1, s1, e1, c1, a1⟩ := G .last s (by simp only [rk]; omega) hc
  have hc1 : s1.c ≠ 0 := by rw [c1]; exact hc
  simp only [bothF, e1, joinL_bad (show 0 < 1000 by omega) hc1]
  exact ⟨_, _, rfl, c1, a1⟩
theorem cond_mb (G : GB n R) (hn : rk .cond ≤ n + 1) (hc : s.c ≠ 0) : MB (condF ts fin R s) s := by
  simp only [rk] at hn
  obtain ⟨x1, s1, e1, c1, a1⟩ := G .both s (by simp only [rk]; omega) hc
  have hc1 : s1.c ≠ 0 := by rw [c1]; exact hc
  simp only [condF, e1, joinL_bad (show 0 < 1000 by omega) hc1]
  exact ⟨_, _, rfl, c1, a1⟩
theorem function_mb (G : GB n R) (hn : rk .function ≤ n + 1) (hc : s.c ≠ 0) : MB (functionF ts fin R s) s := by
  simp only [functionF, nameP_bad hc, mustP_bad hc, paramsL_bad (show 0 < 1000 by omega) hc]
  rw [if_neg (by rw [downP_c hc]; exact hc)]
  exact ⟨_, _, rfl, downP_c hc, downP_a hc⟩
end
theorem run_bad (ts : List Tok) (fin : Int) : ∀ n f, n ≤ f → GB n (run ts fin f) := by
  intro n
  induction n with
  | zero => intro f hf c s hr hc; cases c <;> simp only [rk] at hr <;> omega
  | succ n ih =>
    intro f hf c s hr hc
    obtain ⟨f, rfl⟩ : ∃ g, f = g + 1 := ⟨f - 1, by omega⟩
    have G := ih f (by omega)
    cases c with
    | primary => exact primary_mb G hr hc
    | unary => exact unary_mb G hr hc
    | level k => exact level_mb G k hr hc
    | last => exact last_mb G hr hc
    | both => exact both_mb G hr hc
    | cond => exact cond_mb G hr hc
    | block => exact block_mb G hr hc
    | named => exact named_mb G hr hc
    | branch => exact branch_mb G hr hc
    | statement => exact statement_mb G hr hc
    | function => exact function_mb G hr hc
end
section
section
variable {ts : List Tok} {fin : Int} {t : T} {R : RecI}
theorem tok_bad (h : t.c ≠ 0) : tokT ts fin t = ⟨0, fin, ⟨#[]⟩, 0⟩ := by simp [tokT, tokA, h]
theorem sees_bad (h : t.c ≠ 0) (X : ByteArray) (hX : ¬ (⟨#[]⟩ : ByteArray) = X) : seesT ts fin t X = false := by simp [seesT, tok_bad h, hX]
theorem failT_bad (h : t.c ≠ 0) (k : Int) : failT ts fin t k = t := by simp [failT, h]
theorem mustT_bad (h : t.c ≠ 0) (X : ByteArray) : mustT ts fin t X = t := by simp [mustT, failT_bad h]
theorem mustK_bad (h : t.c ≠ 0) (k : Int) : mustK ts fin t k = t := by simp [mustK, failT_bad h]
theorem upT_c : (upT t).c = t.c := rfl
theorem upT_a : (upT t).a = t.a := rfl
theorem lessT_c : (lessT t).c = t.c := rfl
theorem lessT_a : (lessT t).a = t.a := rfl
theorem nmT_c (h : t.c ≠ 0) : (nmT ts fin t).c = t.c := by rw [nmT, upT_c, mustK_bad h]
theorem nmT_a (h : t.c ≠ 0) : (nmT ts fin t).a = t.a := by rw [nmT, upT_a, mustK_bad h]
theorem cmpT_c (h : t.c ≠ 0) : (cmpT ts fin t).c = t.c := by unfold cmpT; split <;> simp [failT_bad h]
theorem cmpT_a (h : t.c ≠ 0) : (cmpT ts fin t).a = t.a := by unfold cmpT; split <;> simp [failT_bad h]
theorem deeperT_c (h : t.c ≠ 0) : (deeperT ts fin t).c = t.c := by
  unfold deeperT
  split
  · rw [failT_bad (by exact h)]; rfl
  · rfl
theorem deeperT_a (h : t.c ≠ 0) : (deeperT ts fin t).a = t.a := by
  unfold deeperT
  split
  · rw [failT_bad (by exact h)]; rfl
  · rfl
theorem levelLI_bad {n m : Nat} {p : P} (hm : 0 < m) (h : t.c ≠ 0) : levelLI ts fin R n m p t = some (p, t) := by
  obtain ⟨m, rfl⟩ : ∃ g, m = g + 1 := ⟨m - 1, by omega⟩
  simp [levelLI, tok_bad h, op_none]
theorem bothLI_bad {m : Nat} {p : P} (hm : 0 < m) (h : t.c ≠ 0) : bothLI ts fin R m p t = some (p, t) := by
  obtain ⟨m, rfl⟩ : ∃ g, m = g + 1 := ⟨m - 1, by omega⟩
  simp [bothLI, sees_bad h]
theorem condLI_bad {m : Nat} {p : P} (hm : 0 < m) (h : t.c ≠ 0) : condLI ts fin R m p t = some (p, t) := by
  obtain ⟨m, rfl⟩ : ∃ g, m = g + 1 := ⟨m - 1, by omega⟩
  simp [condLI, sees_bad h]
theorem termsLI_bad {m : Nat} {ps : List P} (hm : 0 < m) (h : t.c ≠ 0) : termsLI ts fin R m ps t = some (ps, t) := by
  obtain ⟨m, rfl⟩ : ∃ g, m = g + 1 := ⟨m - 1, by omega⟩
  simp [termsLI, sees_bad h]
theorem namesLI_bad {k : Int} {m : Nat} {ps : List P} (hm : 0 < m) (h : t.c ≠ 0) : namesLI ts fin k m ps t = some (ps, t) := by
  obtain ⟨m, rfl⟩ : ∃ g, m = g + 1 := ⟨m - 1, by omega⟩
  simp [namesLI, sees_bad h]
theorem localsLI_bad {m : Nat} {ps : List P} (hm : 0 < m) (h : t.c ≠ 0) : localsLI ts fin m ps t = some (ps, t) := by
  obtain ⟨m, rfl⟩ : ∃ g, m = g + 1 := ⟨m - 1, by omega⟩
  simp [localsLI, sees_bad h]
theorem statementsLI_bad {m : Nat} {ps : List P} (hm : 0 < m) (h : t.c ≠ 0) : statementsLI ts fin R m ps t = some (ps, t) := by
  obtain ⟨m, rfl⟩ : ∃ g, m = g + 1 := ⟨m - 1, by omega⟩
  simp [statementsLI, h]
theorem progLI_bad {m : Nat} {ps : List P} (hm : 0 < m) (h : t.c ≠ 0) : progLI ts fin R m ps t = some (ps, t) := by
  obtain ⟨m, rfl⟩ : ∃ g, m = g + 1 := ⟨m - 1, by omega⟩
  simp [progLI, tok_bad h]
end
/-- It ends, and the fault stays. -/
def IB {β : Type} (o : Option (β × T)) (t : T) : Prop := ∃ x t', o = some (x, t') ∧ t'.c = t.c ∧ t'.a = t.a
def rkI : Cm → Nat
  | .primary => 1
  | .unary => 2
  | .level n => if n ≤ 6 then 3 + (6 - n) else 1000
  | .var _ => 1
  | .last => 10
  | .both => 11
  | .cond => 12
  | .statement => 1
  | .block => 1000
def GI (n : Nat) (R : RecI) : Prop := ∀ c t, rkI c ≤ n → t.c ≠ 0 → IB (R c t) t
section
variable {ts : List Tok} {fin : Int} {t : T} {R : RecI} {n : Nat}
theorem GI.lev (G : GI n R) (h9 : 9 ≤ n) (k : Nat) (hk : k ≤ 6) (hc : t.c ≠ 0) : IB (R (.level k) t) t := G (.level k) t (by simp only [rkI, if_pos hk]; omega) hc
theorem names_ib (k : Int) (hc : t.c ≠ 0) : IB (namesI ts fin k t) t := by
  unfold namesI
  rw [namesLI_bad (by omega) (by rw [nmT_c hc]; exact hc)]
  exact ⟨_, _, rfl, nmT_c hc, nmT_a hc⟩
theorem params_ib (hc : t.c ≠ 0) : IB (paramsI ts fin t) t := by
  unfold paramsI
  rw [sees_bad hc _ (by decide)]
  exact names_ib 5 hc
theorem locals_ib (hc : t.c ≠ 0) : IB (localsI ts fin t) t := by
  unfold localsI
  rw [localsLI_bad (by omega) hc]
  exact ⟨_, _, rfl, rfl, rfl⟩
theorem lastTerm_ib (G : GI n R) (h9 : 9 ≤ n) (hc : t.c ≠ 0) : IB (lastTermI ts fin R t) t := by
  obtain ⟨x1, t1, e1, c1, a1⟩ := G.lev h9 1 (by omega) hc
  have hc1 : t1.c ≠ 0 := by rw [c1]; exact hc
  simp only [lastTermI, e1]
  exact ⟨_, _, rfl, by rw [mustT_bad hc1, upT_c, c1], by rw [mustT_bad hc1, upT_a, a1]⟩
theorem terms_ib (G : GI n R) (h9 : 9 ≤ n) (hc : t.c ≠ 0) : IB (termsI ts fin R t) t := by
  obtain ⟨x1, t1, e1, c1, a1⟩ := G.lev h9 1 (by omega) hc
  have hc1 : t1.c ≠ 0 := by rw [c1]; exact hc
  simp only [termsI, e1]
  rw [termsLI_bad (by omega) hc1]
  exact ⟨_, _, rfl, c1, a1⟩
theorem callTerms_ib (G : GI n R) (h9 : 9 ≤ n) (hc : t.c ≠ 0) : IB (callTermsI ts fin R t) t := by
  unfold callTermsI
  rw [sees_bad hc _ (by decide)]
  exact terms_ib G h9 hc
theorem statements_ib (hc : t.c ≠ 0) : IB (statementsI ts fin R t) t := by
  unfold statementsI
  rw [statementsLI_bad (by omega) hc]
  exact ⟨_, _, rfl, rfl, rfl⟩
theorem comparison_ib (G : GI n R) (h9 : 9 ≤ n) (hc : t.c ≠ 0) : IB (comparisonI ts fin R t) t := by
  obtain ⟨x1, t1, e1, c1, a1⟩ := G.lev h9 1 (by omega) hc
  have hc1 : t1.c ≠ 0 := by rw [c1]; exact hc
  obtain ⟨x2, t2, e2, c2, a2⟩ := G.lev (t := upT (cmpT ts fin t1)) h9 1 (by omega) (by rw [upT_c, cmpT_c hc1]; exact hc1)
  simp only [comparisonI, e1, e2]
  exact ⟨_, _, rfl, by rw [c2, upT_c, cmpT_c hc1, c1], by rw [a2, upT_a, cmpT_a hc1, a1]⟩
/-- A block behind a fault. -/
theorem block_ib (hc : t.c ≠ 0) : ∃ po bs t', blockI ts fin R t = some (po, bs, t') ∧ t'.c = t.c ∧ t'.a = t.a := by
  obtain ⟨x1, t1, e1, c1, a1⟩ := statements_ib (ts := ts) (fin := fin) (R := R) (t := deeperT ts fin (upT (mustT ts fin t ⟨#[123]⟩))) (by rw [deeperT_c (by rw [upT_c, mustT_bad hc]; exact hc), upT_c, mustT_bad hc]; exact hc)
  simp only [blockI, e1]
  refine ⟨_, _, _, rfl, ?_, ?_⟩
  · rw [c1, deeperT_c (by rw [upT_c, mustT_bad hc]; exact hc), upT_c, mustT_bad hc]
  · rw [a1, deeperT_a (by rw [upT_c, mustT_bad hc]; exact hc), upT_a, mustT_bad hc]
theorem nextI_ib (G : GI n R) (k : Nat) (hk : k ≤ 6) (hn : 3 + (6 - k) ≤ n + 1) (hc : t.c ≠ 0) : IB (nextI R k t) t := by
  unfold nextI
  split
  · exact G .unary t (by simp only [rkI]; omega) hc
  · exact G (.level (k + 1)) t (by simp only [rkI]; rw [if_pos (by omega)]; omega) hc
theorem runI_step (G : GI n R) (h50 : n + 1 ≤ 50) : GI (n + 1) (stepI ts fin R) := by
  intro c t hr hc
  have s0 := fun X hX => sees_bad (ts := ts) (fin := fin) hc X hX
  cases c with
  | primary =>
    simp only [stepI, primaryI, tok_bad hc, s0 ⟨#[42]⟩ (by decide), s0 ⟨#[40]⟩ (by decide), failT_bad hc]
    exact ⟨_, _, rfl, rfl, rfl⟩
  | unary =>
    simp only [stepI, unaryI, s0 ⟨#[45]⟩ (by decide)]
    exact G .primary t (by simp only [rkI] at hr ⊢; omega) hc
  | level k =>
    simp only [rkI] at hr
    have hk : k ≤ 6 := by
      apply Classical.byContradiction
      intro h
      rw [if_neg h] at hr
      omega
    rw [if_pos hk] at hr
    obtain ⟨x1, t1, e1, c1, a1⟩ := nextI_ib G k hk hr hc
    simp only [stepI, levelI, e1]
    rw [levelLI_bad (by omega) (by rw [c1]; exact hc)]
    exact ⟨_, _, rfl, c1, a1⟩
  | var tk =>
    simp only [stepI, variableI, s0 ⟨#[91]⟩ (by decide)]
    exact ⟨_, _, rfl, rfl, rfl⟩
  | last =>
    simp only [rkI] at hr
    simp only [stepI, lastI, s0 ⟨#[110, 111, 116]⟩ (by decide), s0 ⟨#[91]⟩ (by decide), s0 ⟨#[110, 117, 108, 108]⟩ (by decide)]
    exact comparison_ib G (by omega) hc
  | both =>
    simp only [rkI] at hr
    obtain ⟨x1, t1, e1, c1, a1⟩ := G .last t (by simp only [rkI]; omega) hc
    simp only [stepI, bothI, e1]
    rw [bothLI_bad (by omega) (by rw [c1]; exact hc)]
    exact ⟨_, _, rfl, c1, a1⟩
  | cond =>
    simp only [rkI] at hr
    obtain ⟨x1, t1, e1, c1, a1⟩ := G .both t (by simp only [rkI]; omega) hc
    simp only [stepI, condI, e1]
    rw [condLI_bad (by omega) (by rw [c1]; exact hc)]
    exact ⟨_, _, rfl, c1, a1⟩
  | statement =>
    simp only [stepI, statementI, tok_bad hc, s0 ⟨#[42]⟩ (by decide), s0 ⟨#[105, 102]⟩ (by decide), s0 ⟨#[119, 104, 105, 108, 101]⟩ (by decide), s0 ⟨#[102, 111, 114]⟩ (by decide), s0 ⟨#[114, 101, 97, 100]⟩ (by decide), s0 ⟨#[112, 114, 105, 110, 116]⟩ (by decide), s0 ⟨#[97, 115, 115, 101, 114, 116]⟩ (by decide), s0 ⟨#[115, 116, 111, 112]⟩ (by decide), s0 ⟨#[114, 101, 116, 117, 114, 110]⟩ (by decide), failT_bad hc]
    exact ⟨_, _, rfl, rfl, rfl⟩
  | block => simp only [rkI] at hr; omega
end
theorem runI_bad (ts : List Tok) (fin : Int) : ∀ n f, n ≤ f → n ≤ 50 → GI n (runI ts fin f) := by
  intro n
  induction n with
  | zero => intro f hf h50 c s hr hc; cases c <;> simp only [rkI] at hr <;> (try split at hr) <;> omega
  | succ n ih =>
    intro f hf h50
    obtain ⟨f, rfl⟩ : ∃ g, f = g + 1 := ⟨f - 1, by omega⟩
    exact runI_step (ih f (by omega) (by omega)) (by omega)
end
section
/-- The program's part of a rule of the model. -/
def ruleI (ts : List Tok) (fin : Int) (R : RecI) : Cmd → T → Option (P × T)
  | .primary, t => R .primary t
  | .unary, t => R .unary t
  | .level k, t => if k = 7 then R .unary t else R (.level k) t
  | .last, t => R .last t
  | .both, t => R .both t
  | .cond, t => R .cond t
  | .statement, t => R .statement t
  | .block, t =>
    match blockI ts fin R t with
    | none => none
    | some (po, bs, t1) => some (.node 134 ⟨8, po, 0, ⟨#[]⟩⟩ bs, t1)
  | .named, t => nameStatementI ts fin R (tokT ts fin t) (upT t)
  | .branch, t =>
    if seesT ts fin t ⟨#[105, 102]⟩ then branchI ts fin R (tokT ts fin t) (upT t)
    else if seesT ts fin t ⟨#[119, 104, 105, 108, 101]⟩ then whileI ts fin R (tokT ts fin t).pos (upT t)
    else loopI ts fin R (upT t)
  | .function, t => functionI ts fin R t
/-- Where a rule may begin. -/
structure V (ts : List Tok) (p : Nat) (N : List Nd) (d : Int) : Prop where
  le : p ≤ ts.length
  len : ts.length ≤ 700
  d0 : 0 ≤ d
  d1 : d ≤ 10
  N : N.length ≤ 2 * p
/-- What both tell. -/
def Res (ts : List Tok) (p : Nat) (N : List Nd) (d : Int) (r : Nat × S) (q : P × T) : Prop :=
  (∃ p' pc, p < p' ∧ p' ≤ ts.length ∧ fine pc = true ∧ (post N.length pc).length + 2 * p ≤ 2 * p' ∧
    r = (N.length + (post N.length pc).length - 1, sOk p' (N ++ post N.length pc) d) ∧ q = (pc, tOk p' d)) ∨ Bad r.2 q.2
def pre (ts : List Tok) (p : Nat) : Cmd → Prop
  | .level k => 1 ≤ k ∧ k ≤ 7
  | .named => knd ts p = 1
  | .branch => txt ts p = ⟨#[105, 102]⟩ ∨ txt ts p = ⟨#[119, 104, 105, 108, 101]⟩ ∨ txt ts p = ⟨#[102, 111, 114]⟩
  | _ => True
structure Gd (ts : List Tok) (fin : Int) (n : Nat) (R : Rec) (R' : RecI) : Prop where
  mb : GB 13 R
  ib : GI 12 R'
  sim : ∀ c p N d, V ts p N d → pre ts p c → (ts.length - p) * 16 + rk c < n → ∃ r q, R c (sOk p N d) = some r ∧ ruleI ts fin R' c (tOk p d) = some q ∧ Res ts p N d r q
theorem post_pos {pc : P} (h : fine pc = true) (k : Nat) : 1 ≤ (post k pc).length := by
  cases pc with
  | nil => simp [fine] at h
  | node ty h ks => simp [post]; omega
section
variable {ts : List Tok} {fin : Int} {p : Nat} {N : List Nd} {d : Int} {R : Rec} {R' : RecI} {n : Nat}
/-- A rule that is called: both go on, or both found the fault. -/
theorem Gd.call (G : Gd ts fin n R R') (c : Cmd) (v : V ts p N d) (hp : pre ts p c) (hm : (ts.length - p) * 16 + rk c < n) :
    (∃ p1 pc, R c (sOk p N d) = some (N.length + (post N.length pc).length - 1, sOk p1 (N ++ post N.length pc) d) ∧ ruleI ts fin R' c (tOk p d) = some (pc, tOk p1 d) ∧
      p < p1 ∧ p1 ≤ ts.length ∧ fine pc = true ∧ (post N.length pc).length + 2 * p ≤ 2 * p1 ∧ 1 ≤ (post N.length pc).length ∧ V ts p1 (N ++ post N.length pc) d) ∨
    (∃ x s1 pc t1, R c (sOk p N d) = some (x, s1) ∧ ruleI ts fin R' c (tOk p d) = some (pc, t1) ∧ s1.c ≠ 0 ∧ t1.c ≠ 0 ∧ t1.c = s1.c ∧ t1.a = s1.a) := by
  obtain ⟨r, q, hr, hq, h⟩ := G.sim c p N d v hp hm
  rcases h with ⟨p1, pc, a1, a2, a3, a4, rfl, rfl⟩ | h
  · refine Or.inl ⟨p1, pc, hr, hq, a1, a2, a3, a4, post_pos a3 _, ⟨a2, v.len, v.d0, v.d1, ?_⟩⟩
    have := v.N
    simp only [List.length_append]
    omega
  · exact Or.inr ⟨r.1, r.2, q.1, q.2, hr, hq, h.1, by rw [h.2.1]; exact h.1, h.2.1, h.2.2⟩
/-- The end behind a fault. -/
theorem fin_bad {o : Option (Nat × S)} {o' : Option (P × T)} {s1 : S} {t1 : T} (h : MB o s1) (h' : IB o' t1) (hc : s1.c ≠ 0) (e : t1.c = s1.c) (e' : t1.a = s1.a) : ∃ r q, o = some r ∧ o' = some q ∧ Res ts p N d r q := by
  obtain ⟨x, s2, e1, e2, e3⟩ := h
  obtain ⟨y, t2, f1, f2, f3⟩ := h'
  exact ⟨_, _, e1, f1, Or.inr ⟨by rw [e2]; exact hc, by rw [f2, e2, e], by rw [f3, e3, e']⟩⟩
theorem MB.mk {α : Type} {x : α} {s1 s2 : S} (h : s2.c = s1.c) (h' : s2.a = s1.a) : MB (some (x, s2)) s1 := ⟨_, _, rfl, h, h'⟩
theorem IB.mk {α : Type} {x : α} {s1 s2 : T} (h : s2.c = s1.c) (h' : s2.a = s1.a) : IB (some (x, s2)) s1 := ⟨_, _, rfl, h, h'⟩
theorem MB.node {s1 s2 : S} (nd : Nd) (hc : s1.c ≠ 0) (h : s2.c = s1.c) (h' : s2.a = s1.a) : MB (nodeP s2 nd) s1 := by
  rw [nodeP_bad (by rw [h]; exact hc)]
  exact MB.mk h h'
/-- A sign or word that must come. -/
theorem must_cases (tk : ∀ t ∈ ts, TK t) (v : V ts p N d) (X : ByteArray) (hX : isWord X.data.toList = true ∨ signs.contains X.data.toList = true) (hn : X ≠ ⟨#[]⟩) :
    (txt ts p = X ∧ mustP ts fin (sOk p N d) X = sOk (p + 1) N d ∧ mustT ts fin (tOk p d) X = tOk p d ∧ upT (mustT ts fin (tOk p d) X) = tOk (p + 1) d ∧ p + 1 ≤ ts.length ∧ V ts (p + 1) N d) ∨
    (mustP ts fin (sOk p N d) X = ⟨p, N, d, 6, loc ts fin p⟩ ∧ mustT ts fin (tOk p d) X = ⟨p, d, 6, loc ts fin p⟩) := by
  by_cases e : txt ts p = X
  · have hl := txt_lt hn e
    have h7 := v.len
    refine Or.inl ⟨e, ?_, ?_, ?_, hl, ⟨hl, v.len, v.d0, v.d1, by have := v.N; omega⟩⟩
    · rw [mustP, is_ok tk X hX hn]; simp [e, up_ok]
    · rw [mustT, sees_ok]; simp [e]
    · rw [mustT, sees_ok]; simp only [e, decide_true, if_true]; exact upT_ok (by omega)
  · refine Or.inr ⟨?_, ?_⟩
    · rw [mustP, is_ok tk X hX hn]; simp only [e, decide_false, Bool.false_eq_true, if_false]; exact fail_ok 6
    · rw [mustT, sees_ok]; simp only [e, decide_false, Bool.false_eq_true, if_false]; exact failT_ok 6
/-- A name that must come. -/
theorem name_cases (v : V ts p N d) :
    (knd ts p = 1 ∧ nameP ts fin (sOk p N d) = sOk (p + 1) N d ∧ nameT ts (sOk p N d) = txt ts p ∧ mustK ts fin (tOk p d) 1 = tOk p d ∧ nmT ts fin (tOk p d) = tOk (p + 1) d ∧ (∀ k, nmH ts fin k (tOk p d) = ⟨k, loc ts fin p, 0, txt ts p⟩) ∧ p + 1 ≤ ts.length ∧ V ts (p + 1) N d) ∨
    (knd ts p ≠ 1 ∧ nameP ts fin (sOk p N d) = ⟨p, N, d, 6, loc ts fin p⟩ ∧ mustK ts fin (tOk p d) 1 = ⟨p, d, 6, loc ts fin p⟩) := by
  by_cases e : knd ts p = 1
  · have hl := knd_lt (ts := ts) (p := p) (by omega)
    have h7 := v.len
    have hk : mustK ts fin (tOk p d) 1 = tOk p d := by rw [mustK, tok_ok]; simp [e]
    refine Or.inl ⟨e, ?_, ?_, hk, ?_, ?_, hl, ⟨hl, v.len, v.d0, v.d1, by have := v.N; omega⟩⟩
    · rw [nameP, kind_ok _ (by omega)]; simp [e, up_ok]
    · rw [nameT, kind_ok _ (by omega)]; simp [e, text_ok]
    · rw [nmT, hk]; exact upT_ok (by omega)
    · intro k; rw [nmH, hk, tok_ok]
  · refine Or.inr ⟨e, ?_, ?_⟩
    · rw [nameP, kind_ok _ (by omega)]; simp only [e, decide_false, Bool.false_eq_true, if_false]; exact fail_ok 6
    · rw [mustK, tok_ok]; simp only [e, if_false]; exact failT_ok 6
theorem down_cases (v : V ts p N d) :
    (downP ts fin (sOk p N d) = sOk p N (d + 1) ∧ deeperT ts fin (tOk p d) = tOk p (d + 1) ∧ V ts p N (d + 1)) ∨
    (downP ts fin (sOk p N d) = ⟨p, N, d + 1, 7, loc ts fin p⟩ ∧ deeperT ts fin (tOk p d) = ⟨p, d + 1, 7, loc ts fin p⟩) := by
  have h0 := v.d0
  have h1 := v.d1
  by_cases e : d = 10
  · exact Or.inr ⟨down_no e, deep_no e⟩
  · exact Or.inl ⟨down_ok ⟨h0, by omega⟩, deep_ok ⟨h0, by omega⟩, ⟨v.le, v.len, by omega, by omega, v.N⟩⟩
theorem V.up (v : V ts p N d) (h : p + 1 ≤ ts.length) : V ts (p + 1) N d := ⟨h, v.len, v.d0, v.d1, by have := v.N; omega⟩
theorem V.big (v : V ts p N d) : N.length < 1000000 := by have := v.N; have := v.le; have := v.len; omega
/-- One node alone. -/
theorem res_leaf (ty : Nat) (h : Hd) (p' : Nat) (h1 : p < p') (h2 : p' ≤ ts.length) (hf : leafT.contains ty = true) (h164 : ¬ ty = 164) :
    Res ts p N d (N.length, sOk p' (N ++ [⟨h.kind, h.pos, h.num, h.name, []⟩]) d) (.node ty h [], tOk p' d) := by
  have e : post N.length (.node ty h []) = [⟨h.kind, h.pos, h.num, h.name, []⟩] := by simp [post, postL, h164]
  refine Or.inl ⟨p', .node ty h [], h1, h2, ?_, ?_, ?_, rfl⟩
  · simp only [fine, fineT, fineL, List.length_nil, hf]; simp
  · rw [e]; simp only [List.length_singleton]; omega
  · rw [e]; simp
end
end
section
section
variable {ts : List Tok} {fin : Int} {p : Nat} {N : List Nd} {d : Int} {R : Rec} {R' R2 : RecI} {n : Nat}
theorem post_one (k ty : Nat) (h : Hd) (a : P) (ht : ¬ ty = 164) : post k (.node ty h [a]) = post k a ++ [⟨h.kind, h.pos, h.num, h.name, [k + (post k a).length - 1]⟩] := by simp [post, postL, ht]
theorem post_two (k ty : Nat) (h : Hd) (a b : P) (ht : ¬ ty = 164) : post k (.node ty h [a, b]) = post k a ++ post (k + (post k a).length) b ++ [⟨h.kind, h.pos, h.num, h.name, [k + (post k a).length - 1, k + (post k a).length + (post (k + (post k a).length) b).length - 1]⟩] := by simp [post, postL, ht]
theorem post_minus (k : Nat) (h : Hd) (a : P) : post k (.node 164 h [a]) = ⟨24, h.pos, 0, ⟨#[]⟩, []⟩ :: post (k + 1) a ++ [⟨h.kind, h.pos, h.num, h.name, [k, k + 1 + (post (k + 1) a).length - 1]⟩] := by simp [post, postL]
/-- A sign that must come, at the end of something deeper. -/
theorem must_less (tk : ∀ t ∈ ts, TK t) (v : V ts p N (d + 1)) (h0 : 0 ≤ d) (X : ByteArray) (hX : isWord X.data.toList = true ∨ signs.contains X.data.toList = true) (hn : X ≠ ⟨#[]⟩) :
    (mustP ts fin (less (sOk p N (d + 1))) X = sOk (p + 1) N d ∧ lessT (upT (mustT ts fin (tOk p (d + 1)) X)) = tOk (p + 1) d ∧ p + 1 ≤ ts.length ∧ V ts (p + 1) N d) ∨
    (∃ s1 t1, mustP ts fin (less (sOk p N (d + 1))) X = s1 ∧ lessT (upT (mustT ts fin (tOk p (d + 1)) X)) = t1 ∧ s1.c ≠ 0 ∧ t1.c = s1.c ∧ t1.a = s1.a) := by
  have h1 := v.d1
  have vd : V ts p N d := ⟨v.le, v.len, h0, by omega, v.N⟩
  rw [less_ok ⟨h0, by omega⟩]
  rcases must_cases (fin := fin) tk v X hX hn with ⟨e, _, _, e2, hl, _⟩ | ⟨_, e2⟩
  · rcases must_cases (fin := fin) tk vd X hX hn with ⟨_, f1, _, f2, _, v'⟩ | ⟨f1, f2⟩
    · exact Or.inl ⟨f1, by rw [e2, lessT_ok ⟨h0, by omega⟩], hl, v'⟩
    · rw [mustT, sees_ok, e] at f2; simp at f2
  · rcases must_cases (fin := fin) tk vd X hX hn with ⟨f, f1, _, _, _, v'⟩ | ⟨f1, _⟩
    · rw [mustT, sees_ok, f] at e2; simp at e2
    · exact Or.inr ⟨_, _, f1, rfl, by simp, by rw [e2]; rfl, by rw [e2]; rfl⟩
theorem not_sign (tk : ∀ t ∈ ts, TK t) {X : ByteArray} (hk : knd ts p ≠ 4) (hX : signs.contains X.data.toList = true) : ¬ txt ts p = X := fun e => hk (knd_sign tk (by rw [e]; exact hX))
theorem not_word (tk : ∀ t ∈ ts, TK t) {X : ByteArray} (hk : knd ts p ≠ 3) (hX : isWord X.data.toList = true) : ¬ txt ts p = X := fun e => hk (knd_word tk (by rw [e]; exact hX))
theorem Gd.term (G : Gd ts fin n R R') (v : V ts p N d) (hm : (ts.length - p) * 16 + 9 < n) :
    (∃ p1 pc, R (.level 1) (sOk p N d) = some (N.length + (post N.length pc).length - 1, sOk p1 (N ++ post N.length pc) d) ∧ R' (.level 1) (tOk p d) = some (pc, tOk p1 d) ∧
      p < p1 ∧ p1 ≤ ts.length ∧ fine pc = true ∧ (post N.length pc).length + 2 * p ≤ 2 * p1 ∧ 1 ≤ (post N.length pc).length ∧ V ts p1 (N ++ post N.length pc) d) ∨
    (∃ x s1 pc t1, R (.level 1) (sOk p N d) = some (x, s1) ∧ R' (.level 1) (tOk p d) = some (pc, t1) ∧ s1.c ≠ 0 ∧ t1.c ≠ 0 ∧ t1.c = s1.c ∧ t1.a = s1.a) := by
  have h := G.call (.level 1) v ⟨by omega, by omega⟩ (by simp only [rk]; omega)
  simpa only [ruleI, show ¬ (1 : Nat) = 7 by omega, if_false] using h
theorem primary_sim (tk : ∀ t ∈ ts, TK t) (G : Gd ts fin n R R') (G2 : Gd ts fin n R R2) (hv : ∀ a t, R' (.var a) t = variableI ts fin R2 a t) (v : V ts p N d) (hm : (ts.length - p) * 16 + 1 ≤ n) :
    ∃ r q, primaryF ts fin R (sOk p N d) = some r ∧ primaryI ts fin R' (tOk p d) = some q ∧ Res ts p N d r q := by
  have k2 : kindP ts (sOk p N d) 2 = decide (knd ts p = 2) := kind_ok 2 (by omega)
  have i1 : isP ts (sOk p N d) ⟨#[40]⟩ = decide (txt ts p = ⟨#[40]⟩) := is_ok tk _ (Or.inr (by decide)) (by decide)
  have i2 : isP ts (sOk p N d) ⟨#[42]⟩ = decide (txt ts p = ⟨#[42]⟩) := is_ok tk _ (Or.inr (by decide)) (by decide)
  have h7 := v.len
  have h8 := v.N
  have h9 := v.d0
  have h10 := v.d1
  unfold primaryF primaryI
  rw [k2, i1, i2]
  simp only [tok_ok, sees_ok, at_ok, decide_eq_true_eq]
  by_cases h2 : knd ts p = 2
  · have hl := knd_lt (ts := ts) (p := p) (by omega)
    have e1 : numberP ts fin (sOk p N d) = sOk (p + 1) N d := by rw [numberP, k2]; simp [h2, up_ok]
    have e2 : numberT ts (sOk p N d) = nbr ts p := by rw [numberT, k2]; simp [h2, num_ok]
    rw [if_pos h2, if_pos h2, e1, e2, node_ok _ v.big, upT_ok (by omega)]
    exact ⟨_, _, rfl, rfl, res_leaf 200 ⟨24, loc ts fin p, nbr ts p, ⟨#[]⟩⟩ (p + 1) (by omega) (by omega) (by decide) (by decide)⟩
  rw [if_neg h2, if_neg h2]
  by_cases h1 : knd ts p = 1
  · have n1 := not_sign tk (p := p) (X := ⟨#[40]⟩) (by omega) (by decide)
    have n2 := not_sign tk (p := p) (X := ⟨#[42]⟩) (by omega) (by decide)
    rcases name_cases (fin := fin) v with ⟨_, e1, e2, _, _, _, hl, v1⟩ | ⟨hx, _⟩
    · rw [if_neg n1, if_neg n2, if_pos h1, e1, e2, upT_ok (by omega), hv]
      have i3 : isP ts (sOk (p + 1) N d) ⟨#[91]⟩ = decide (txt ts (p + 1) = ⟨#[91]⟩) := is_ok tk _ (Or.inr (by decide)) (by decide)
      unfold variableI
      rw [i3, sees_ok]
      simp only [decide_eq_true_eq]
      by_cases hb : txt ts (p + 1) = ⟨#[91]⟩
      · have hl2 := txt_lt (by decide) hb
        rw [if_pos hb, if_pos hb, up_ok, upT_ok (by omega)]
        rcases down_cases (fin := fin) (v1.up hl2) with ⟨f1, f2, v2⟩ | ⟨f1, f2⟩
        · rw [f1, f2, if_pos rfl]
          rcases G2.term v2 (by omega) with ⟨p1, pc, g1, g2, a1, a2, a3, a4, a5, v3⟩ | ⟨x, s1, pc, t1, g1, g2, hc, hc', ec, ea⟩
          · simp only [g1, g2]
            rcases must_less (fin := fin) tk v3 h9 ⟨#[93]⟩ (Or.inr (by decide)) (by decide) with ⟨b1, b2, b3, v4⟩ | ⟨s2, t2, b1, b2, b3, b4, b5⟩
            · rw [b1, b2, node_ok _ v4.big]
              refine ⟨_, _, rfl, rfl, Or.inl ⟨p1 + 1, _, by omega, b3, ?_, ?_, ?_, rfl⟩⟩
              · simp only [fine, fineL, a3, List.length_cons, List.length_nil]; decide
              · rw [post_one _ _ _ _ (by decide)]; simp only [List.length_append, List.length_singleton]; omega
              · rw [post_one _ _ _ _ (by decide)]; simp
            · rw [b1, b2]
              exact fin_bad (MB.node _ b3 rfl rfl) (IB.mk rfl rfl) b3 b4 b5
          · simp only [g1, g2]
            exact fin_bad (MB.node _ hc (by rw [mustP_bad (by exact hc)]; rfl) (by rw [mustP_bad (by exact hc)]; rfl)) (IB.mk (by rw [mustT_bad hc']; rfl) (by rw [mustT_bad hc']; rfl)) hc ec ea
        · rw [f1, f2, if_neg (by simp)]
          obtain ⟨x1, t1, g1, g2, g3⟩ := G2.ib.lev (t := ⟨((p + 1 + 1 : Nat) : Int), d + 1, 7, loc ts fin (p + 1 + 1)⟩) (by omega) 1 (by omega) (by simp)
          have hc' : t1.c ≠ 0 := by rw [g2]; simp
          simp only [g1]
          exact fin_bad (MB.mk rfl rfl) (IB.mk (s1 := t1) (by rw [mustT_bad hc']; rfl) (by rw [mustT_bad hc']; rfl)) (by simp) (by rw [g2]) (by rw [g3])
      · rw [if_neg hb, if_neg hb, node_ok _ v.big]
        exact ⟨_, _, rfl, rfl, res_leaf 201 ⟨25, loc ts fin p, 0, txt ts p⟩ (p + 1) (by omega) (by omega) (by decide) (by decide)⟩
    · exact absurd h1 hx
  rw [if_neg h1]
  by_cases h3 : txt ts p = ⟨#[40]⟩
  · have n2 : ¬ txt ts p = ⟨#[42]⟩ := by rw [h3]; decide
    have hl := txt_lt (by decide) h3
    rw [if_pos h3, if_neg n2, if_pos h3, up_ok, upT_ok (by omega)]
    rcases down_cases (fin := fin) (v.up hl) with ⟨f1, f2, v2⟩ | ⟨f1, f2⟩
    · rw [f1, f2, if_pos rfl]
      rcases G.term v2 (by omega) with ⟨p1, pc, g1, g2, a1, a2, a3, a4, a5, v3⟩ | ⟨x, s1, pc, t1, g1, g2, hc, hc', ec, ea⟩
      · simp only [g1, g2]
        rcases must_less (fin := fin) tk v3 h9 ⟨#[41]⟩ (Or.inr (by decide)) (by decide) with ⟨b1, b2, b3, v4⟩ | ⟨s2, t2, b1, b2, b3, b4, b5⟩
        · rw [b1, b2]
          exact ⟨_, _, rfl, rfl, Or.inl ⟨p1 + 1, pc, by omega, b3, a3, by omega, rfl, rfl⟩⟩
        · rw [b1, b2]
          exact fin_bad (MB.mk rfl rfl) (IB.mk rfl rfl) b3 b4 b5
      · simp only [g1, g2]
        exact fin_bad (MB.mk (s1 := s1) (by rw [mustP_bad (by exact hc)]; rfl) (by rw [mustP_bad (by exact hc)]; rfl)) (IB.mk (by rw [mustT_bad hc']; rfl) (by rw [mustT_bad hc']; rfl)) hc ec ea
    · rw [f1, f2, if_neg (by simp)]
      obtain ⟨x1, t1, g1, g2, g3⟩ := G.ib.lev (t := ⟨((p + 1 : Nat) : Int), d + 1, 7, loc ts fin (p + 1)⟩) (by omega) 1 (by omega) (by simp)
      have hc' : t1.c ≠ 0 := by rw [g2]; simp
      simp only [g1]
      exact fin_bad (MB.mk rfl rfl) (IB.mk (s1 := t1) (by rw [mustT_bad hc']; rfl) (by rw [mustT_bad hc']; rfl)) (by simp) (by rw [g2]) (by rw [g3])
  rw [if_neg h3]
  by_cases h4 : txt ts p = ⟨#[42]⟩
  · have hl := txt_lt (by decide) h4
    rw [if_pos h4, if_pos h4, up_ok, upT_ok (by omega)]
    rcases name_cases (fin := fin) (v.up hl) with ⟨_, e1, e2, e3, e4, _, hl2, v1⟩ | ⟨hx, e1, e2⟩
    · rw [e1, e2, e3, tok_ok, upT_ok (by omega), node_ok _ v.big]
      exact ⟨_, _, rfl, rfl, res_leaf 203 ⟨27, loc ts fin p, 0, txt ts (p + 1)⟩ (p + 1 + 1) (by omega) (by omega) (by decide) (by decide)⟩
    · rw [e1, e2]
      exact fin_bad (MB.node _ (by simp) rfl rfl) (IB.mk rfl rfl) (by simp) rfl rfl
  · rw [if_neg h4, if_neg h4, if_neg h3]
    rcases name_cases (fin := fin) v with ⟨hx, _⟩ | ⟨_, e1, e2⟩
    · exact absurd hx h1
    · rw [e1, isP_bad (by simp), failT_ok]
      simp only [Bool.false_eq_true, if_false]
      exact fin_bad (MB.node _ (by simp) rfl rfl) (IB.mk rfl rfl) (by simp) rfl rfl
end
end
section
section
variable {ts : List Tok} {fin : Int} {p : Nat} {N : List Nd} {d : Int} {R : Rec} {R' R2 : RecI} {n : Nat}
theorem Gd.same (G : Gd ts fin n R R') (c : Cmd) (c' : Cm) (e : ∀ t, ruleI ts fin R' c t = R' c' t) (v : V ts p N d) (hp : pre ts p c) (hm : (ts.length - p) * 16 + rk c < n) :
    (∃ p1 pc, R c (sOk p N d) = some (N.length + (post N.length pc).length - 1, sOk p1 (N ++ post N.length pc) d) ∧ R' c' (tOk p d) = some (pc, tOk p1 d) ∧
      p < p1 ∧ p1 ≤ ts.length ∧ fine pc = true ∧ (post N.length pc).length + 2 * p ≤ 2 * p1 ∧ 1 ≤ (post N.length pc).length ∧ V ts p1 (N ++ post N.length pc) d) ∨
    (∃ x s1 pc t1, R c (sOk p N d) = some (x, s1) ∧ R' c' (tOk p d) = some (pc, t1) ∧ s1.c ≠ 0 ∧ t1.c ≠ 0 ∧ t1.c = s1.c ∧ t1.a = s1.a) := by
  rw [← e]
  exact G.call c v hp hm
theorem unary_sim (tk : ∀ t ∈ ts, TK t) (G : Gd ts fin n R R') (v : V ts p N d) (hm : (ts.length - p) * 16 + 2 ≤ n) :
    ∃ r q, unaryF ts fin R (sOk p N d) = some r ∧ unaryI ts fin R' (tOk p d) = some q ∧ Res ts p N d r q := by
  have i1 : isP ts (sOk p N d) ⟨#[45]⟩ = decide (txt ts p = ⟨#[45]⟩) := is_ok tk _ (Or.inr (by decide)) (by decide)
  have h7 := v.len
  have h8 := v.N
  have h9 := v.d0
  have h10 := v.d1
  unfold unaryF unaryI
  rw [i1, sees_ok]
  simp only [tok_ok, at_ok, decide_eq_true_eq]
  by_cases h1 : txt ts p = ⟨#[45]⟩
  · have hl := txt_lt (by decide) h1
    rw [if_pos h1, if_pos h1, up_ok, upT_ok (by omega)]
    rcases down_cases (fin := fin) (v.up hl) with ⟨f1, f2, v2⟩ | ⟨f1, f2⟩
    · rw [f1, f2, if_pos rfl, node_ok _ v2.big]
      have v3 : V ts (p + 1) (N ++ [⟨24, loc ts fin p, 0, ⟨#[]⟩, []⟩]) (d + 1) := ⟨v2.le, v2.len, v2.d0, v2.d1, by simp only [List.length_append, List.length_singleton]; omega⟩
      have hlen : (N ++ [(⟨24, loc ts fin p, 0, ⟨#[]⟩, []⟩ : Nd)]).length = N.length + 1 := by simp
      rcases G.same .unary .unary (fun _ => rfl) v3 trivial (by simp only [rk]; omega) with ⟨p1, pc, g1, g2, a1, a2, a3, a4, a5, v4⟩ | ⟨x, s1, pc, t1, g1, g2, hc, hc', ec, ea⟩
      · rw [hlen] at g1 a4 a5 v4
        simp only [g1, g2]
        rw [less_ok ⟨h9, by omega⟩, lessT_ok ⟨h9, by omega⟩, node_ok _ v4.big]
        refine ⟨_, _, rfl, rfl, Or.inl ⟨p1, _, by omega, a2, ?_, ?_, ?_, rfl⟩⟩
        · simp only [fine, fineL, a3, List.length_cons, List.length_nil]; decide
        · rw [post_minus]; simp only [List.length_append, List.length_cons, List.length_nil]; omega
        · rw [post_minus]; simp
      · simp only [g1, g2]
        exact fin_bad (MB.node _ hc rfl rfl) (IB.mk rfl rfl) hc ec ea
    · rw [f1, f2, if_neg (by simp)]
      obtain ⟨x1, t1, g1, g2, g3⟩ := G.ib .unary ⟨((p + 1 : Nat) : Int), d + 1, 7, loc ts fin (p + 1)⟩ (by simp only [rkI]; omega) (by simp)
      simp only [g1]
      exact fin_bad (MB.mk rfl rfl) (IB.mk (s1 := t1) rfl rfl) (by simp) (by rw [g2]) (by rw [g3])
  · rw [if_neg h1, if_neg h1]
    rcases G.same .primary .primary (fun _ => rfl) v trivial (by simp only [rk]; omega) with ⟨p1, pc, g1, g2, a1, a2, a3, a4, a5, v4⟩ | ⟨x, s1, pc, t1, g1, g2, hc, hc', ec, ea⟩
    · exact ⟨_, _, g1, g2, Or.inl ⟨p1, pc, a1, a2, a3, a4, rfl, rfl⟩⟩
    · exact ⟨_, _, g1, g2, Or.inr ⟨hc, ec, ea⟩⟩
theorem op_sign_of {X : ByteArray} {k : Nat} (h : opP X k ≠ 0) : signs.contains X.data.toList = true := by
  apply Classical.byContradiction
  intro hs
  have hne : ∀ Y : ByteArray, signs.contains Y.data.toList = true → ¬ X = Y := fun Y hY e => hs (e ▸ hY)
  apply h
  simp only [opP, hne ⟨#[124]⟩ (by decide), hne ⟨#[94]⟩ (by decide), hne ⟨#[38]⟩ (by decide), hne ⟨#[60, 60]⟩ (by decide), hne ⟨#[62, 62]⟩ (by decide), hne ⟨#[43]⟩ (by decide), hne ⟨#[45]⟩ (by decide), hne ⟨#[43, 37]⟩ (by decide), hne ⟨#[45, 37]⟩ (by decide), hne ⟨#[42]⟩ (by decide), hne ⟨#[47]⟩ (by decide), hne ⟨#[37]⟩ (by decide), hne ⟨#[42, 37]⟩ (by decide), and_false, if_false]
theorem op_ok (tk : ∀ t ∈ ts, TK t) (k : Nat) : opP (signP ts (sOk p N d)) k = opP (txt ts p) k := by
  rw [signP, kind_ok _ (by omega), text_ok]
  by_cases h : knd ts p = 4
  · simp [h]
  · simp only [h, decide_false, Bool.false_eq_true, if_false, op_none]
    apply Classical.byContradiction
    intro hn
    exact h (knd_sign tk (op_sign_of (Ne.symm hn)))
theorem next_rule (k : Nat) (t : T) : nextI R' k t = ruleI ts fin R' (.level (k + 1)) t := by
  unfold nextI ruleI
  by_cases h : k = 6
  · simp [h]
  · simp [h]
theorem levelL_sim (tk : ∀ t ∈ ts, TK t) (G : Gd ts fin n R R') (k : Nat) (hk : 1 ≤ k ∧ k ≤ 6) (v : V ts p N d) (hm : (ts.length - p) * 16 ≤ n) : ∀ m p1 pc, p < p1 → p1 ≤ ts.length → fine pc = true → (post N.length pc).length + 2 * p ≤ 2 * p1 → ts.length - p1 < m →
    ∃ r q, levelL ts fin R k m (N.length + (post N.length pc).length - 1) (sOk p1 (N ++ post N.length pc) d) = some r ∧ levelLI ts fin R' k m pc (tOk p1 d) = some q ∧ Res ts p N d r q := by
  intro m
  have h7 := v.len
  have h8 := v.N
  induction m with
  | zero => intro p1 pc _ _ _ _ h; omega
  | succ m ih =>
    intro p1 pc a1 a2 a3 a4 a5
    have a6 := post_pos a3 N.length
    have v1 : V ts p1 (N ++ post N.length pc) d := ⟨a2, v.len, v.d0, v.d1, by simp only [List.length_append]; omega⟩
    unfold levelL levelLI
    rw [op_ok tk, tok_ok, if_pos rfl]
    simp only []
    by_cases h0 : opP (txt ts p1) k = 0
    · rw [if_pos h0, if_pos h0]
      exact ⟨_, _, rfl, rfl, Or.inl ⟨p1, pc, a1, a2, a3, a4, rfl, rfl⟩⟩
    · have hl : p1 < ts.length := knd_lt (by rw [knd_sign tk (op_sign_of h0)]; omega)
      rw [if_neg h0, if_neg h0, up_ok, upT_ok (by omega), next_rule (ts := ts) (fin := fin)]
      rcases G.call (.level (k + 1)) (v1.up hl) ⟨by omega, by omega⟩ (by simp only [rk]; omega) with ⟨p2, pc2, g1, g2, b1, b2, b3, b4, b5, v3⟩ | ⟨x, s1, pc2, t1, g1, g2, hc, hc', ec, ea⟩
      · simp only [g1, g2]
        rw [node_ok _ v3.big]
        simp only []
        have hz := ih p2 (.node 169 ⟨28, loc ts fin p1, opP (txt ts p1) k, ⟨#[]⟩⟩ [pc, pc2]) (by omega) b2 (by simp only [fine, fineL, a3, b3, List.length_cons, List.length_nil]; decide)
          (by rw [post_two _ _ _ _ _ (by decide)]; simp only [List.length_append, List.length_singleton] at b4 ⊢; omega) (by omega)
        rw [post_two _ _ _ _ _ (by decide)] at hz
        simp only [List.length_append, List.length_singleton, List.append_assoc, at_ok, Nat.add_assoc] at hz ⊢
        rw [show N.length + ((post N.length pc).length + ((post (N.length + (post N.length pc).length) pc2).length + 1)) - 1 = N.length + ((post N.length pc).length + (post (N.length + (post N.length pc).length) pc2).length) by omega] at hz
        exact hz
      · simp only [g1, g2]
        rw [nodeP_bad hc]
        simp only []
        rw [levelL_bad (by omega) hc, levelLI_bad (by omega) hc']
        exact fin_bad (MB.mk rfl rfl) (IB.mk rfl rfl) hc ec ea
theorem level_sim (tk : ∀ t ∈ ts, TK t) (G : Gd ts fin n R R') (k : Nat) (hk : 1 ≤ k ∧ k ≤ 6) (v : V ts p N d) (hm : (ts.length - p) * 16 + (3 + (7 - k)) ≤ n) :
    ∃ r q, levelF ts fin R k (sOk p N d) = some r ∧ levelI ts fin R' k (tOk p d) = some q ∧ Res ts p N d r q := by
  have h7 := v.len
  unfold levelF levelI
  rw [if_neg (by omega), next_rule (ts := ts) (fin := fin)]
  rcases G.call (.level (k + 1)) v ⟨by omega, by omega⟩ (by simp only [rk]; omega) with ⟨p1, pc, g1, g2, b1, b2, b3, b4, b5, v3⟩ | ⟨x, s1, pc2, t1, g1, g2, hc, hc', ec, ea⟩
  · simp only [g1, g2]
    exact levelL_sim tk G k hk v (by omega) 1000 p1 pc b1 b2 b3 b4 (by omega)
  · simp only [g1, g2]
    rw [levelL_bad (by omega) hc, levelLI_bad (by omega) hc']
    exact fin_bad (MB.mk rfl rfl) (IB.mk rfl rfl) hc ec ea
end
end
section
section
variable {ts : List Tok} {fin : Int} {p : Nat} {N : List Nd} {d : Int} {R : Rec} {R' R2 : RecI} {n : Nat}
theorem cmp_sign_of {X : ByteArray} (h : cmpP X ≠ 0) : signs.contains X.data.toList = true := by
  apply Classical.byContradiction
  intro hs
  have hne : ∀ Y : ByteArray, signs.contains Y.data.toList = true → ¬ X = Y := fun Y hY e => hs (e ▸ hY)
  apply h
  simp only [cmpP, hne ⟨#[61, 61]⟩ (by decide), hne ⟨#[33, 61]⟩ (by decide), hne ⟨#[60]⟩ (by decide), hne ⟨#[60, 61]⟩ (by decide), hne ⟨#[62]⟩ (by decide), hne ⟨#[62, 61]⟩ (by decide), if_false]
theorem cmp_ok (tk : ∀ t ∈ ts, TK t) : cmpP (signP ts (sOk p N d)) = cmpP (txt ts p) := by
  rw [signP, kind_ok _ (by omega), text_ok]
  by_cases h : knd ts p = 4
  · simp [h]
  · simp only [h, decide_false, Bool.false_eq_true, if_false, cmp_none]
    apply Classical.byContradiction
    intro hn
    exact h (knd_sign tk (cmp_sign_of (Ne.symm hn)))
theorem last_sim (tk : ∀ t ∈ ts, TK t) (G : Gd ts fin n R R') (v : V ts p N d) (hm : (ts.length - p) * 16 + 10 ≤ n) :
    ∃ r q, lastF ts fin R (sOk p N d) = some r ∧ lastI ts fin R' (tOk p d) = some q ∧ Res ts p N d r q := by
  have i1 : isP ts (sOk p N d) ⟨#[110, 111, 116]⟩ = decide (txt ts p = ⟨#[110, 111, 116]⟩) := is_ok tk _ (Or.inl (by decide)) (by decide)
  have i2 : isP ts (sOk p N d) ⟨#[91]⟩ = decide (txt ts p = ⟨#[91]⟩) := is_ok tk _ (Or.inr (by decide)) (by decide)
  have i3 : isP ts (sOk p N d) ⟨#[110, 117, 108, 108]⟩ = decide (txt ts p = ⟨#[110, 117, 108, 108]⟩) := is_ok tk _ (Or.inl (by decide)) (by decide)
  have h7 := v.len
  have h8 := v.N
  have h9 := v.d0
  have h10 := v.d1
  unfold lastF lastI
  rw [i1, i2, i3, sees_ok, sees_ok, sees_ok]
  simp only [tok_ok, at_ok, decide_eq_true_eq]
  by_cases h1 : txt ts p = ⟨#[110, 111, 116]⟩
  · have hl := txt_lt (by decide) h1
    rw [if_pos h1, if_pos h1, up_ok, upT_ok (by omega)]
    rcases down_cases (fin := fin) (v.up hl) with ⟨f1, f2, v2⟩ | ⟨f1, f2⟩
    · rw [f1, f2, if_pos rfl]
      rcases G.same .last .last (fun _ => rfl) v2 trivial (by simp only [rk]; omega) with ⟨p1, pc, g1, g2, a1, a2, a3, a4, a5, v4⟩ | ⟨x, s1, pc, t1, g1, g2, hc, hc', ec, ea⟩
      · simp only [g1, g2]
        rw [less_ok ⟨h9, by omega⟩, lessT_ok ⟨h9, by omega⟩, node_ok _ v4.big]
        refine ⟨_, _, rfl, rfl, Or.inl ⟨p1, _, by omega, a2, ?_, ?_, ?_, rfl⟩⟩
        · simp only [fine, fineL, a3, List.length_cons, List.length_nil]; decide
        · rw [post_one _ _ _ _ (by decide)]; simp only [List.length_append, List.length_cons, List.length_nil]; omega
        · rw [post_one _ _ _ _ (by decide)]; simp
      · simp only [g1, g2]
        exact fin_bad (MB.node _ hc rfl rfl) (IB.mk rfl rfl) hc ec ea
    · rw [f1, f2, if_neg (by simp)]
      obtain ⟨x1, t1, g1, g2, g3⟩ := G.ib .last ⟨((p + 1 : Nat) : Int), d + 1, 7, loc ts fin (p + 1)⟩ (by simp only [rkI]; omega) (by simp)
      simp only [g1]
      exact fin_bad (MB.mk rfl rfl) (IB.mk (s1 := t1) rfl rfl) (by simp) (by rw [g2]) (by rw [g3])
  rw [if_neg h1, if_neg h1]
  by_cases h2 : txt ts p = ⟨#[91]⟩
  · have hl := txt_lt (by decide) h2
    rw [if_pos h2, if_pos h2, up_ok, upT_ok (by omega)]
    rcases down_cases (fin := fin) (v.up hl) with ⟨f1, f2, v2⟩ | ⟨f1, f2⟩
    · rw [f1, f2, if_pos rfl]
      rcases G.same .cond .cond (fun _ => rfl) v2 trivial (by simp only [rk]; omega) with ⟨p1, pc, g1, g2, a1, a2, a3, a4, a5, v3⟩ | ⟨x, s1, pc, t1, g1, g2, hc, hc', ec, ea⟩
      · simp only [g1, g2]
        rcases must_less (fin := fin) tk v3 h9 ⟨#[93]⟩ (Or.inr (by decide)) (by decide) with ⟨b1, b2, b3, v4⟩ | ⟨s2, t2, b1, b2, b3, b4, b5⟩
        · rw [b1, b2]
          exact ⟨_, _, rfl, rfl, Or.inl ⟨p1 + 1, pc, by omega, b3, a3, by omega, rfl, rfl⟩⟩
        · rw [b1, b2]
          exact fin_bad (MB.mk rfl rfl) (IB.mk rfl rfl) b3 b4 b5
      · simp only [g1, g2]
        exact fin_bad (MB.mk (s1 := s1) (by rw [mustP_bad (by exact hc)]; rfl) (by rw [mustP_bad (by exact hc)]; rfl)) (IB.mk (by rw [mustT_bad hc']; rfl) (by rw [mustT_bad hc']; rfl)) hc ec ea
    · rw [f1, f2, if_neg (by simp)]
      obtain ⟨x1, t1, g1, g2, g3⟩ := G.ib .cond ⟨((p + 1 : Nat) : Int), d + 1, 7, loc ts fin (p + 1)⟩ (by simp only [rkI]; omega) (by simp)
      have hc' : t1.c ≠ 0 := by rw [g2]; simp
      simp only [g1]
      exact fin_bad (MB.mk rfl rfl) (IB.mk (s1 := t1) (by rw [mustT_bad hc']; rfl) (by rw [mustT_bad hc']; rfl)) (by simp) (by rw [g2]) (by rw [g3])
  rw [if_neg h2, if_neg h2]
  by_cases h3 : txt ts p = ⟨#[110, 117, 108, 108]⟩
  · have hl := txt_lt (by decide) h3
    rw [if_pos h3, if_pos h3, up_ok, upT_ok (by omega)]
    rcases name_cases (fin := fin) (v.up hl) with ⟨_, e1, e2, e3, e4, _, hl2, v1⟩ | ⟨hx, e1, e2⟩
    · rw [e1, e2, e3, tok_ok, upT_ok (by omega), node_ok _ v.big]
      exact ⟨_, _, rfl, rfl, res_leaf 193 ⟨34, loc ts fin p, 0, txt ts (p + 1)⟩ (p + 1 + 1) (by omega) (by omega) (by decide) (by decide)⟩
    · rw [e1, e2]
      exact fin_bad (MB.node _ (by simp) rfl rfl) (IB.mk rfl rfl) (by simp) rfl rfl
  rw [if_neg h3, if_neg h3]
  unfold comparisonI
  rcases G.term v (by omega) with ⟨p1, pc, g1, g2, a1, a2, a3, a4, a5, v3⟩ | ⟨x, s1, pc, t1, g1, g2, hc, hc', ec, ea⟩
  · simp only [g1, g2]
    rw [cmp_ok tk]
    simp only [cmpT, tok_ok]
    by_cases h0 : cmpP (txt ts p1) = 0
    · rw [if_pos h0, if_pos h0, fail_ok, failT_ok]
      obtain ⟨x1, t1, g3, g4, g5⟩ := G.ib.lev (t := upT ⟨(p1 : Int), d, 6, loc ts fin p1⟩) (by omega) 1 (by omega) (by simp [upT])
      simp only [g3]
      exact fin_bad (MB.mk rfl rfl) (IB.mk (s1 := t1) rfl rfl) (by simp) (by rw [g4]; rfl) (by rw [g5]; rfl)
    · have hl : p1 < ts.length := knd_lt (by rw [knd_sign tk (cmp_sign_of h0)]; omega)
      rw [if_neg h0, if_neg h0, up_ok, upT_ok (by omega), tok_ok]
      rcases G.term (v3.up hl) (by omega) with ⟨p2, pc2, k1, k2, b1, b2, b3, b4, b5, v4⟩ | ⟨x, s1, pc2, t1, k1, k2, hc, hc', ec, ea⟩
      · simp only [k1, k2]
        rw [node_ok _ v4.big]
        simp only [List.length_append] at b4 b5
        refine ⟨_, _, rfl, rfl, Or.inl ⟨p2, _, by omega, b2, ?_, ?_, ?_, rfl⟩⟩
        · simp only [fine, fineL, a3, b3, List.length_cons, List.length_nil]; decide
        · rw [post_two _ _ _ _ _ (by decide)]; simp only [List.length_append, List.length_cons, List.length_nil]; omega
        · rw [post_two _ _ _ _ _ (by decide)]
          simp only [List.length_append, List.length_cons, List.length_nil, List.append_assoc, Nat.add_assoc, at_ok]
          rw [show N.length + ((post N.length pc).length + ((post (N.length + (post N.length pc).length) pc2).length + (0 + 1))) - 1 = N.length + ((post N.length pc).length + (post (N.length + (post N.length pc).length) pc2).length) by omega]
      · simp only [k1, k2]
        exact fin_bad (MB.node _ hc rfl rfl) (IB.mk rfl rfl) hc ec ea
  · simp only [g1, g2]
    rw [signP_bad hc, cmp_none, if_pos rfl, failP_bad hc]
    obtain ⟨x1, t2, g3, g4, g5⟩ := G.ib.lev (t := upT (cmpT ts fin t1)) (by omega) 1 (by omega) (by rw [upT_c, cmpT_c hc']; exact hc')
    simp only [g3]
    exact fin_bad (MB.mk rfl rfl) (IB.mk (s1 := t2) rfl rfl) hc (by rw [g4, upT_c, cmpT_c hc', ec]) (by rw [g5, upT_a, cmpT_a hc', ea])
theorem bothL_sim (tk : ∀ t ∈ ts, TK t) (G : Gd ts fin n R R') (v : V ts p N d) (hm : (ts.length - p) * 16 ≤ n) : ∀ m p1 pc, p < p1 → p1 ≤ ts.length → fine pc = true → (post N.length pc).length + 2 * p ≤ 2 * p1 → ts.length - p1 < m →
    ∃ r q, joinL ts fin R ⟨#[97, 110, 100]⟩ 31 .last m (N.length + (post N.length pc).length - 1) (sOk p1 (N ++ post N.length pc) d) = some r ∧ bothLI ts fin R' m pc (tOk p1 d) = some q ∧ Res ts p N d r q := by
  intro m
  have h7 := v.len
  have h8 := v.N
  induction m with
  | zero => intro p1 pc _ _ _ _ h; omega
  | succ m ih =>
    intro p1 pc a1 a2 a3 a4 a5
    have a6 := post_pos a3 N.length
    have v1 : V ts p1 (N ++ post N.length pc) d := ⟨a2, v.len, v.d0, v.d1, by simp only [List.length_append]; omega⟩
    have i1 : isP ts (sOk p1 (N ++ post N.length pc) d) ⟨#[97, 110, 100]⟩ = decide (txt ts p1 = ⟨#[97, 110, 100]⟩) := is_ok tk _ (Or.inl (by decide)) (by decide)
    unfold joinL bothLI
    rw [i1, sees_ok, tok_ok]
    simp only [decide_eq_true_eq]
    by_cases h0 : txt ts p1 = ⟨#[97, 110, 100]⟩
    · have hl := txt_lt (by decide) h0
      rw [if_pos h0, if_pos h0, up_ok, upT_ok (by omega)]
      rcases G.same .last .last (fun _ => rfl) (v1.up hl) trivial (by simp only [rk]; omega) with ⟨p2, pc2, g1, g2, b1, b2, b3, b4, b5, v3⟩ | ⟨x, s1, pc2, t1, g1, g2, hc, hc', ec, ea⟩
      · simp only [g1, g2]
        rw [node_ok _ v3.big]
        simp only []
        have hz := ih p2 (.node 196 ⟨31, loc ts fin p1, 0, ⟨#[]⟩⟩ [pc, pc2]) (by omega) b2 (by simp only [fine, fineL, a3, b3, List.length_cons, List.length_nil]; decide)
          (by rw [post_two _ _ _ _ _ (by decide)]; simp only [List.length_append, List.length_singleton] at b4 ⊢; omega) (by omega)
        rw [post_two _ _ _ _ _ (by decide)] at hz
        simp only [List.length_append, List.length_singleton, List.append_assoc, at_ok, Nat.add_assoc] at hz ⊢
        rw [show N.length + ((post N.length pc).length + ((post (N.length + (post N.length pc).length) pc2).length + 1)) - 1 = N.length + ((post N.length pc).length + (post (N.length + (post N.length pc).length) pc2).length) by omega] at hz
        exact hz
      · simp only [g1, g2]
        rw [nodeP_bad hc]
        simp only []
        rw [joinL_bad (by omega) hc, bothLI_bad (by omega) hc']
        exact fin_bad (MB.mk rfl rfl) (IB.mk rfl rfl) hc ec ea
    · rw [if_neg h0, if_neg h0]
      exact ⟨_, _, rfl, rfl, Or.inl ⟨p1, pc, a1, a2, a3, a4, rfl, rfl⟩⟩
theorem both_sim (tk : ∀ t ∈ ts, TK t) (G : Gd ts fin n R R') (v : V ts p N d) (hm : (ts.length - p) * 16 + rk .both ≤ n) :
    ∃ r q, bothF ts fin R (sOk p N d) = some r ∧ bothI ts fin R' (tOk p d) = some q ∧ Res ts p N d r q := by
  have h7 := v.len
  simp only [rk] at hm
  unfold bothF bothI
  rcases G.same .last .last (fun _ => rfl) v trivial (by simp only [rk]; omega) with ⟨p1, pc, g1, g2, b1, b2, b3, b4, b5, v3⟩ | ⟨x, s1, pc2, t1, g1, g2, hc, hc', ec, ea⟩
  · simp only [g1, g2]
    exact bothL_sim tk G v (by omega) 1000 p1 pc b1 b2 b3 b4 (by omega)
  · simp only [g1, g2]
    rw [joinL_bad (by omega) hc, bothLI_bad (by omega) hc']
    exact fin_bad (MB.mk rfl rfl) (IB.mk rfl rfl) hc ec ea
theorem condL_sim (tk : ∀ t ∈ ts, TK t) (G : Gd ts fin n R R') (v : V ts p N d) (hm : (ts.length - p) * 16 ≤ n) : ∀ m p1 pc, p < p1 → p1 ≤ ts.length → fine pc = true → (post N.length pc).length + 2 * p ≤ 2 * p1 → ts.length - p1 < m →
    ∃ r q, joinL ts fin R ⟨#[111, 114]⟩ 32 .both m (N.length + (post N.length pc).length - 1) (sOk p1 (N ++ post N.length pc) d) = some r ∧ condLI ts fin R' m pc (tOk p1 d) = some q ∧ Res ts p N d r q := by
  intro m
  have h7 := v.len
  have h8 := v.N
  induction m with
  | zero => intro p1 pc _ _ _ _ h; omega
  | succ m ih =>
    intro p1 pc a1 a2 a3 a4 a5
    have a6 := post_pos a3 N.length
    have v1 : V ts p1 (N ++ post N.length pc) d := ⟨a2, v.len, v.d0, v.d1, by simp only [List.length_append]; omega⟩
    have i1 : isP ts (sOk p1 (N ++ post N.length pc) d) ⟨#[111, 114]⟩ = decide (txt ts p1 = ⟨#[111, 114]⟩) := is_ok tk _ (Or.inl (by decide)) (by decide)
    unfold joinL condLI
    rw [i1, sees_ok, tok_ok]
    simp only [decide_eq_true_eq]
    by_cases h0 : txt ts p1 = ⟨#[111, 114]⟩
    · have hl := txt_lt (by decide) h0
      rw [if_pos h0, if_pos h0, up_ok, upT_ok (by omega)]
      rcases G.same .both .both (fun _ => rfl) (v1.up hl) trivial (by simp only [rk]; omega) with ⟨p2, pc2, g1, g2, b1, b2, b3, b4, b5, v3⟩ | ⟨x, s1, pc2, t1, g1, g2, hc, hc', ec, ea⟩
      · simp only [g1, g2]
        rw [node_ok _ v3.big]
        simp only []
        have hz := ih p2 (.node 197 ⟨32, loc ts fin p1, 0, ⟨#[]⟩⟩ [pc, pc2]) (by omega) b2 (by simp only [fine, fineL, a3, b3, List.length_cons, List.length_nil]; decide)
          (by rw [post_two _ _ _ _ _ (by decide)]; simp only [List.length_append, List.length_singleton] at b4 ⊢; omega) (by omega)
        rw [post_two _ _ _ _ _ (by decide)] at hz
        simp only [List.length_append, List.length_singleton, List.append_assoc, at_ok, Nat.add_assoc] at hz ⊢
        rw [show N.length + ((post N.length pc).length + ((post (N.length + (post N.length pc).length) pc2).length + 1)) - 1 = N.length + ((post N.length pc).length + (post (N.length + (post N.length pc).length) pc2).length) by omega] at hz
        exact hz
      · simp only [g1, g2]
        rw [nodeP_bad hc]
        simp only []
        rw [joinL_bad (by omega) hc, condLI_bad (by omega) hc']
        exact fin_bad (MB.mk rfl rfl) (IB.mk rfl rfl) hc ec ea
    · rw [if_neg h0, if_neg h0]
      exact ⟨_, _, rfl, rfl, Or.inl ⟨p1, pc, a1, a2, a3, a4, rfl, rfl⟩⟩
theorem cond_sim (tk : ∀ t ∈ ts, TK t) (G : Gd ts fin n R R') (v : V ts p N d) (hm : (ts.length - p) * 16 + rk .cond ≤ n) :
    ∃ r q, condF ts fin R (sOk p N d) = some r ∧ condI ts fin R' (tOk p d) = some q ∧ Res ts p N d r q := by
  have h7 := v.len
  simp only [rk] at hm
  unfold condF condI
  rcases G.same .both .both (fun _ => rfl) v trivial (by simp only [rk]; omega) with ⟨p1, pc, g1, g2, b1, b2, b3, b4, b5, v3⟩ | ⟨x, s1, pc2, t1, g1, g2, hc, hc', ec, ea⟩
  · simp only [g1, g2]
    exact condL_sim tk G v (by omega) 1000 p1 pc b1 b2 b3 b4 (by omega)
  · simp only [g1, g2]
    rw [joinL_bad (by omega) hc, condLI_bad (by omega) hc']
    exact fin_bad (MB.mk rfl rfl) (IB.mk rfl rfl) hc ec ea
end
end
section
section
variable {ts : List Tok} {fin : Int} {p : Nat} {N : List Nd} {d : Int} {R : Rec} {R' R2 : RecI} {n : Nat}
theorem post_list (k ty : Nat) (h : Hd) (ps : List P) (ht : ¬ ty = 164) : post k (.node ty h ps) = (postL k ps).1 ++ [⟨h.kind, h.pos, h.num, h.name, (postL k ps).2⟩] := by simp [post, ht]
/-- A sign or word that must come, in short. -/
theorem must_step (tk : ∀ t ∈ ts, TK t) (v : V ts p N d) (X : ByteArray) (hX : isWord X.data.toList = true ∨ signs.contains X.data.toList = true) (hn : X ≠ ⟨#[]⟩) :
    (mustP ts fin (sOk p N d) X = sOk (p + 1) N d ∧ upT (mustT ts fin (tOk p d) X) = tOk (p + 1) d ∧ p + 1 ≤ ts.length ∧ V ts (p + 1) N d ∧ txt ts p = X) ∨
    (∃ s1 t1, mustP ts fin (sOk p N d) X = s1 ∧ upT (mustT ts fin (tOk p d) X) = t1 ∧ s1.c ≠ 0 ∧ t1.c ≠ 0 ∧ t1.c = s1.c ∧ t1.a = s1.a) := by
  rcases must_cases (fin := fin) tk v X hX hn with ⟨e, f1, _, f2, f3, f4⟩ | ⟨f1, f2⟩
  · exact Or.inl ⟨f1, f2, f3, f4, e⟩
  · exact Or.inr ⟨_, _, f1, rfl, by simp, by rw [f2]; simp [upT], by rw [f2]; rfl, by rw [f2]; rfl⟩
/-- Where pieces end that were read one behind the other. -/
structure LS (ts : List Tok) (p : Nat) (N : List Nd) (ps : List P) (p' : Nat) : Prop where
  le : p ≤ p'
  len : p' ≤ ts.length
  ok : fineL ps = true
  cnt : (postL N.length ps).1.length + 2 * p ≤ 2 * p'
theorem LS.V {ps : List P} {p' : Nat} (h : LS ts p N ps p') (v : V ts p N d) : V ts p' (N ++ (postL N.length ps).1) d := ⟨h.len, v.len, v.d0, v.d1, by have := h.cnt; have := v.N; simp only [List.length_append]; omega⟩
theorem LS.snoc {ps : List P} {p1 p2 : Nat} (h : LS ts p N ps p1) {q : P} (hq : fine q = true) (h1 : p1 ≤ p2) (h2 : p2 ≤ ts.length) (hc : (post (N ++ (postL N.length ps).1).length q).length + 2 * p1 ≤ 2 * p2) : LS ts p N (ps ++ [q]) p2 := by
  refine ⟨by have := h.le; omega, h2, ?_, ?_⟩
  · rw [fineL_append, h.ok]; simp [fineL, hq]
  · have := h.cnt
    rw [postL_snoc]
    simp only [List.length_append] at hc ⊢
    omega
theorem LS.more {ps : List P} {p1 p2 : Nat} (h : LS ts p N ps p1) (h1 : p1 ≤ p2) (h2 : p2 ≤ ts.length) : LS ts p N ps p2 := ⟨by have := h.le; omega, h2, h.ok, by have := h.cnt; omega⟩
theorem LS.nil (h : p ≤ ts.length) : LS ts p N [] p := ⟨Nat.le_refl _, h, rfl, by simp [postL]⟩
/-- A name that is declared. -/
theorem decl_step (v : V ts p N d) (k : Int) (hk : decTy k ∈ leafT) :
    (declF ts fin k (sOk p N d) = some (N.length, sOk (p + 1) (N ++ post N.length (nmP ts fin k (tOk p d))) d) ∧ nmT ts fin (tOk p d) = tOk (p + 1) d ∧ fine (nmP ts fin k (tOk p d)) = true ∧ (post N.length (nmP ts fin k (tOk p d))).length = 1 ∧ p + 1 ≤ ts.length) ∨
    (∃ s1 t1, declF ts fin k (sOk p N d) = some (0, s1) ∧ nmT ts fin (tOk p d) = t1 ∧ s1.c ≠ 0 ∧ t1.c ≠ 0 ∧ t1.c = s1.c ∧ t1.a = s1.a) := by
  have h164 : ¬ decTy k = 164 := by unfold decTy; split; decide; split <;> decide
  rcases name_cases (fin := fin) v with ⟨_, e1, e2, e3, e4, e5, hl, v1⟩ | ⟨hx, e1, e2⟩
  · have e : post N.length (nmP ts fin k (tOk p d)) = [⟨k, loc ts fin p, 0, txt ts p, []⟩] := by rw [nmP, e5]; simp [post, postL, h164]
    refine Or.inl ⟨?_, e4, ?_, by rw [e]; rfl, hl⟩
    · rw [declF, e1, e2, node_ok _ v.big, e, at_ok]
    · have : leafT.contains (decTy k) = true := by simpa using hk
      simp only [nmP, fine, fineT, fineL, List.length_nil, this]; simp
  · refine Or.inr ⟨⟨p, N, d, 6, loc ts fin p⟩, upT ⟨p, d, 6, loc ts fin p⟩, ?_, by rw [nmT, e2], by simp, by simp [upT], rfl, rfl⟩
    rw [declF, e1, nodeP_bad (by simp)]
theorem snocN (N : List Nd) (ps : List P) (q : P) : N ++ (postL N.length ps).1 ++ post (N ++ (postL N.length ps).1).length q = N ++ (postL N.length (ps ++ [q])).1 := by rw [postL_snoc]; simp
theorem snocK (N : List Nd) (ps : List P) (q : P) : (postL N.length ps).2 ++ [(N ++ (postL N.length ps).1).length + (post (N ++ (postL N.length ps).1).length q).length - 1] = (postL N.length (ps ++ [q])).2 := by rw [postL_snoc]; simp
/-- Names with commas between them. -/
theorem comma_sim (tk : ∀ t ∈ ts, TK t) (v : V ts p N d) (k : Int) (hk : decTy k ∈ leafT) (ps : List P) : ∀ m p1 qs, LS ts p N (ps ++ qs) p1 → ts.length - p1 < m →
    (∃ rs p2, commaL ts fin k m (postL N.length (ps ++ qs)).2 (sOk p1 (N ++ (postL N.length (ps ++ qs)).1) d) = some ((postL N.length (ps ++ rs)).2, sOk p2 (N ++ (postL N.length (ps ++ rs)).1) d) ∧
      namesLI ts fin k m qs (tOk p1 d) = some (rs, tOk p2 d) ∧ LS ts p N (ps ++ rs) p2 ∧ p1 ≤ p2 ∧ ¬ txt ts p2 = ⟨#[44]⟩) ∨
    (∃ l s1 rs t1, commaL ts fin k m (postL N.length (ps ++ qs)).2 (sOk p1 (N ++ (postL N.length (ps ++ qs)).1) d) = some (l, s1) ∧ namesLI ts fin k m qs (tOk p1 d) = some (rs, t1) ∧ s1.c ≠ 0 ∧ t1.c ≠ 0 ∧ t1.c = s1.c ∧ t1.a = s1.a) := by
  intro m
  have h7 := v.len
  induction m with
  | zero => intro p1 qs _ h; omega
  | succ m ih =>
    intro p1 qs L hm
    have v1 := L.V v
    have i1 : isP ts (sOk p1 (N ++ (postL N.length (ps ++ qs)).1) d) ⟨#[44]⟩ = decide (txt ts p1 = ⟨#[44]⟩) := is_ok tk _ (Or.inr (by decide)) (by decide)
    unfold commaL namesLI
    rw [i1, sees_ok]
    simp only [decide_eq_true_eq]
    by_cases h0 : txt ts p1 = ⟨#[44]⟩
    · have hl := txt_lt (by decide) h0
      rw [if_pos h0, if_pos h0, up_ok, upT_ok (by omega)]
      rcases decl_step (fin := fin) (v1.up hl) k hk with ⟨e1, e2, e3, e4, e5⟩ | ⟨s1, t1, e1, e2, hc, hc', ec, ea⟩
      · have L2 : LS ts p N (ps ++ qs ++ [nmP ts fin k (tOk (p1 + 1) d)]) (p1 + 1 + 1) := L.snoc e3 (by omega) e5 (by rw [e4]; omega)
        have z1 := snocN N (ps ++ qs) (nmP ts fin k (tOk (p1 + 1) d))
        have z2 := snocK N (ps ++ qs) (nmP ts fin k (tOk (p1 + 1) d))
        rw [e4, Nat.add_sub_cancel] at z2
        rw [e1, e2]
        simp only []
        rw [z1, z2, List.append_assoc]
        rw [List.append_assoc] at L2
        rcases ih (p1 + 1 + 1) _ L2 (by omega) with ⟨rs, p2, b1, b2, b3, b4, b5⟩ | h
        · exact Or.inl ⟨rs, p2, b1, b2, b3, by omega, b5⟩
        · exact Or.inr h
      · rw [e1, e2]
        simp only []
        rw [commaL_bad (by have := txt_lt (by decide) h0; omega) hc, namesLI_bad (by omega) hc']
        exact Or.inr ⟨_, _, _, _, rfl, rfl, hc, hc', ec, ea⟩
    · rw [if_neg h0, if_neg h0]
      exact Or.inl ⟨qs, p1, rfl, rfl, L, Nat.le_refl _, h0⟩
/-- Statements up to a brace. -/
theorem stmts_sim (tk : ∀ t ∈ ts, TK t) (G : Gd ts fin n R R') (v : V ts p N d) (hm : (ts.length - p) * 16 + 13 < n) : ∀ m p1 ps, LS ts p N ps p1 → ts.length - p1 + 1 < m →
    (∃ rs p2, stmtsL ts fin R m (postL N.length ps).2 (sOk p1 (N ++ (postL N.length ps).1) d) = some ((postL N.length rs).2, sOk p2 (N ++ (postL N.length rs).1) d) ∧
      statementsLI ts fin R' m ps (tOk p1 d) = some (rs, tOk (p2 + 1) d) ∧ LS ts p N rs p2 ∧ txt ts p2 = ⟨#[125]⟩) ∨
    (∃ l s1 rs t1, stmtsL ts fin R m (postL N.length ps).2 (sOk p1 (N ++ (postL N.length ps).1) d) = some (l, s1) ∧ statementsLI ts fin R' m ps (tOk p1 d) = some (rs, t1) ∧ s1.c ≠ 0 ∧ t1.c ≠ 0 ∧ t1.c = s1.c ∧ t1.a = s1.a) := by
  intro m
  have h7 := v.len
  induction m with
  | zero => intro p1 ps _ h; omega
  | succ m ih =>
    intro p1 ps L hm1
    have v1 := L.V v
    have hle := L.le
    have i1 : isP ts (sOk p1 (N ++ (postL N.length ps).1) d) ⟨#[125]⟩ = decide (txt ts p1 = ⟨#[125]⟩) := is_ok tk _ (Or.inr (by decide)) (by decide)
    unfold stmtsL statementsLI
    rw [if_pos rfl, if_pos rfl, i1, sees_ok]
    simp only [decide_eq_true_eq]
    by_cases h0 : txt ts p1 = ⟨#[125]⟩
    · have hl := txt_lt (by decide) h0
      rw [if_pos h0, if_pos h0, upT_ok (by omega)]
      exact Or.inl ⟨ps, p1, rfl, rfl, L, h0⟩
    · rw [if_neg h0, if_neg h0]
      rcases G.same .statement .statement (fun _ => rfl) v1 trivial (by simp only [rk]; omega) with ⟨p2, pc, g1, g2, b1, b2, b3, b4, b5, v3⟩ | ⟨x, s1, pc2, t1, g1, g2, hc, hc', ec, ea⟩
      · simp only [g1, g2]
        rw [snocN, snocK]
        exact ih p2 _ (L.snoc b3 (by omega) b2 b4) (by omega)
      · simp only [g1, g2]
        rw [stmtsL_bad (by omega) hc, statementsLI_bad (by omega) hc']
        exact Or.inr ⟨_, _, _, _, rfl, rfl, hc, hc', ec, ea⟩
end
end
section
section
variable {ts : List Tok} {fin : Int} {p : Nat} {N : List Nd} {d : Int} {R : Rec} {R' R2 : RecI} {n : Nat}
theorem block_sim (tk : ∀ t ∈ ts, TK t) (G : Gd ts fin n R R') (v : V ts p N d) (hm : (ts.length - p) * 16 + 1 ≤ n) :
    ∃ r q, blockF ts fin R (sOk p N d) = some r ∧ ruleI ts fin R' .block (tOk p d) = some q ∧ Res ts p N d r q := by
  have h7 := v.len
  have h8 := v.N
  have h9 := v.d0
  have h10 := v.d1
  rcases must_cases (fin := fin) tk v ⟨#[123]⟩ (Or.inr (by decide)) (by decide) with ⟨e, f1, f2, f3, hl, v1⟩ | ⟨f1, f2⟩
  · simp only [blockF, ruleI, blockI, f1, f3]
    rw [f2, tok_ok]
    rcases down_cases (fin := fin) v1 with ⟨g1, g2, v2⟩ | ⟨g1, g2⟩
    · rw [g1, g2, if_pos rfl]
      have hz := stmts_sim (fin := fin) tk G v2 (by omega) 1000 (p + 1) [] (LS.nil hl) (by omega)
      simp only [postL, List.append_nil] at hz
      unfold statementsI
      rcases hz with ⟨rs, p2, b1, b2, b3, b4⟩ | ⟨l, s1, rs, t1, b1, b2, hc, hc', ec, ea⟩
      · simp only [b1, b2]
        have hl2 := txt_lt (by decide) b4
        have v3 : V ts p2 (N ++ (postL N.length rs).1) d := by have z := b3.V v2; exact ⟨z.le, z.len, h9, by omega, z.N⟩
        have c1 := b3.le
        have c2 := b3.cnt
        rw [less_ok ⟨h9, by omega⟩, lessT_ok ⟨h9, by omega⟩]
        rcases must_cases (fin := fin) tk v3 ⟨#[125]⟩ (Or.inr (by decide)) (by decide) with ⟨_, k1, _, _, _, v4⟩ | ⟨_, k2⟩
        · rw [k1, node_ok _ v4.big]
          refine ⟨_, _, rfl, rfl, Or.inl ⟨p2 + 1, _, by omega, hl2, ?_, ?_, ?_, rfl⟩⟩
          · simp only [fine, b3.ok]; simp [fineT]
          · rw [post_list _ _ _ _ (by decide)]; simp only [List.length_append, List.length_cons, List.length_nil]; omega
          · rw [post_list _ _ _ _ (by decide)]; simp [at_ok]
        · rw [mustT, sees_ok, b4] at k2; simp at k2
      · simp only [b1, b2]
        exact fin_bad (MB.node _ hc (by rw [mustP_bad (by exact hc)]; rfl) (by rw [mustP_bad (by exact hc)]; rfl)) (IB.mk rfl rfl) hc ec ea
    · rw [g1, g2, if_neg (by simp)]
      obtain ⟨x1, t1, k1, k2, k3⟩ := statements_ib (ts := ts) (fin := fin) (R := R') (t := ⟨((p + 1 : Nat) : Int), d + 1, 7, loc ts fin (p + 1)⟩) (by simp)
      simp only [k1]
      exact fin_bad (MB.mk rfl rfl) (IB.mk (s1 := t1) rfl rfl) (by simp) (by rw [k2]) (by rw [k3])
  · simp only [blockF, ruleI, blockI, f1, f2]
    have hb : (⟨p, N, d, 6, loc ts fin p⟩ : S).c ≠ 0 := by simp
    rw [if_neg (by rw [downP_c hb]; exact hb)]
    have hb' : (upT ⟨(p : Int), d, 6, loc ts fin p⟩).c ≠ 0 := by simp [upT]
    obtain ⟨x1, t1, k1, k2, k3⟩ := statements_ib (ts := ts) (fin := fin) (R := R') (t := deeperT ts fin (upT ⟨(p : Int), d, 6, loc ts fin p⟩)) (by rw [deeperT_c hb']; exact hb')
    simp only [k1]
    exact fin_bad (s1 := ⟨p, N, d, 6, loc ts fin p⟩) (MB.mk (downP_c hb) (downP_a hb)) (IB.mk (s1 := t1) rfl rfl) hb (by rw [k2, deeperT_c hb']; rfl) (by rw [k3, deeperT_a hb']; rfl)
/-- Parameters behind the first one. -/
theorem paramsL_sim (tk : ∀ t ∈ ts, TK t) (v : V ts p N d) : ∀ m m' p1 qs, LS ts p N qs p1 → qs ≠ [] → ts.length - p1 + 1 < m → ts.length - p1 < m' →
    ∃ l s2 rs t2, paramsL ts fin m (postL N.length qs).2 (sOk p1 (N ++ (postL N.length qs).1) d) = some (l, s2) ∧ namesLI ts fin 5 m' qs (tOk p1 d) = some (rs, t2) ∧
      ((∃ p2, l = (postL N.length rs).2 ∧ s2 = sOk p2 (N ++ (postL N.length rs).1) d ∧ t2 = tOk p2 d ∧ LS ts p N rs p2 ∧ txt ts p2 = ⟨#[41]⟩) ∨
       (s2.c ≠ 0 ∧ (mustT ts fin t2 ⟨#[41]⟩).c = s2.c ∧ (mustT ts fin t2 ⟨#[41]⟩).a = s2.a)) := by
  intro m
  have h7 := v.len
  induction m with
  | zero => intro m' p1 qs _ _ h _; omega
  | succ m ih =>
    intro m' p1 qs L hne hm hm'
    obtain ⟨m', rfl⟩ : ∃ g, m' = g + 1 := ⟨m' - 1, by omega⟩
    have v1 := L.V v
    have hlen : 0 < (postL N.length qs).2.length := by
      cases qs with
      | nil => exact absurd rfl hne
      | cons q qs => simp [postL]
    have i1 : isP ts (sOk p1 (N ++ (postL N.length qs).1) d) ⟨#[41]⟩ = decide (txt ts p1 = ⟨#[41]⟩) := is_ok tk _ (Or.inr (by decide)) (by decide)
    unfold paramsL namesLI
    rw [if_pos rfl, i1, sees_ok, if_pos hlen]
    simp only [decide_eq_true_eq]
    by_cases h0 : txt ts p1 = ⟨#[41]⟩
    · rw [if_pos h0, if_neg (by rw [h0]; decide)]
      exact ⟨_, _, _, _, rfl, rfl, Or.inl ⟨p1, rfl, rfl, rfl, L, h0⟩⟩
    · rw [if_neg h0]
      rcases must_cases (fin := fin) tk v1 ⟨#[44]⟩ (Or.inr (by decide)) (by decide) with ⟨e, f1, f2, f3, hl, v2⟩ | ⟨f1, f2⟩
      · rw [if_pos e, f1, upT_ok (by omega)]
        rcases decl_step (fin := fin) v2 5 (by decide) with ⟨e1, e2, e3, e4, e5⟩ | ⟨s1, t1, e1, e2, hc, hc', ec, ea⟩
        · have L2 : LS ts p N (qs ++ [nmP ts fin 5 (tOk (p1 + 1) d)]) (p1 + 1 + 1) := L.snoc e3 (by omega) e5 (by rw [e4]; omega)
          have z1 := snocN N qs (nmP ts fin 5 (tOk (p1 + 1) d))
          have z2 := snocK N qs (nmP ts fin 5 (tOk (p1 + 1) d))
          rw [e4, Nat.add_sub_cancel] at z2
          rw [e1, e2]
          simp only []
          rw [z1, z2]
          exact ih m' (p1 + 1 + 1) _ L2 (by simp) (by omega) (by omega)
        · rw [e1, e2]
          simp only []
          rw [paramsL_bad (by omega) hc, namesLI_bad (by omega) hc']
          exact ⟨_, _, _, _, rfl, rfl, Or.inr ⟨hc, by rw [mustT_bad hc', ec], by rw [mustT_bad hc', ea]⟩⟩
      · have hne2 : ¬ txt ts p1 = ⟨#[44]⟩ := by
          intro e
          rw [mustT, sees_ok, e] at f2
          simp at f2
        rw [if_neg hne2, f1]
        have hb : (⟨p1, N ++ (postL N.length qs).1, d, 6, loc ts fin p1⟩ : S).c ≠ 0 := by simp
        rw [declF, nameP_bad hb, nodeP_bad hb]
        simp only []
        rw [paramsL_bad (by omega) hb]
        rcases must_cases (fin := fin) tk v1 ⟨#[41]⟩ (Or.inr (by decide)) (by decide) with ⟨e, _⟩ | ⟨_, k2⟩
        · exact absurd e h0
        · exact ⟨_, _, _, _, rfl, rfl, Or.inr ⟨hb, by rw [k2], by rw [k2]⟩⟩
/-- All parameters, and what closes them. -/
theorem params_sim (tk : ∀ t ∈ ts, TK t) (v : V ts p N d) :
    ∃ l s2 rs t2, paramsL ts fin 1000 [] (sOk p N d) = some (l, s2) ∧ paramsI ts fin (tOk p d) = some (rs, t2) ∧
      ((∃ p2, l = (postL N.length rs).2 ∧ s2 = sOk p2 (N ++ (postL N.length rs).1) d ∧ t2 = tOk p2 d ∧ LS ts p N rs p2 ∧ txt ts p2 = ⟨#[41]⟩) ∨
       (s2.c ≠ 0 ∧ (mustT ts fin t2 ⟨#[41]⟩).c = s2.c ∧ (mustT ts fin t2 ⟨#[41]⟩).a = s2.a)) := by
  have h7 := v.len
  have i1 : isP ts (sOk p N d) ⟨#[41]⟩ = decide (txt ts p = ⟨#[41]⟩) := is_ok tk _ (Or.inr (by decide)) (by decide)
  rw [show (1000 : Nat) = 999 + 1 from rfl, paramsL, paramsI, if_pos rfl, i1, sees_ok]
  simp only [decide_eq_true_eq, List.length_nil, Nat.lt_irrefl, if_false]
  by_cases h0 : txt ts p = ⟨#[41]⟩
  · rw [if_pos h0, if_pos h0]
    exact ⟨_, _, _, _, rfl, rfl, Or.inl ⟨p, by simp [postL], by simp [postL], rfl, LS.nil v.le, h0⟩⟩
  · rw [if_neg h0, if_neg h0, namesI]
    rcases decl_step (fin := fin) v 5 (by decide) with ⟨e1, e2, e3, e4, e5⟩ | ⟨s1, t1, e1, e2, hc, hc', ec, ea⟩
    · have L2 : LS ts p N ([] ++ [nmP ts fin 5 (tOk p d)]) (p + 1) := (LS.nil v.le).snoc e3 (by omega) e5 (by simp only [postL, List.append_nil]; rw [e4]; omega)
      have z1 := snocN N [] (nmP ts fin 5 (tOk p d))
      have z2 := snocK N [] (nmP ts fin 5 (tOk p d))
      simp only [postL, List.append_nil, List.nil_append, e4, Nat.add_sub_cancel] at z1 z2 L2
      rw [e1, e2]
      simp only [List.nil_append]
      have hz := paramsL_sim (fin := fin) tk v 999 1000 (p + 1) [nmP ts fin 5 (tOk p d)] L2 (by simp) (by omega) (by omega)
      simp only [postL, List.append_nil, e4, Nat.add_sub_cancel] at hz
      exact hz
    · rw [e1, e2]
      simp only []
      rw [paramsL_bad (by omega) hc, namesLI_bad (by omega) hc']
      exact ⟨_, _, _, _, rfl, rfl, Or.inr ⟨hc, by rw [mustT_bad hc', ec], by rw [mustT_bad hc', ea]⟩⟩
/-- Locals. -/
theorem locals_sim (tk : ∀ t ∈ ts, TK t) (v : V ts p N d) : ∀ m p1 ps, LS ts p N ps p1 → ts.length - p1 + 1 < m →
    (∃ rs p2, localsL ts fin m (postL N.length ps).2 (sOk p1 (N ++ (postL N.length ps).1) d) = some ((postL N.length rs).2, sOk p2 (N ++ (postL N.length rs).1) d) ∧
      localsLI ts fin m ps (tOk p1 d) = some (rs, tOk p2 d) ∧ LS ts p N rs p2) ∨
    (∃ l s1 rs t1, localsL ts fin m (postL N.length ps).2 (sOk p1 (N ++ (postL N.length ps).1) d) = some (l, s1) ∧ localsLI ts fin m ps (tOk p1 d) = some (rs, t1) ∧ s1.c ≠ 0 ∧ t1.c ≠ 0 ∧ t1.c = s1.c ∧ t1.a = s1.a) := by
  intro m
  have h7 := v.len
  induction m with
  | zero => intro p1 ps _ h; omega
  | succ m ih =>
    intro p1 ps L hm
    have v1 := L.V v
    have i1 : isP ts (sOk p1 (N ++ (postL N.length ps).1) d) ⟨#[118, 97, 114]⟩ = decide (txt ts p1 = ⟨#[118, 97, 114]⟩) := is_ok tk _ (Or.inl (by decide)) (by decide)
    have i2 : isP ts (sOk p1 (N ++ (postL N.length ps).1) d) ⟨#[114, 101, 102]⟩ = decide (txt ts p1 = ⟨#[114, 101, 102]⟩) := is_ok tk _ (Or.inl (by decide)) (by decide)
    unfold localsL localsLI
    rw [i1, i2, sees_ok, sees_ok, locK, tok_ok]
    simp only [Bool.or_eq_true, decide_eq_true_eq]
    by_cases h0 : txt ts p1 = ⟨#[118, 97, 114]⟩ ∨ txt ts p1 = ⟨#[114, 101, 102]⟩
    · have hl : p1 < ts.length := by rcases h0 with h | h <;> exact txt_lt (by decide) h
      rw [if_pos h0, if_pos h0, up_ok, upT_ok (by omega)]
      have hk : decTy (if txt ts p1 = ⟨#[114, 101, 102]⟩ then 7 else 6) ∈ leafT := by split <;> decide
      generalize (if txt ts p1 = ⟨#[114, 101, 102]⟩ then (7 : Int) else 6) = k at hk ⊢
      unfold namesI
      rcases decl_step (fin := fin) (v1.up hl) k hk with ⟨e1, e2, e3, e4, e5⟩ | ⟨s1, t1, e1, e2, hc, hc', ec, ea⟩
      · have L2 : LS ts p N (ps ++ [nmP ts fin k (tOk (p1 + 1) d)]) (p1 + 1 + 1) := L.snoc e3 (by omega) e5 (by rw [e4]; omega)
        have z1 := snocN N ps (nmP ts fin k (tOk (p1 + 1) d))
        have z2 := snocK N ps (nmP ts fin k (tOk (p1 + 1) d))
        rw [e4, Nat.add_sub_cancel] at z2
        rw [e1, e2]
        simp only []
        rw [z1, z2]
        rcases comma_sim (fin := fin) tk v k hk ps 1000 (p1 + 1 + 1) _ L2 (by omega) with ⟨rs, p2, b1, b2, b3, b4, b5⟩ | ⟨l, s1, rs, t1, b1, b2, hc, hc', ec, ea⟩
        · simp only [b1, b2]
          rcases must_step (fin := fin) tk (b3.V v) ⟨#[59]⟩ (Or.inr (by decide)) (by decide) with ⟨k1, k2, k3, k4, k5⟩ | ⟨s1, t1, k1, k2, hc, hc', ec, ea⟩
          · rw [k1, k2]
            exact ih (p2 + 1) _ (b3.more (by omega) k3) (by omega)
          · rw [k1, k2, localsL_bad (by omega) hc, localsLI_bad (by omega) hc']
            exact Or.inr ⟨_, _, _, _, rfl, rfl, hc, hc', ec, ea⟩
        · simp only [b1, b2]
          rw [mustP_bad hc, mustT_bad hc', localsL_bad (by omega) hc, localsLI_bad (by omega) (by rw [upT_c]; exact hc')]
          exact Or.inr ⟨_, _, _, _, rfl, rfl, hc, hc', ec, ea⟩
      · rw [e1, e2]
        simp only []
        rw [commaL_bad (by omega) hc, namesLI_bad (by omega) hc']
        simp only []
        rw [mustP_bad hc, mustT_bad hc', localsL_bad (by omega) hc, localsLI_bad (by omega) (by rw [upT_c]; exact hc')]
        exact Or.inr ⟨_, _, _, _, rfl, rfl, hc, hc', ec, ea⟩
    · rw [if_neg h0, if_neg h0]
      exact Or.inl ⟨ps, p1, rfl, rfl, L⟩
end
end
section
section
variable {ts : List Tok} {fin : Int} {p : Nat} {N : List Nd} {d : Int} {R : Rec} {R' R2 : RecI} {n : Nat}
theorem fun_tail4 (H : Hd) (PO : Int) (ps ls : List P) {w : T} (hc : w.c ≠ 0) : IB (match statementsI ts fin R' w with | none => none | some (bs, s3) => some (P.node 136 H (ps ++ ls ++ [.node 134 ⟨8, PO, 0, ⟨#[]⟩⟩ bs]), s3)) w := by
  obtain ⟨x, t1, e1, e2, e3⟩ := statements_ib (ts := ts) (fin := fin) (R := R') hc
  rw [e1]
  exact IB.mk e2 e3
theorem fun_tail3 (H : Hd) (PO : Int) (ps : List P) {w : T} (hc : w.c ≠ 0) : IB (match localsI ts fin w with | none => none | some (ls, s2) => match statementsI ts fin R' s2 with | none => none | some (bs, s3) => some (P.node 136 H (ps ++ ls ++ [.node 134 ⟨8, PO, 0, ⟨#[]⟩⟩ bs]), s3)) w := by
  obtain ⟨x, t1, e1, e2, e3⟩ := locals_ib (ts := ts) (fin := fin) hc
  obtain ⟨y, t2, f1, f2, f3⟩ := fun_tail4 (ts := ts) (fin := fin) (R' := R') H PO ps x (w := t1) (by rw [e2]; exact hc)
  rw [e1]
  exact ⟨y, t2, f1, by rw [f2, e2], by rw [f3, e3]⟩
theorem deep_up_must {X : ByteArray} {u : T} (hc : u.c ≠ 0) : (deeperT ts fin (upT (mustT ts fin u X))).c = u.c ∧ (deeperT ts fin (upT (mustT ts fin u X))).a = u.a := by
  rw [mustT_bad hc, deeperT_c (by rw [upT_c]; exact hc), deeperT_a (by rw [upT_c]; exact hc)]
  exact ⟨rfl, rfl⟩
theorem fun_tail2 (H : Hd) (PO : Int) (ps : List P) {u : T} (hc : u.c ≠ 0) : IB (match localsI ts fin (deeperT ts fin (upT (mustT ts fin u ⟨#[123]⟩))) with | none => none | some (ls, s2) => match statementsI ts fin R' s2 with | none => none | some (bs, s3) => some (P.node 136 H (ps ++ ls ++ [.node 134 ⟨8, PO, 0, ⟨#[]⟩⟩ bs]), s3)) u := by
  obtain ⟨a1, a2⟩ := deep_up_must (ts := ts) (fin := fin) (X := ⟨#[123]⟩) hc
  obtain ⟨y, t2, f1, f2, f3⟩ := fun_tail3 (ts := ts) (fin := fin) (R' := R') H PO ps (w := deeperT ts fin (upT (mustT ts fin u ⟨#[123]⟩))) (by rw [a1]; exact hc)
  exact ⟨y, t2, f1, by rw [f2, a1], by rw [f3, a2]⟩
theorem function_sim (tk : ∀ t ∈ ts, TK t) (G : Gd ts fin n R R') (v : V ts p N d) (hm : (ts.length - p) * 16 + 1 ≤ n) :
    ∃ r q, functionF ts fin R (sOk p N d) = some r ∧ functionI ts fin R' (tOk p d) = some q ∧ Res ts p N d r q := by
  have h7 := v.len
  have h8 := v.N
  have h9 := v.d0
  have h10 := v.d1
  unfold functionF functionI
  rcases name_cases (fin := fin) v with ⟨_, e1, e2, _, e4, e5, hl, v1⟩ | ⟨_, e1, e2⟩
  · rw [e1, e2, e4, e5]
    rcases must_step (fin := fin) tk v1 ⟨#[40]⟩ (Or.inr (by decide)) (by decide) with ⟨k1, k2, k3, v2, _⟩ | ⟨s1, t1, k1, k2, hc, hc', ec, ea⟩
    · rw [k1, k2]
      obtain ⟨l, s2, ps, t2, b1, b2, hb⟩ := params_sim (fin := fin) tk v2
      simp only [b1, b2]
      rcases hb with ⟨p2, rfl, rfl, rfl, L, hx⟩ | ⟨hc, ec, ea⟩
      · have L1 := L.le
        have L2 := L.cnt
        rcases must_cases (fin := fin) tk (L.V v2) ⟨#[41]⟩ (Or.inr (by decide)) (by decide) with ⟨_, f1, _, f3, hl2, v3⟩ | ⟨_, f2⟩
        · rw [f1, f3]
          rcases must_cases (fin := fin) tk v3 ⟨#[123]⟩ (Or.inr (by decide)) (by decide) with ⟨_, g1, g2, g3, hl3, v4⟩ | ⟨g1, g2⟩
          · rw [g1, g3, g2, tok_ok]
            rcases down_cases (fin := fin) v4 with ⟨c1, c2, v5⟩ | ⟨c1, c2⟩
            · rw [c1, c2, if_pos rfl]
              have hz := locals_sim (fin := fin) tk v5 1000 (p2 + 1 + 1) [] (LS.nil hl3) (by omega)
              simp only [postL, List.append_nil] at hz
              unfold localsI
              rcases hz with ⟨ls, p3, b1, b2, M⟩ | ⟨l, s1, rs, t1, b1, b2, hc, hc', ec, ea⟩
              · simp only [b1, b2]
                have M1 := M.le
                have M2 := M.cnt
                have hw := stmts_sim (fin := fin) tk G (M.V v5) (by omega) 1000 p3 [] (LS.nil M.len) (by omega)
                simp only [postL, List.append_nil] at hw
                unfold statementsI
                rcases hw with ⟨bs, p4, b1, b2, B, hx4⟩ | ⟨l, s1, rs, t1, b1, b2, hc, hc', ec, ea⟩
                · simp only [b1, b2]
                  have B1 := B.le
                  have B2 := B.cnt
                  have hl4 := txt_lt (by decide) hx4
                  have z := B.V (M.V v5)
                  have v6 : V ts p4 _ d := ⟨z.le, z.len, h9, by omega, z.N⟩
                  rw [less_ok ⟨h9, by omega⟩, lessT_ok ⟨h9, by omega⟩]
                  rcases must_cases (fin := fin) tk v6 ⟨#[125]⟩ (Or.inr (by decide)) (by decide) with ⟨_, q1, _, _, _, v7⟩ | ⟨_, q2⟩
                  · rw [q1, node_ok _ v7.big]
                    simp only []
                    simp only [List.length_append] at L2 M2 B2
                    rw [node_ok _ (by have := v7.N; simp only [List.length_append, List.length_cons, List.length_nil] at this ⊢; omega)]
                    refine ⟨_, _, rfl, rfl, Or.inl ⟨p4 + 1, _, by omega, hl4, ?_, ?_, ?_, rfl⟩⟩
                    · simp only [fine, fineL_append, fineL, L.ok, M.ok, B.ok]; simp [fineT]
                    · rw [post_list _ _ _ _ (by decide)]
                      simp only [postL_append, postL, post_list _ 134 _ _ (by decide : ¬ 134 = 164), List.length_append, List.length_cons, List.length_nil, Nat.add_assoc] at L2 M2 B2 ⊢
                      omega
                    · rw [post_list _ _ _ _ (by decide)]
                      simp [postL_append, postL, post_list _ 134 _ _ (by decide : ¬ 134 = 164), at_ok, Nat.add_assoc]
                      constructor <;> omega
                  · rw [mustT, sees_ok, hx4] at q2; simp at q2
                · simp only [b1, b2]
                  rw [mustP_bad (by exact hc), nodeP_bad (by exact hc)]
                  simp only []
                  rw [nodeP_bad (by exact hc)]
                  exact fin_bad (s1 := s1) (MB.mk rfl rfl) (IB.mk rfl rfl) hc ec ea
              · simp only [b1, b2]
                rw [stmtsL_bad (by omega) hc]
                simp only []
                rw [mustP_bad (by exact hc), nodeP_bad (by exact hc)]
                simp only []
                rw [nodeP_bad (by exact hc)]
                exact fin_bad (s1 := s1) (MB.mk rfl rfl) (fun_tail4 _ _ _ _ hc') hc ec ea
            · rw [c1, c2, if_neg (by simp)]
              exact fin_bad (MB.mk rfl rfl) (fun_tail3 (ts := ts) (fin := fin) (R' := R') ⟨4, loc ts fin p, 0, txt ts p⟩ (loc ts fin (p2 + 1)) ps (w := ⟨((p2 + 1 + 1 : Nat) : Int), d + 1, 7, loc ts fin (p2 + 1 + 1)⟩) (by simp)) (by simp) rfl rfl
          · rw [g1, g2]
            have hb : (⟨p2 + 1, N ++ (postL N.length ps).1, d, 6, loc ts fin (p2 + 1)⟩ : S).c ≠ 0 := by simp
            have hb' : (upT ⟨((p2 + 1 : Nat) : Int), d, 6, loc ts fin (p2 + 1)⟩).c ≠ 0 := by simp [upT]
            rw [if_neg (by rw [downP_c hb]; exact hb)]
            have hI := fun_tail3 (ts := ts) (fin := fin) (R' := R') ⟨4, loc ts fin p, 0, txt ts p⟩ (tokT ts fin ⟨((p2 + 1 : Nat) : Int), d, 6, loc ts fin (p2 + 1)⟩).pos ps (w := deeperT ts fin (upT ⟨((p2 + 1 : Nat) : Int), d, 6, loc ts fin (p2 + 1)⟩)) (by rw [deeperT_c hb']; exact hb')
            exact fin_bad (s1 := ⟨p2 + 1, N ++ (postL N.length ps).1, d, 6, loc ts fin (p2 + 1)⟩) (MB.mk (downP_c hb) (downP_a hb)) hI hb (by rw [deeperT_c hb']; rfl) (by rw [deeperT_a hb']; rfl)
        · rw [mustT, sees_ok, hx] at f2; simp at f2
      · have hc' : (upT (mustT ts fin t2 ⟨#[41]⟩)).c ≠ 0 := by rw [upT_c, ec]; exact hc
        rw [mustP_bad hc, mustP_bad hc, if_neg (by rw [downP_c hc]; exact hc)]
        exact fin_bad (s1 := s2) (MB.mk (downP_c hc) (downP_a hc)) (fun_tail2 _ _ _ hc') hc ec ea
    · rw [k1, k2, paramsL_bad (by omega) hc]
      simp only []
      rw [mustP_bad hc, mustP_bad hc, if_neg (by rw [downP_c hc]; exact hc)]
      obtain ⟨x, t2, f1, f2, f3⟩ := params_ib (ts := ts) (fin := fin) hc'
      simp only [f1]
      have hc2 : t2.c ≠ 0 := by rw [f2]; exact hc'
      exact fin_bad (s1 := s1) (t1 := upT (mustT ts fin t2 ⟨#[41]⟩)) (MB.mk (downP_c hc) (downP_a hc)) (fun_tail2 _ _ _ (by rw [upT_c, mustT_bad hc2]; exact hc2)) hc (by rw [upT_c, mustT_bad hc2, f2, ec]) (by rw [upT_a, mustT_bad hc2, f3, ea])
  · have hb : (⟨p, N, d, 6, loc ts fin p⟩ : S).c ≠ 0 := by simp
    rw [e1, mustP_bad hb, paramsL_bad (by omega) hb]
    simp only []
    rw [mustP_bad hb, mustP_bad hb, if_neg (by rw [downP_c hb]; exact hb)]
    have hb' : (upT (mustT ts fin (nmT ts fin (tOk p d)) ⟨#[40]⟩)).c ≠ 0 := by rw [nmT, e2, mustT_bad (by simp [upT])]; simp [upT]
    have hq : (upT (mustT ts fin (nmT ts fin (tOk p d)) ⟨#[40]⟩)).c = 6 ∧ (upT (mustT ts fin (nmT ts fin (tOk p d)) ⟨#[40]⟩)).a = loc ts fin p := by rw [nmT, e2, mustT_bad (by simp [upT])]; exact ⟨rfl, rfl⟩
    obtain ⟨x, t2, f1, f2, f3⟩ := params_ib (ts := ts) (fin := fin) hb'
    simp only [f1]
    have hc2 : t2.c ≠ 0 := by rw [f2]; exact hb'
    exact fin_bad (s1 := ⟨p, N, d, 6, loc ts fin p⟩) (t1 := upT (mustT ts fin t2 ⟨#[41]⟩)) (MB.mk (downP_c hb) (downP_a hb)) (fun_tail2 _ _ _ (by rw [upT_c, mustT_bad hc2]; exact hc2)) hb (by rw [upT_c, mustT_bad hc2, f2, hq.1]) (by rw [upT_a, mustT_bad hc2, f3, hq.2])
/-- A term that ends a statement. -/
theorem Gd.lastTerm (tk : ∀ t ∈ ts, TK t) (G : Gd ts fin n R R') (v : V ts p N d) (hm : (ts.length - p) * 16 + 9 < n) :
    (∃ p1 pc, R (.level 1) (sOk p N d) = some (N.length + (post N.length pc).length - 1, sOk p1 (N ++ post N.length pc) d) ∧ mustP ts fin (sOk p1 (N ++ post N.length pc) d) ⟨#[59]⟩ = sOk (p1 + 1) (N ++ post N.length pc) d ∧ lastTermI ts fin R' (tOk p d) = some (pc, tOk (p1 + 1) d) ∧
      p < p1 ∧ p1 + 1 ≤ ts.length ∧ fine pc = true ∧ (post N.length pc).length + 2 * p ≤ 2 * p1 ∧ 1 ≤ (post N.length pc).length ∧ V ts (p1 + 1) (N ++ post N.length pc) d) ∨
    (∃ x s1 pc t1, R (.level 1) (sOk p N d) = some (x, s1) ∧ lastTermI ts fin R' (tOk p d) = some (pc, t1) ∧ (mustP ts fin s1 ⟨#[59]⟩).c ≠ 0 ∧ t1.c = (mustP ts fin s1 ⟨#[59]⟩).c ∧ t1.a = (mustP ts fin s1 ⟨#[59]⟩).a) := by
  unfold lastTermI
  rcases G.term v hm with ⟨p1, pc, g1, g2, a1, a2, a3, a4, a5, v3⟩ | ⟨x, s1, pc, t1, g1, g2, hc, hc', ec, ea⟩
  · simp only [g1, g2]
    rcases must_step (fin := fin) tk v3 ⟨#[59]⟩ (Or.inr (by decide)) (by decide) with ⟨k1, k2, k3, v4, _⟩ | ⟨s1, t1, k1, k2, hc, hc', ec, ea⟩
    · rw [k2]
      exact Or.inl ⟨p1, pc, rfl, k1, rfl, a1, k3, a3, a4, a5, v4⟩
    · exact Or.inr ⟨_, _, _, _, rfl, rfl, by rw [k1]; exact hc, by rw [k1, k2]; exact ec, by rw [k1, k2]; exact ea⟩
  · simp only [g1, g2]
    exact Or.inr ⟨_, _, _, _, rfl, rfl, by rw [mustP_bad hc]; exact hc, by rw [mustP_bad hc, mustT_bad hc']; exact ec, by rw [mustP_bad hc, mustT_bad hc']; exact ea⟩
end
end
section
section
variable {ts : List Tok} {fin : Int} {p : Nat} {N : List Nd} {d : Int} {R : Rec} {R' R2 : RecI} {n : Nat}
theorem Gd.mlev (G : Gd ts fin n R R') {s : S} (hc : s.c ≠ 0) : MB (R (.level 1) s) s := G.mb (.level 1) s (by decide) hc
theorem Gd.ilev (G : Gd ts fin n R R') {t : T} (hc : t.c ≠ 0) : IB (R' (.level 1) t) t := G.ib.lev (by omega) 1 (by omega) hc
theorem argsL_sim (tk : ∀ t ∈ ts, TK t) (G : Gd ts fin n R R') (v : V ts p N d) (hn : (ts.length - p) * 16 ≤ n) (U : P) : ∀ m m' p1 qs, LS ts p N (U :: qs) p1 → qs ≠ [] → ts.length - p1 + 1 < m → ts.length - p1 < m' →
    ∃ l s2 rs t2, argsL ts fin R m (postL N.length (U :: qs)).2 (sOk p1 (N ++ (postL N.length (U :: qs)).1) d) = some (l, s2) ∧ termsLI ts fin R' m' qs (tOk p1 d) = some (rs, t2) ∧
      ((∃ p2, l = (postL N.length (U :: rs)).2 ∧ s2 = sOk p2 (N ++ (postL N.length (U :: rs)).1) d ∧ t2 = tOk p2 d ∧ LS ts p N (U :: rs) p2 ∧ txt ts p2 = ⟨#[41]⟩) ∨
       (s2.c ≠ 0 ∧ (mustT ts fin t2 ⟨#[41]⟩).c = s2.c ∧ (mustT ts fin t2 ⟨#[41]⟩).a = s2.a)) := by
  intro m
  have h7 := v.len
  induction m with
  | zero => intro m' p1 qs _ _ h _; omega
  | succ m ih =>
    intro m' p1 qs L hne hm hm'
    obtain ⟨m', rfl⟩ : ∃ g, m' = g + 1 := ⟨m' - 1, by omega⟩
    have v1 := L.V v
    have hle := L.le
    have hlen : 1 < (postL N.length (U :: qs)).2.length := by
      cases qs with
      | nil => exact absurd rfl hne
      | cons q qs => simp [postL]
    have i1 : isP ts (sOk p1 (N ++ (postL N.length (U :: qs)).1) d) ⟨#[41]⟩ = decide (txt ts p1 = ⟨#[41]⟩) := is_ok tk _ (Or.inr (by decide)) (by decide)
    unfold argsL termsLI
    rw [if_pos rfl, i1, sees_ok, if_pos hlen]
    simp only [decide_eq_true_eq]
    by_cases h0 : txt ts p1 = ⟨#[41]⟩
    · rw [if_pos h0, if_neg (by rw [h0]; decide)]
      exact ⟨_, _, _, _, rfl, rfl, Or.inl ⟨p1, rfl, rfl, rfl, L, h0⟩⟩
    · rw [if_neg h0]
      rcases must_cases (fin := fin) tk v1 ⟨#[44]⟩ (Or.inr (by decide)) (by decide) with ⟨e, f1, f2, f3, hl, v2⟩ | ⟨f1, f2⟩
      · rw [if_pos e, f1, upT_ok (by omega)]
        rcases G.term v2 (by omega) with ⟨p2, pc, g1, g2, a1, a2, a3, a4, a5, v3⟩ | ⟨x, s1, pc, t1, g1, g2, hc, hc', ec, ea⟩
        · simp only [g1, g2]
          rw [snocN, snocK, List.cons_append]
          exact ih m' p2 _ (by have z := L.snoc a3 (show p1 ≤ p2 by omega) a2 (by omega); rwa [List.cons_append] at z) (by simp) (by omega) (by omega)
        · simp only [g1, g2]
          rw [argsL_bad (by omega) hc, termsLI_bad (by omega) hc']
          exact ⟨_, _, _, _, rfl, rfl, Or.inr ⟨hc, by rw [mustT_bad hc', ec], by rw [mustT_bad hc', ea]⟩⟩
      · have hne2 : ¬ txt ts p1 = ⟨#[44]⟩ := by
          intro e
          rw [mustT, sees_ok, e] at f2
          simp at f2
        rw [if_neg hne2, f1]
        have hb : (⟨p1, N ++ (postL N.length (U :: qs)).1, d, 6, loc ts fin p1⟩ : S).c ≠ 0 := by simp
        obtain ⟨x, s1, e1, e2, e3⟩ := G.mlev hb
        simp only [e1]
        have hc : s1.c ≠ 0 := by rw [e2]; exact hb
        rw [argsL_bad (by omega) hc]
        rcases must_cases (fin := fin) tk v1 ⟨#[41]⟩ (Or.inr (by decide)) (by decide) with ⟨e, _⟩ | ⟨_, k2⟩
        · exact absurd e h0
        · exact ⟨_, _, _, _, rfl, rfl, Or.inr ⟨hc, by rw [k2, e2], by rw [k2, e3]⟩⟩
theorem args_sim (tk : ∀ t ∈ ts, TK t) (G : Gd ts fin n R R') (v : V ts p N d) (U : P) {p1 : Nat} (L : LS ts p N [U] p1) (hn : (ts.length - p) * 16 ≤ n) (hp : p < p1) :
    ∃ l s2 rs t2, argsL ts fin R 1000 (postL N.length [U]).2 (sOk p1 (N ++ (postL N.length [U]).1) d) = some (l, s2) ∧ callTermsI ts fin R' (tOk p1 d) = some (rs, t2) ∧
      ((∃ p2, l = (postL N.length (U :: rs)).2 ∧ s2 = sOk p2 (N ++ (postL N.length (U :: rs)).1) d ∧ t2 = tOk p2 d ∧ LS ts p N (U :: rs) p2 ∧ txt ts p2 = ⟨#[41]⟩) ∨
       (s2.c ≠ 0 ∧ (mustT ts fin t2 ⟨#[41]⟩).c = s2.c ∧ (mustT ts fin t2 ⟨#[41]⟩).a = s2.a)) := by
  have h7 := v.len
  have v1 := L.V v
  have i1 : isP ts (sOk p1 (N ++ (postL N.length [U]).1) d) ⟨#[41]⟩ = decide (txt ts p1 = ⟨#[41]⟩) := is_ok tk _ (Or.inr (by decide)) (by decide)
  have hlen : ¬ 1 < (postL N.length [U]).2.length := by simp [postL]
  rw [show (1000 : Nat) = 999 + 1 from rfl, argsL, callTermsI, if_pos rfl, i1, sees_ok, if_neg hlen]
  simp only [decide_eq_true_eq]
  by_cases h0 : txt ts p1 = ⟨#[41]⟩
  · rw [if_pos h0, if_pos h0]
    exact ⟨_, _, _, _, rfl, rfl, Or.inl ⟨p1, rfl, rfl, rfl, L, h0⟩⟩
  · rw [if_neg h0, if_neg h0, termsI]
    rcases G.term v1 (by have := L.len; omega) with ⟨p2, pc, g1, g2, a1, a2, a3, a4, a5, v3⟩ | ⟨x, s1, pc, t1, g1, g2, hc, hc', ec, ea⟩
    · simp only [g1, g2]
      rw [snocN, snocK, List.cons_append, List.nil_append]
      exact argsL_sim tk G v hn U 999 1000 p2 [pc] (L.snoc a3 (show p1 ≤ p2 by omega) a2 (by omega)) (by simp) (by omega) (by omega)
    · simp only [g1, g2]
      rw [argsL_bad (by omega) hc, termsLI_bad (by omega) hc']
      exact ⟨_, _, _, _, rfl, rfl, Or.inr ⟨hc, by rw [mustT_bad hc', ec], by rw [mustT_bad hc', ea]⟩⟩
end
end
section
section
variable {ts : List Tok} {fin : Int} {p : Nat} {N : List Nd} {d : Int} {R : Rec} {R' R2 : RecI} {n : Nat}
theorem post_leaf (k ty : Nat) (h : Hd) (ht : ¬ ty = 164) : post k (.node ty h []) = [⟨h.kind, h.pos, h.num, h.name, []⟩] := by simp [post, postL, ht]
theorem upm_c {X : ByteArray} {t : T} (hc : t.c ≠ 0) : (upT (mustT ts fin t X)).c = t.c := by rw [mustT_bad hc]; rfl
theorem upm_a {X : ByteArray} {t : T} (hc : t.c ≠ 0) : (upT (mustT ts fin t X)).a = t.a := by rw [mustT_bad hc]; rfl
/-- A term that ends a statement, and the one node over it. -/
theorem end_sim (tk : ∀ t ∈ ts, TK t) (G : Gd ts fin n R R') {q1 : Nat} (v : V ts q1 N d) (hp : p + 1 ≤ q1) (hm : (ts.length - p) * 16 ≤ n) (ty : Nat) (h : Hd) (hty : oneT.contains ty = true) (ht : ¬ ty = 164) :
    ∃ r q, (match R (.level 1) (sOk q1 N d) with | none => none | some (x, s1) => nodeP (mustP ts fin s1 ⟨#[59]⟩) ⟨h.kind, h.pos, h.num, h.name, [x]⟩) = some r ∧
      (match lastTermI ts fin R' (tOk q1 d) with | none => none | some (pc, s1) => some (P.node ty h [pc], s1)) = some q ∧ Res ts p N d r q := by
  have := v.le
  rcases G.lastTerm tk v (by omega) with ⟨p1, pc, g1, g2, g3, a1, a2, a3, a4, a5, v3⟩ | ⟨x, s1, pc, t1, g1, g2, hc, ec, ea⟩
  · simp only [g1, g2, g3]
    rw [node_ok _ v3.big]
    refine ⟨_, _, rfl, rfl, Or.inl ⟨p1 + 1, _, by omega, a2, ?_, ?_, ?_, rfl⟩⟩
    · simp only [fine, fineL, a3, fineT, hty, List.length_cons, List.length_nil]; simp
    · rw [post_one _ _ _ _ ht]; simp only [List.length_append, List.length_cons, List.length_nil]; omega
    · rw [post_one _ _ _ _ ht]; simp
  · simp only [g1, g2]
    exact fin_bad (MB.node _ hc rfl rfl) (IB.mk rfl rfl) hc ec ea
theorem setF_mb (G : GB 13 R) (at0 : Int) (nm : ByteArray) {s : S} (hc : s.c ≠ 0) : MB (setF ts fin R at0 nm s) s := by
  obtain ⟨x1, s1, e1, c1, a1⟩ := G (.level 1) s (by decide) hc
  have hc1 : s1.c ≠ 0 := by rw [c1]; exact hc
  simp only [setF, isP_bad hc, kindP_bad hc, Bool.false_and, Bool.false_eq_true, if_false, e1, mustP_bad hc1, nodeP_bad hc1]
  exact MB.mk c1 a1
theorem set_sim (tk : ∀ t ∈ ts, TK t) (G : Gd ts fin n R R') {q1 : Nat} (v : V ts q1 N d) (hp : p + 2 ≤ q1) (hm : (ts.length - p) * 16 ≤ n) (a : Tok) :
    ∃ r q, setF ts fin R a.pos a.text (sOk q1 N d) = some r ∧ assignmentI ts fin R' a (tOk q1 d) = some q ∧ Res ts p N d r q := by
  have h6 := v.le
  have h7 := v.len
  have h8 := v.N
  have i1 : isP ts (sOk q1 N d) ⟨#[38]⟩ = decide (txt ts q1 = ⟨#[38]⟩) := is_ok tk _ (Or.inr (by decide)) (by decide)
  have i2 : isP ts (sOk q1 N d) ⟨#[110, 117, 108, 108]⟩ = decide (txt ts q1 = ⟨#[110, 117, 108, 108]⟩) := is_ok tk _ (Or.inl (by decide)) (by decide)
  have i3 : kindP ts (sOk q1 N d) 1 = decide (knd ts q1 = 1) := kind_ok 1 (by omega)
  have i4 : nextP ts (sOk q1 N d) ⟨#[40]⟩ = decide (txt ts (q1 + 1) = ⟨#[40]⟩) := next_ok tk _ (by decide) (by decide)
  unfold setF assignmentI
  rw [i1, i2, i3, i4, sees_ok, sees_ok, tok_ok, tokA_ok]
  simp only [decide_eq_true_eq, Bool.and_eq_true, at_ok]
  by_cases h1 : txt ts q1 = ⟨#[38]⟩
  · have hl := txt_lt (by decide) h1
    rw [if_pos h1, if_pos h1, up_ok, upT_ok (by omega), useF, addressI]
    rcases name_cases (fin := fin) (v.up hl) with ⟨_, e1, e2, _, e4, e5, hl2, v1⟩ | ⟨_, e1, e2⟩
    · rw [e1, e2, e4, e5, node_ok _ v1.big]
      simp only []
      have v2 : V ts (q1 + 1 + 1) (N ++ [⟨23, loc ts fin (q1 + 1), 0, txt ts (q1 + 1), []⟩]) d := ⟨hl2, v.len, v.d0, v.d1, by simp only [List.length_append, List.length_cons, List.length_nil]; omega⟩
      rw [at_ok]
      rcases must_step (fin := fin) tk v2 ⟨#[91]⟩ (Or.inr (by decide)) (by decide) with ⟨k1, k2, k3, v3, _⟩ | ⟨s1, t1, k1, k2, hc, hc', ec, ea⟩
      · rw [k1, k2]
        rcases G.term v3 (by omega) with ⟨p2, pc, g1, g2, a1, a2, a3, a4, a5, v4⟩ | ⟨x, s1, pc, t1, g1, g2, hc, hc', ec, ea⟩
        · simp only [g1, g2]
          rcases must_step (fin := fin) tk v4 ⟨#[93]⟩ (Or.inr (by decide)) (by decide) with ⟨b1, b2, b3, v5, _⟩ | ⟨s1, t1, b1, b2, hc, hc', ec, ea⟩
          · rw [b1, b2]
            rcases must_step (fin := fin) tk v5 ⟨#[59]⟩ (Or.inr (by decide)) (by decide) with ⟨c1, c2, c3, v6, _⟩ | ⟨s1, t1, c1, c2, hc, hc', ec, ea⟩
            · rw [c1, c2, node_ok _ v6.big]
              simp only [List.length_append, List.length_cons, List.length_nil, Nat.zero_add] at a4 a5
              refine ⟨_, _, rfl, rfl, Or.inl ⟨p2 + 1 + 1, _, by omega, c3, ?_, ?_, ?_, rfl⟩⟩
              · simp only [fine, fineL, a3, List.length_cons, List.length_nil]; decide
              · rw [post_two _ _ _ _ _ (by decide), post_leaf _ _ _ (by decide)]; simp only [List.length_append, List.length_cons, List.length_nil, Nat.zero_add]; omega
              · rw [post_two _ _ _ _ _ (by decide), post_leaf _ _ _ (by decide)]
                simp [Nat.add_assoc]
            · rw [c1, c2]
              exact fin_bad (MB.node _ hc rfl rfl) (IB.mk rfl rfl) hc ec ea
          · rw [b1, b2]
            exact fin_bad (MB.node _ hc (by rw [mustP_bad hc]) (by rw [mustP_bad hc])) (IB.mk (upm_c hc') (upm_a hc')) hc ec ea
        · simp only [g1, g2]
          exact fin_bad (MB.node _ hc (by rw [mustP_bad hc, mustP_bad hc]) (by rw [mustP_bad hc, mustP_bad hc])) (IB.mk (by rw [upm_c (by rw [upm_c hc']; exact hc'), upm_c hc']) (by rw [upm_a (by rw [upm_c hc']; exact hc'), upm_a hc'])) hc ec ea
      · rw [k1, k2]
        obtain ⟨x1, s2, f1, f2, f3⟩ := G.mlev hc
        obtain ⟨x2, t2, f4, f5, f6⟩ := G.ilev hc'
        have hc1 : s2.c ≠ 0 := by rw [f2]; exact hc
        have hc2 : t2.c ≠ 0 := by rw [f5]; exact hc'
        simp only [f1, f4]
        exact fin_bad (s1 := s2) (t1 := t2) (MB.node _ hc1 (by rw [mustP_bad hc1, mustP_bad hc1]) (by rw [mustP_bad hc1, mustP_bad hc1])) (IB.mk (by rw [upm_c (by rw [upm_c hc2]; exact hc2), upm_c hc2]) (by rw [upm_a (by rw [upm_c hc2]; exact hc2), upm_a hc2])) hc1 (by rw [f2, f5, ec]) (by rw [f3, f6, ea])
    · have hb : (⟨q1 + 1, N, d, 6, loc ts fin (q1 + 1)⟩ : S).c ≠ 0 := by simp
      have hb' : (nmT ts fin (tOk (q1 + 1) d)).c ≠ 0 := by rw [nmT, e2]; simp [upT]
      rw [e1, nodeP_bad hb]
      simp only []
      rw [mustP_bad hb]
      obtain ⟨x1, s2, f1, f2, f3⟩ := G.mlev hb
      obtain ⟨x2, t2, f4, f5, f6⟩ := G.ilev (t := upT (mustT ts fin (nmT ts fin (tOk (q1 + 1) d)) ⟨#[91]⟩)) (by rw [upm_c hb']; exact hb')
      rw [upm_c hb'] at f5
      rw [upm_a hb'] at f6
      have hc1 : s2.c ≠ 0 := by rw [f2]; exact hb
      have hc2 : t2.c ≠ 0 := by rw [f5]; exact hb'
      simp only [f1, f4]
      exact fin_bad (s1 := s2) (t1 := t2) (MB.node _ hc1 (by rw [mustP_bad hc1, mustP_bad hc1]) (by rw [mustP_bad hc1, mustP_bad hc1])) (IB.mk (by rw [upm_c (by rw [upm_c hc2]; exact hc2), upm_c hc2]) (by rw [upm_a (by rw [upm_c hc2]; exact hc2), upm_a hc2])) hc1 (by rw [f2, f5, nmT, e2]; rfl) (by rw [f3, f6, nmT, e2]; rfl)
  rw [if_neg h1, if_neg h1]
  by_cases h2 : knd ts q1 = 1 ∧ txt ts (q1 + 1) = ⟨#[40]⟩
  · rw [if_pos h2, if_pos h2, useF, callI]
    rcases name_cases (fin := fin) v with ⟨_, e1, e2, _, e4, e5, hl2, v1⟩ | ⟨hx, _⟩
    · rw [e1, e2, e4, e5, node_ok _ v1.big]
      simp only []
      rw [at_ok]
      have hl3 := txt_lt (by decide) h2.2
      have v2 : V ts (q1 + 1) (N ++ [⟨23, loc ts fin q1, 0, txt ts q1, []⟩]) d := ⟨hl2, v.len, v.d0, v.d1, by simp only [List.length_append, List.length_cons, List.length_nil]; omega⟩
      rcases must_cases (fin := fin) tk v2 ⟨#[40]⟩ (Or.inr (by decide)) (by decide) with ⟨_, k1, _, k2, k3, v3⟩ | ⟨_, k2⟩
      · rw [k1, k2]
        have eU : postL N.length [P.node 208 ⟨23, loc ts fin q1, 0, txt ts q1⟩ []] = ([⟨23, loc ts fin q1, 0, txt ts q1, []⟩], [N.length]) := by simp [postL, post]
        have L0 : LS ts q1 N [P.node 208 ⟨23, loc ts fin q1, 0, txt ts q1⟩ []] (q1 + 1 + 1) := ⟨by omega, k3, by simp only [fineL, fine, List.length_nil]; decide, by rw [eU]; simp only [List.length_cons, List.length_nil]; omega⟩
        obtain ⟨l, s2, rs, t2, b1, b2, hb⟩ := args_sim (fin := fin) tk G v _ L0 (by omega) (by omega)
        rw [eU] at b1
        simp only [b1, b2]
        rcases hb with ⟨p2, rfl, rfl, rfl, L, hx⟩ | ⟨hc, ec, ea⟩
        · have L1 := L.le
          have L2 := L.cnt
          rcases must_step (fin := fin) tk (L.V v) ⟨#[41]⟩ (Or.inr (by decide)) (by decide) with ⟨c1, c2, c3, v4, _⟩ | ⟨s1, t1, c1, c2, hc, hc', ec, ea⟩
          · rw [c1, c2]
            rcases must_step (fin := fin) tk v4 ⟨#[59]⟩ (Or.inr (by decide)) (by decide) with ⟨g1, g2, g3, v5, _⟩ | ⟨s1, t1, g1, g2, hc, hc', ec, ea⟩
            · rw [g1, g2, node_ok _ v5.big]
              refine ⟨_, _, rfl, rfl, Or.inl ⟨p2 + 1 + 1, _, by omega, g3, ?_, ?_, ?_, rfl⟩⟩
              · simp only [fine, L.ok]; simp [fineT]
              · rw [post_list _ _ _ _ (by decide)]; simp only [List.length_append, List.length_cons, List.length_nil]; omega
              · rw [post_list _ _ _ _ (by decide)]; simp
            · rw [g1, g2]
              exact fin_bad (MB.node _ hc rfl rfl) (IB.mk rfl rfl) hc ec ea
          · rw [c1, c2]
            exact fin_bad (MB.node _ hc (by rw [mustP_bad hc]) (by rw [mustP_bad hc])) (IB.mk (upm_c hc') (upm_a hc')) hc ec ea
        · have hc' : (upT (mustT ts fin t2 ⟨#[41]⟩)).c ≠ 0 := by rw [upT_c, ec]; exact hc
          exact fin_bad (s1 := s2) (t1 := upT (mustT ts fin t2 ⟨#[41]⟩)) (MB.node _ hc (by rw [mustP_bad hc, mustP_bad hc]) (by rw [mustP_bad hc, mustP_bad hc])) (IB.mk (upm_c hc') (upm_a hc')) hc ec ea
      · rw [mustT, sees_ok, h2.2] at k2; simp at k2
    · exact absurd h2.1 hx
  rw [if_neg h2, if_neg h2]
  by_cases h3 : txt ts q1 = ⟨#[110, 117, 108, 108]⟩
  · have hl := txt_lt (by decide) h3
    rw [if_pos h3, if_pos h3, node_ok _ v.big, upT_ok (by omega)]
    simp only []
    rw [up_ok]
    have v2 : V ts (q1 + 1) (N ++ [⟨29, loc ts fin q1, 0, ⟨#[]⟩, []⟩]) d := ⟨hl, v.len, v.d0, v.d1, by simp only [List.length_append, List.length_cons, List.length_nil]; omega⟩
    rcases must_step (fin := fin) tk v2 ⟨#[59]⟩ (Or.inr (by decide)) (by decide) with ⟨k1, k2, k3, v3, _⟩ | ⟨s1, t1, k1, k2, hc, hc', ec, ea⟩
    · rw [k1, k2, node_ok _ v3.big]
      refine ⟨_, _, rfl, rfl, Or.inl ⟨q1 + 1 + 1, _, by omega, k3, ?_, ?_, ?_, rfl⟩⟩
      · simp only [fine, fineL, List.length_cons, List.length_nil]; decide
      · rw [post_one _ _ _ _ (by decide), post_leaf _ _ _ (by decide)]; simp only [List.length_append, List.length_cons, List.length_nil]; omega
      · rw [post_one _ _ _ _ (by decide), post_leaf _ _ _ (by decide)]; simp
    · rw [k1, k2]
      exact fin_bad (MB.node _ hc rfl rfl) (IB.mk rfl rfl) hc ec ea
  rw [if_neg h3, if_neg h3]
  exact end_sim tk G v (by omega) hm 207 ⟨9, a.pos, 0, a.text⟩ (by decide) (by decide)
end
end
section
section
variable {ts : List Tok} {fin : Int} {p : Nat} {N : List Nd} {d : Int} {R : Rec} {R' R2 : RecI} {n : Nat}
theorem named_sim (tk : ∀ t ∈ ts, TK t) (G : Gd ts fin n R R') (v : V ts p N d) (hk : knd ts p = 1) (hm : (ts.length - p) * 16 ≤ n) :
    ∃ r q, namedF ts fin R (sOk p N d) = some r ∧ ruleI ts fin R' .named (tOk p d) = some q ∧ Res ts p N d r q := by
  have h7 := v.len
  have h8 := v.N
  simp only [ruleI]
  unfold namedF nameStatementI
  rcases name_cases (fin := fin) v with ⟨_, e1, e2, _, e4, e5, hl, v1⟩ | ⟨hx, _⟩
  · have i1 : isP ts (sOk (p + 1) N d) ⟨#[91]⟩ = decide (txt ts (p + 1) = ⟨#[91]⟩) := is_ok tk _ (Or.inr (by decide)) (by decide)
    have i2 : isP ts (sOk (p + 1) N d) ⟨#[43, 61]⟩ = decide (txt ts (p + 1) = ⟨#[43, 61]⟩) := is_ok tk _ (Or.inr (by decide)) (by decide)
    rw [e1, e2, tok_ok, upT_ok (by omega), i1, i2, sees_ok, sees_ok, sees_ok]
    simp only [decide_eq_true_eq, at_ok]
    by_cases h1 : txt ts (p + 1) = ⟨#[61]⟩
    · have hl1 := txt_lt (by decide) h1
      rw [if_neg (by rw [h1]; decide), if_neg (by rw [h1]; decide), if_pos h1, upT_ok (by omega)]
      rcases must_cases (fin := fin) tk v1 ⟨#[61]⟩ (Or.inr (by decide)) (by decide) with ⟨_, k1, _, _, k3, v3⟩ | ⟨_, k2⟩
      · rw [k1]
        exact set_sim tk G v3 (by omega) hm ⟨knd ts p, loc ts fin p, txt ts p, nbr ts p⟩
      · rw [mustT, sees_ok, h1] at k2; simp at k2
    rw [if_neg h1]
    by_cases h2 : txt ts (p + 1) = ⟨#[43, 61]⟩
    · have hl1 := txt_lt (by decide) h2
      rw [if_neg (by rw [h2]; decide), if_pos h2, if_pos h2, up_ok, upT_ok (by omega)]
      exact end_sim tk G (v1.up hl1) (by omega) hm 213 ⟨13, loc ts fin p, 0, txt ts p⟩ (by decide) (by decide)
    rw [if_neg h2, if_neg h2]
    by_cases h3 : txt ts (p + 1) = ⟨#[91]⟩
    · have hl1 := txt_lt (by decide) h3
      rw [if_pos h3, if_pos h3, up_ok, upT_ok (by omega)]
      rcases G.term (v1.up hl1) (by omega) with ⟨p2, pc, g1, g2, a1, a2, a3, a4, a5, v4⟩ | ⟨x, s1, pc, t1, g1, g2, hc, hc', ec, ea⟩
      · simp only [g1, g2]
        rcases must_step (fin := fin) tk v4 ⟨#[93]⟩ (Or.inr (by decide)) (by decide) with ⟨b1, b2, b3, v5, _⟩ | ⟨s1, t1, b1, b2, hc, hc', ec, ea⟩
        · rw [b1, b2]
          rcases must_step (fin := fin) tk v5 ⟨#[61]⟩ (Or.inr (by decide)) (by decide) with ⟨c1, c2, c3, v6, _⟩ | ⟨s1, t1, c1, c2, hc, hc', ec, ea⟩
          · rw [c1, c2]
            rcases G.lastTerm tk v6 (by omega) with ⟨p3, pc2, k1, k2, k3, m1, m2, m3, m4, m5, v7⟩ | ⟨x, s1, pc2, t1, k1, k2, hc, ec, ea⟩
            · simp only [k1, k2, k3]
              rw [node_ok _ v7.big]
              simp only [List.length_append] at m4 m5
              refine ⟨_, _, rfl, rfl, Or.inl ⟨p3 + 1, _, by omega, m2, ?_, ?_, ?_, rfl⟩⟩
              · simp only [fine, fineL, a3, m3, List.length_cons, List.length_nil]; decide
              · rw [post_two _ _ _ _ _ (by decide)]; simp only [List.length_append, List.length_cons, List.length_nil]; omega
              · rw [post_two _ _ _ _ _ (by decide)]
                simp only [List.length_append, List.length_cons, List.length_nil, List.append_assoc, Nat.add_assoc]
                rw [show N.length + ((post N.length pc).length + ((post (N.length + (post N.length pc).length) pc2).length + (0 + 1))) - 1 = N.length + ((post N.length pc).length + (post (N.length + (post N.length pc).length) pc2).length) by omega]
            · simp only [k1, k2]
              exact fin_bad (MB.node _ hc rfl rfl) (IB.mk rfl rfl) hc ec ea
          · rw [c1, c2]
            obtain ⟨x1, s2, f1, f2, f3⟩ := G.mlev hc
            obtain ⟨x2, t2, f4, f5, f6⟩ := lastTerm_ib (ts := ts) (fin := fin) G.ib (by omega) hc'
            have hc1 : s2.c ≠ 0 := by rw [f2]; exact hc
            simp only [f1, f4]
            exact fin_bad (s1 := s2) (t1 := t2) (MB.node _ hc1 (by rw [mustP_bad hc1]) (by rw [mustP_bad hc1])) (IB.mk rfl rfl) hc1 (by rw [f2, f5, ec]) (by rw [f3, f6, ea])
        · rw [b1, b2, mustP_bad hc]
          obtain ⟨x1, s2, f1, f2, f3⟩ := G.mlev hc
          obtain ⟨x2, t2, f4, f5, f6⟩ := lastTerm_ib (ts := ts) (fin := fin) (t := upT (mustT ts fin t1 ⟨#[61]⟩)) G.ib (by omega) (by rw [upm_c hc']; exact hc')
          have hc1 : s2.c ≠ 0 := by rw [f2]; exact hc
          simp only [f1, f4]
          exact fin_bad (s1 := s2) (t1 := t2) (MB.node _ hc1 (by rw [mustP_bad hc1]) (by rw [mustP_bad hc1])) (IB.mk rfl rfl) hc1 (by rw [f2, f5, upm_c hc', ec]) (by rw [f3, f6, upm_a hc', ea])
      · simp only [g1, g2]
        rw [mustP_bad hc, mustP_bad hc]
        obtain ⟨x1, s2, f1, f2, f3⟩ := G.mlev hc
        have hc3 : (upT (mustT ts fin t1 ⟨#[93]⟩)).c ≠ 0 := by rw [upm_c hc']; exact hc'
        obtain ⟨x2, t2, f4, f5, f6⟩ := lastTerm_ib (ts := ts) (fin := fin) (t := upT (mustT ts fin (upT (mustT ts fin t1 ⟨#[93]⟩)) ⟨#[61]⟩)) G.ib (by omega) (by rw [upm_c hc3]; exact hc3)
        have hc1 : s2.c ≠ 0 := by rw [f2]; exact hc
        simp only [f1, f4]
        exact fin_bad (s1 := s2) (t1 := t2) (MB.node _ hc1 (by rw [mustP_bad hc1]) (by rw [mustP_bad hc1])) (IB.mk rfl rfl) hc1 (by rw [f2, f5, upm_c hc3, upm_c hc', ec]) (by rw [f3, f6, upm_a hc3, upm_a hc', ea])
    · rw [if_neg h3, if_neg h3, failT_ok]
      rcases must_cases (fin := fin) tk v1 ⟨#[61]⟩ (Or.inr (by decide)) (by decide) with ⟨e, _⟩ | ⟨k1, _⟩
      · exact absurd e h1
      · rw [k1]
        exact fin_bad (s1 := ⟨p + 1, N, d, 6, loc ts fin (p + 1)⟩) (setF_mb G.mb _ _ (by simp)) (IB.mk rfl rfl) (by simp) rfl rfl
  · exact absurd hk hx
end
end
section
section
variable {ts : List Tok} {fin : Int} {p : Nat} {N : List Nd} {d : Int} {R : Rec} {R' R2 : RecI} {n : Nat}
theorem Gd.blk (G : Gd ts fin n R R') (v : V ts p N d) (hm : (ts.length - p) * 16 + 1 < n) :
    (∃ p1 po bs, R .block (sOk p N d) = some (N.length + (post N.length (.node 134 ⟨8, po, 0, ⟨#[]⟩⟩ bs)).length - 1, sOk p1 (N ++ post N.length (.node 134 ⟨8, po, 0, ⟨#[]⟩⟩ bs)) d) ∧ blockI ts fin R' (tOk p d) = some (po, bs, tOk p1 d) ∧
      p < p1 ∧ p1 ≤ ts.length ∧ fine (.node 134 ⟨8, po, 0, ⟨#[]⟩⟩ bs) = true ∧ (post N.length (.node 134 ⟨8, po, 0, ⟨#[]⟩⟩ bs)).length + 2 * p ≤ 2 * p1 ∧ 1 ≤ (post N.length (.node 134 ⟨8, po, 0, ⟨#[]⟩⟩ bs)).length ∧ V ts p1 (N ++ post N.length (.node 134 ⟨8, po, 0, ⟨#[]⟩⟩ bs)) d) ∨
    (∃ x s1 po bs t1, R .block (sOk p N d) = some (x, s1) ∧ blockI ts fin R' (tOk p d) = some (po, bs, t1) ∧ s1.c ≠ 0 ∧ t1.c ≠ 0 ∧ t1.c = s1.c ∧ t1.a = s1.a) := by
  have hz := G.call .block v trivial (by simp only [rk]; omega)
  simp only [ruleI] at hz
  cases hb : blockI ts fin R' (tOk p d) with
  | none => rw [hb] at hz; rcases hz with ⟨_, _, _, h, _⟩ | ⟨_, _, _, _, _, h, _⟩ <;> cases h
  | some r =>
    obtain ⟨po, bs, t1⟩ := r
    rw [hb] at hz
    rcases hz with ⟨p1, pc, g1, g2, a⟩ | ⟨x, s1, pc, t2, g1, g2, a⟩
    · cases g2
      exact Or.inl ⟨p1, po, bs, g1, rfl, a⟩
    · cases g2
      exact Or.inr ⟨x, s1, po, bs, t1, g1, rfl, a⟩
theorem post_three (k ty : Nat) (h : Hd) (a b c : P) (ht : ¬ ty = 164) : post k (.node ty h [a, b, c]) = post k a ++ post (k + (post k a).length) b ++ post (k + (post k a).length + (post (k + (post k a).length) b).length) c ++ [⟨h.kind, h.pos, h.num, h.name, [k + (post k a).length - 1, k + (post k a).length + (post (k + (post k a).length) b).length - 1, k + (post k a).length + (post (k + (post k a).length) b).length + (post (k + (post k a).length + (post (k + (post k a).length) b).length) c).length - 1]⟩] := by simp [post, postL, ht]
/-- Three pieces, and the one node over them. -/
theorem res_three {p3 : Nat} (ty : Nat) (h : Hd) (a b c : P) (hf : fineT ty 3 = true) (ht : ¬ ty = 164) (fa : fine a = true) (fb : fine b = true) (fc : fine c = true) (h1 : p < p3) (h2 : p3 ≤ ts.length)
    (hc : (post N.length a).length + (post (N ++ post N.length a).length b).length + (post (N ++ post N.length a ++ post (N ++ post N.length a).length b).length c).length + 1 + 2 * p ≤ 2 * p3) :
    Res ts p N d ((N ++ post N.length a ++ post (N ++ post N.length a).length b ++ post (N ++ post N.length a ++ post (N ++ post N.length a).length b).length c).length, sOk p3 (N ++ post N.length a ++ post (N ++ post N.length a).length b ++ post (N ++ post N.length a ++ post (N ++ post N.length a).length b).length c ++ [⟨h.kind, h.pos, h.num, h.name, [N.length + (post N.length a).length - 1, (N ++ post N.length a).length + (post (N ++ post N.length a).length b).length - 1, (N ++ post N.length a ++ post (N ++ post N.length a).length b).length + (post (N ++ post N.length a ++ post (N ++ post N.length a).length b).length c).length - 1]⟩]) d) (.node ty h [a, b, c], tOk p3 d) := by
  refine Or.inl ⟨p3, _, h1, h2, ?_, ?_, ?_, rfl⟩
  · simp only [fine, fineL, fa, fb, fc, List.length_cons, List.length_nil, hf]; rfl
  · rw [post_three _ _ _ _ _ _ ht]; simp only [List.length_append, List.length_cons, List.length_nil] at hc ⊢; omega
  · rw [post_three _ _ _ _ _ _ ht]; simp [Nat.add_assoc]; omega
theorem res_two {p3 : Nat} (ty : Nat) (h : Hd) (a b : P) (hf : fineT ty 2 = true) (ht : ¬ ty = 164) (fa : fine a = true) (fb : fine b = true) (h1 : p < p3) (h2 : p3 ≤ ts.length)
    (hc : (post N.length a).length + (post (N ++ post N.length a).length b).length + 1 + 2 * p ≤ 2 * p3) :
    Res ts p N d ((N ++ post N.length a ++ post (N ++ post N.length a).length b).length, sOk p3 (N ++ post N.length a ++ post (N ++ post N.length a).length b ++ [⟨h.kind, h.pos, h.num, h.name, [N.length + (post N.length a).length - 1, (N ++ post N.length a).length + (post (N ++ post N.length a).length b).length - 1]⟩]) d) (.node ty h [a, b], tOk p3 d) := by
  refine Or.inl ⟨p3, _, h1, h2, ?_, ?_, ?_, rfl⟩
  · simp only [fine, fineL, fa, fb, List.length_cons, List.length_nil, hf]; rfl
  · rw [post_two _ _ _ _ _ ht]; simp only [List.length_append, List.length_cons, List.length_nil] at hc ⊢; omega
  · rw [post_two _ _ _ _ _ ht]; simp [Nat.add_assoc]; omega
theorem if_sim (tk : ∀ t ∈ ts, TK t) (G : Gd ts fin n R R') (v : V ts p N d) (h1 : txt ts p = ⟨#[105, 102]⟩) (hm : (ts.length - p) * 16 ≤ n) :
    ∃ r q, branchF ts fin R (sOk p N d) = some r ∧ branchI ts fin R' (tokT ts fin (tOk p d)) (upT (tOk p d)) = some q ∧ Res ts p N d r q := by
  have h7 := v.len
  have hl := txt_lt (by decide) h1
  have i1 : isP ts (sOk p N d) ⟨#[105, 102]⟩ = decide (txt ts p = ⟨#[105, 102]⟩) := is_ok tk _ (Or.inl (by decide)) (by decide)
  unfold branchF branchI
  rw [i1, upT_ok (by omega), tok_ok]
  simp only [decide_eq_true_eq, at_ok]
  rw [if_pos h1, up_ok]
  rcases G.same .cond .cond (fun _ => rfl) (v.up hl) trivial (by simp only [rk]; omega) with ⟨p1, pc, g1, g2, a1, a2, a3, a4, a5, v2⟩ | ⟨x, s1, pc, t1, g1, g2, hc, hc', ec, ea⟩
  · simp only [g1, g2]
    rcases G.blk v2 (by omega) with ⟨p2, po, bs, k1, k2, b1, b2, b3, b4, b5, v3⟩ | ⟨x, s1, po, bs, t1, k1, k2, hc, hc', ec, ea⟩
    · simp only [k1, k2]
      have i2 := is_ok (p := p2) (N := N ++ post N.length pc ++ post (N ++ post N.length pc).length (.node 134 ⟨8, po, 0, ⟨#[]⟩⟩ bs)) (d := d) tk ⟨#[101, 108, 115, 101]⟩ (Or.inl (by decide)) (by decide)
      rw [i2, sees_ok]
      simp only [decide_eq_true_eq]
      by_cases h2 : txt ts p2 = ⟨#[101, 108, 115, 101]⟩
      · have hl2 := txt_lt (by decide) h2
        rw [if_pos h2, if_pos h2, up_ok, upT_ok (by omega)]
        rcases G.blk (v3.up hl2) (by omega) with ⟨p3, po2, bs2, m1, m2, c1, c2, c3, c4, c5, v4⟩ | ⟨x, s1, po2, bs2, t1, m1, m2, hc, hc', ec, ea⟩
        · simp only [m1, m2]
          rw [node_ok _ v4.big]
          exact ⟨_, _, rfl, rfl, res_three 141 ⟨14, loc ts fin p, 0, ⟨#[]⟩⟩ _ _ _ (by decide) (by decide) a3 b3 c3 (by omega) c2 (by omega)⟩
        · simp only [m1, m2]
          exact fin_bad (MB.node _ hc rfl rfl) (IB.mk rfl rfl) hc ec ea
      · rw [if_neg h2, if_neg h2, node_ok _ v3.big]
        exact ⟨_, _, rfl, rfl, res_two 141 ⟨14, loc ts fin p, 0, ⟨#[]⟩⟩ _ _ (by decide) (by decide) a3 b3 (by omega) b2 (by omega)⟩
    · simp only [k1, k2]
      rw [isP_bad hc, sees_bad hc' _ (by decide)]
      simp only [Bool.false_eq_true, if_false]
      exact fin_bad (MB.node _ hc rfl rfl) (IB.mk rfl rfl) hc ec ea
  · simp only [g1, g2]
    obtain ⟨x1, s2, f1, f2, f3⟩ := G.mb .block s1 (by decide) hc
    obtain ⟨po, bs, t2, f4, f5, f6⟩ := block_ib (ts := ts) (fin := fin) (R := R') hc'
    have hc1 : s2.c ≠ 0 := by rw [f2]; exact hc
    have hc2 : t2.c ≠ 0 := by rw [f5]; exact hc'
    simp only [f1, f4]
    rw [isP_bad hc1, sees_bad hc2 _ (by decide)]
    simp only [Bool.false_eq_true, if_false]
    exact fin_bad (s1 := s2) (t1 := t2) (MB.node _ hc1 rfl rfl) (IB.mk rfl rfl) hc1 (by rw [f2, f5, ec]) (by rw [f3, f6, ea])
theorem while_sim (tk : ∀ t ∈ ts, TK t) (G : Gd ts fin n R R') (v : V ts p N d) (h1 : txt ts p = ⟨#[119, 104, 105, 108, 101]⟩) (hm : (ts.length - p) * 16 ≤ n) :
    ∃ r q, branchF ts fin R (sOk p N d) = some r ∧ whileI ts fin R' (tokT ts fin (tOk p d)).pos (upT (tOk p d)) = some q ∧ Res ts p N d r q := by
  have h7 := v.len
  have hl := txt_lt (by decide) h1
  have i1 : isP ts (sOk p N d) ⟨#[105, 102]⟩ = decide (txt ts p = ⟨#[105, 102]⟩) := is_ok tk _ (Or.inl (by decide)) (by decide)
  have i2 : isP ts (sOk p N d) ⟨#[119, 104, 105, 108, 101]⟩ = decide (txt ts p = ⟨#[119, 104, 105, 108, 101]⟩) := is_ok tk _ (Or.inl (by decide)) (by decide)
  unfold branchF whileI
  rw [i1, i2, upT_ok (by omega), tok_ok]
  simp only [decide_eq_true_eq, at_ok]
  rw [if_neg (by rw [h1]; decide), if_pos h1, up_ok]
  rcases G.same .cond .cond (fun _ => rfl) (v.up hl) trivial (by simp only [rk]; omega) with ⟨p1, pc, g1, g2, a1, a2, a3, a4, a5, v2⟩ | ⟨x, s1, pc, t1, g1, g2, hc, hc', ec, ea⟩
  · simp only [g1, g2]
    rcases G.blk v2 (by omega) with ⟨p2, po, bs, k1, k2, b1, b2, b3, b4, b5, v3⟩ | ⟨x, s1, po, bs, t1, k1, k2, hc, hc', ec, ea⟩
    · simp only [k1, k2]
      rw [node_ok _ v3.big]
      exact ⟨_, _, rfl, rfl, res_two 144 ⟨15, loc ts fin p, 0, ⟨#[]⟩⟩ _ _ (by decide) (by decide) a3 b3 (by omega) b2 (by omega)⟩
    · simp only [k1, k2]
      exact fin_bad (MB.node _ hc rfl rfl) (IB.mk rfl rfl) hc ec ea
  · simp only [g1, g2]
    obtain ⟨x1, s2, f1, f2, f3⟩ := G.mb .block s1 (by decide) hc
    obtain ⟨po, bs, t2, f4, f5, f6⟩ := block_ib (ts := ts) (fin := fin) (R := R') hc'
    have hc1 : s2.c ≠ 0 := by rw [f2]; exact hc
    simp only [f1, f4]
    exact fin_bad (s1 := s2) (t1 := t2) (MB.node _ hc1 rfl rfl) (IB.mk rfl rfl) hc1 (by rw [f2, f5, ec]) (by rw [f3, f6, ea])
end
end
section
section
variable {ts : List Tok} {fin : Int} {p : Nat} {N : List Nd} {d : Int} {R : Rec} {R' R2 : RecI} {n : Nat}
/-- A loop's parts behind a fault. -/
theorem for_mb2 (G : GB 13 R) (F : Nat → Nat → Nd) (x : Nat) {s : S} (hc : s.c ≠ 0) : MB (match R (.level 1) s with | none => none | some (y, s2) => match R .block s2 with | none => none | some (b, s3) => nodeP s3 (F y b)) s := by
  obtain ⟨y, s2, e1, e2, e3⟩ := G (.level 1) s (by decide) hc
  obtain ⟨b, s3, f1, f2, f3⟩ := G .block s2 (by decide) (by rw [e2]; exact hc)
  simp only [e1, f1]
  exact MB.node _ hc (by rw [f2, e2]) (by rw [f3, e3])
theorem for_ib2 (G : GI 12 R') (H : Hd) (pc : P) {t : T} (hc : t.c ≠ 0) : IB (match R' (.level 1) t with | none => none | some (q, s2) => match blockI ts fin R' s2 with | none => none | some (po, bs, s3) => some (P.node 146 H [pc, q, .node 134 ⟨8, po, 0, ⟨#[]⟩⟩ bs], s3)) t := by
  obtain ⟨y, t2, e1, e2, e3⟩ := G.lev (by omega) 1 (by omega) hc
  obtain ⟨po, bs, t3, f1, f2, f3⟩ := block_ib (ts := ts) (fin := fin) (R := R') (t := t2) (by rw [e2]; exact hc)
  simp only [e1, f1]
  exact IB.mk (by rw [f2, e2]) (by rw [f3, e3])
theorem for_sim (tk : ∀ t ∈ ts, TK t) (G : Gd ts fin n R R') (v : V ts p N d) (h1 : txt ts p = ⟨#[102, 111, 114]⟩) (hm : (ts.length - p) * 16 ≤ n) :
    ∃ r q, branchF ts fin R (sOk p N d) = some r ∧ loopI ts fin R' (upT (tOk p d)) = some q ∧ Res ts p N d r q := by
  have h7 := v.len
  have hl := txt_lt (by decide) h1
  have i1 : isP ts (sOk p N d) ⟨#[105, 102]⟩ = decide (txt ts p = ⟨#[105, 102]⟩) := is_ok tk _ (Or.inl (by decide)) (by decide)
  have i2 : isP ts (sOk p N d) ⟨#[119, 104, 105, 108, 101]⟩ = decide (txt ts p = ⟨#[119, 104, 105, 108, 101]⟩) := is_ok tk _ (Or.inl (by decide)) (by decide)
  unfold branchF loopI
  rw [i1, i2, upT_ok (by omega)]
  simp only [decide_eq_true_eq]
  rw [if_neg (by rw [h1]; decide), if_neg (by rw [h1]; decide)]
  rcases must_cases (fin := fin) tk v ⟨#[102, 111, 114]⟩ (Or.inl (by decide)) (by decide) with ⟨_, k1, _, _, _, v1⟩ | ⟨_, k2⟩
  · rw [k1, forF]
    rcases name_cases (fin := fin) v1 with ⟨_, e1, e2, _, e4, e5, hl2, v2⟩ | ⟨_, e1, e2⟩
    · rw [e1, e2, e4, e5, at_ok]
      rcases must_step (fin := fin) tk v2 ⟨#[61]⟩ (Or.inr (by decide)) (by decide) with ⟨c1, c2, c3, v3, _⟩ | ⟨s1, t1, c1, c2, hc, hc', ec, ea⟩
      · rw [c1, c2]
        rcases G.term v3 (by omega) with ⟨p1, pc, g1, g2, a1, a2, a3, a4, a5, v4⟩ | ⟨x, s1, pc, t1, g1, g2, hc, hc', ec, ea⟩
        · simp only [g1, g2]
          rcases must_step (fin := fin) tk v4 ⟨#[46, 46]⟩ (Or.inr (by decide)) (by decide) with ⟨c1, c2, c3, v5, _⟩ | ⟨s1, t1, c1, c2, hc, hc', ec, ea⟩
          · rw [c1, c2]
            rcases G.term v5 (by omega) with ⟨p2, pc2, k1, k2, b1, b2, b3, b4, b5, v6⟩ | ⟨x, s1, pc2, t1, k1, k2, hc, hc', ec, ea⟩
            · simp only [k1, k2]
              rcases G.blk v6 (by omega) with ⟨p3, po, bs, m1, m2, q1, q2, q3, q4, q5, v7⟩ | ⟨x, s1, po, bs, t1, m1, m2, hc, hc', ec, ea⟩
              · simp only [m1, m2]
                rw [node_ok _ v7.big]
                exact ⟨_, _, rfl, rfl, res_three 146 ⟨16, loc ts fin (p + 1), 0, txt ts (p + 1)⟩ _ _ _ (by decide) (by decide) a3 b3 q3 (by omega) q2 (by omega)⟩
              · simp only [m1, m2]
                exact fin_bad (MB.node _ hc rfl rfl) (IB.mk rfl rfl) hc ec ea
            · simp only [k1, k2]
              obtain ⟨x1, s2, f1, f2, f3⟩ := G.mb .block s1 (by decide) hc
              obtain ⟨po, bs, t2, f4, f5, f6⟩ := block_ib (ts := ts) (fin := fin) (R := R') hc'
              have hc1 : s2.c ≠ 0 := by rw [f2]; exact hc
              simp only [f1, f4]
              exact fin_bad (s1 := s2) (t1 := t2) (MB.node _ hc1 rfl rfl) (IB.mk rfl rfl) hc1 (by rw [f2, f5, ec]) (by rw [f3, f6, ea])
          · rw [c1, c2]
            exact fin_bad (for_mb2 G.mb _ 0 hc) (for_ib2 G.ib _ _ hc') hc ec ea
        · simp only [g1, g2]
          rw [mustP_bad hc]
          exact fin_bad (s1 := s1) (t1 := upT (mustT ts fin t1 ⟨#[46, 46]⟩)) (for_mb2 G.mb _ 0 hc) (for_ib2 G.ib _ _ (by rw [upm_c hc']; exact hc')) hc (by rw [upm_c hc', ec]) (by rw [upm_a hc', ea])
      · rw [c1, c2]
        obtain ⟨x1, s2, f1, f2, f3⟩ := G.mlev hc
        obtain ⟨x2, t2, f4, f5, f6⟩ := G.ilev hc'
        have hc1 : s2.c ≠ 0 := by rw [f2]; exact hc
        have hc2 : t2.c ≠ 0 := by rw [f5]; exact hc'
        simp only [f1, f4]
        rw [mustP_bad hc1]
        exact fin_bad (s1 := s2) (t1 := upT (mustT ts fin t2 ⟨#[46, 46]⟩)) (for_mb2 G.mb _ 0 hc1) (for_ib2 G.ib _ _ (by rw [upm_c hc2]; exact hc2)) hc1 (by rw [upm_c hc2, f2, f5, ec]) (by rw [upm_a hc2, f3, f6, ea])
    · have hb : (⟨p + 1, N, d, 6, loc ts fin (p + 1)⟩ : S).c ≠ 0 := by simp
      have hb' : (nmT ts fin (tOk (p + 1) d)).c ≠ 0 := by rw [nmT, e2]; simp [upT]
      rw [e1, mustP_bad hb]
      obtain ⟨x1, s2, f1, f2, f3⟩ := G.mlev hb
      obtain ⟨x2, t2, f4, f5, f6⟩ := G.ilev (t := upT (mustT ts fin (nmT ts fin (tOk (p + 1) d)) ⟨#[61]⟩)) (by rw [upm_c hb']; exact hb')
      rw [upm_c hb'] at f5
      rw [upm_a hb'] at f6
      have hc1 : s2.c ≠ 0 := by rw [f2]; exact hb
      have hc2 : t2.c ≠ 0 := by rw [f5]; exact hb'
      simp only [f1, f4]
      rw [mustP_bad hc1]
      exact fin_bad (s1 := s2) (t1 := upT (mustT ts fin t2 ⟨#[46, 46]⟩)) (for_mb2 G.mb _ 0 hc1) (for_ib2 G.ib _ _ (by rw [upm_c hc2]; exact hc2)) hc1 (by rw [upm_c hc2, f2, f5, nmT, e2]; rfl) (by rw [upm_a hc2, f3, f6, nmT, e2]; rfl)
  · rw [mustT, sees_ok, h1] at k2; simp at k2
end
end
section
section
variable {ts : List Tok} {fin : Int} {p : Nat} {N : List Nd} {d : Int} {R : Rec} {R' R2 : RecI} {n : Nat}
theorem statement_sim (tk : ∀ t ∈ ts, TK t) (G : Gd ts fin n R R') (v : V ts p N d) (hm : (ts.length - p) * 16 + 13 ≤ n) :
    ∃ r q, statementF ts fin R (sOk p N d) = some r ∧ statementI ts fin R' (tOk p d) = some q ∧ Res ts p N d r q := by
  have h6 := v.le
  have h7 := v.len
  have h8 := v.N
  have hkd : (tokT ts fin (tOk p d)).kind = knd ts p := by rw [tok_ok]
  have hpo : (tokT ts fin (tOk p d)).pos = loc ts fin p := by rw [tok_ok]
  have i_k : kindP ts (sOk p N d) 1 = decide (knd ts p = 1) := kind_ok 1 (by omega)
  have i_s : isP ts (sOk p N d) ⟨#[42]⟩ = decide (txt ts p = ⟨#[42]⟩) := is_ok tk _ (Or.inr (by decide)) (by decide)
  have i_if : isP ts (sOk p N d) ⟨#[105, 102]⟩ = decide (txt ts p = ⟨#[105, 102]⟩) := is_ok tk _ (Or.inl (by decide)) (by decide)
  have i_while : isP ts (sOk p N d) ⟨#[119, 104, 105, 108, 101]⟩ = decide (txt ts p = ⟨#[119, 104, 105, 108, 101]⟩) := is_ok tk _ (Or.inl (by decide)) (by decide)
  have i_for : isP ts (sOk p N d) ⟨#[102, 111, 114]⟩ = decide (txt ts p = ⟨#[102, 111, 114]⟩) := is_ok tk _ (Or.inl (by decide)) (by decide)
  have i_read : isP ts (sOk p N d) ⟨#[114, 101, 97, 100]⟩ = decide (txt ts p = ⟨#[114, 101, 97, 100]⟩) := is_ok tk _ (Or.inl (by decide)) (by decide)
  have i_print : isP ts (sOk p N d) ⟨#[112, 114, 105, 110, 116]⟩ = decide (txt ts p = ⟨#[112, 114, 105, 110, 116]⟩) := is_ok tk _ (Or.inl (by decide)) (by decide)
  have i_assert : isP ts (sOk p N d) ⟨#[97, 115, 115, 101, 114, 116]⟩ = decide (txt ts p = ⟨#[97, 115, 115, 101, 114, 116]⟩) := is_ok tk _ (Or.inl (by decide)) (by decide)
  have i_stop : isP ts (sOk p N d) ⟨#[115, 116, 111, 112]⟩ = decide (txt ts p = ⟨#[115, 116, 111, 112]⟩) := is_ok tk _ (Or.inl (by decide)) (by decide)
  have i_return : isP ts (sOk p N d) ⟨#[114, 101, 116, 117, 114, 110]⟩ = decide (txt ts p = ⟨#[114, 101, 116, 117, 114, 110]⟩) := is_ok tk _ (Or.inl (by decide)) (by decide)
  unfold statementF statementI
  rw [hkd, hpo, i_k, i_s, i_if, i_while, i_for, i_read, i_print, i_assert, i_stop, i_return]
  simp only [sees_ok, decide_eq_true_eq, Bool.or_eq_true]
  by_cases hk : knd ts p = 1
  · rw [if_pos hk, if_pos hk]
    exact G.sim .named p N d v hk (by simp only [rk]; omega)
  rw [if_neg hk, if_neg hk]
  by_cases hb : (txt ts p = ⟨#[105, 102]⟩ ∨ txt ts p = ⟨#[119, 104, 105, 108, 101]⟩) ∨ txt ts p = ⟨#[102, 111, 114]⟩
  · have hs : ¬ txt ts p = ⟨#[42]⟩ := by rcases hb with (h | h) | h <;> (rw [h]; decide)
    rw [if_pos hb, if_neg hs]
    obtain ⟨r, q, g1, g2, g3⟩ := G.sim .branch p N d v (by rcases hb with (h | h) | h; exact Or.inl h; exact Or.inr (Or.inl h); exact Or.inr (Or.inr h)) (by simp only [rk]; omega)
    simp only [ruleI, sees_ok, decide_eq_true_eq] at g2
    refine ⟨r, q, g1, ?_, g3⟩
    by_cases h1 : txt ts p = ⟨#[105, 102]⟩
    · rw [if_pos h1] at g2 ⊢; exact g2
    · rw [if_neg h1] at g2 ⊢
      by_cases h2 : txt ts p = ⟨#[119, 104, 105, 108, 101]⟩
      · rw [if_pos h2] at g2 ⊢; rw [hpo] at g2; exact g2
      · rw [if_neg h2] at g2 ⊢
        rw [if_pos (by rcases hb with (h | h) | h; exact absurd h h1; exact absurd h h2; exact h)]
        exact g2
  rw [if_neg hb]
  have n1 : ¬ txt ts p = ⟨#[105, 102]⟩ := fun h => hb (Or.inl (Or.inl h))
  have n2 : ¬ txt ts p = ⟨#[119, 104, 105, 108, 101]⟩ := fun h => hb (Or.inl (Or.inr h))
  have n3 : ¬ txt ts p = ⟨#[102, 111, 114]⟩ := fun h => hb (Or.inr h)
  by_cases hs : txt ts p = ⟨#[42]⟩
  · have hl := txt_lt (by decide) hs
    rw [if_pos hs, if_pos hs, up_ok, upT_ok (by omega), putI, hpo, at_ok]
    rcases name_cases (fin := fin) (v.up hl) with ⟨_, e1, e2, _, e4, e5, hl2, v2⟩ | ⟨_, e1, e2⟩
    · rw [e1, e2, e4, e5]
      rcases must_step (fin := fin) tk v2 ⟨#[61]⟩ (Or.inr (by decide)) (by decide) with ⟨c1, c2, c3, v3, _⟩ | ⟨s1, t1, c1, c2, hc, hc', ec, ea⟩
      · rw [c1, c2]
        exact end_sim tk G v3 (by omega) (by omega) 215 ⟨11, loc ts fin p, 0, txt ts (p + 1)⟩ (by decide) (by decide)
      · rw [c1, c2]
        obtain ⟨x1, s2, f1, f2, f3⟩ := G.mlev hc
        obtain ⟨x2, t2, f4, f5, f6⟩ := lastTerm_ib (ts := ts) (fin := fin) G.ib (by omega) hc'
        have hc1 : s2.c ≠ 0 := by rw [f2]; exact hc
        simp only [f1, f4]
        exact fin_bad (s1 := s2) (t1 := t2) (MB.node _ hc1 (by rw [mustP_bad hc1]) (by rw [mustP_bad hc1])) (IB.mk rfl rfl) hc1 (by rw [f2, f5, ec]) (by rw [f3, f6, ea])
    · have hx : (⟨p + 1, N, d, 6, loc ts fin (p + 1)⟩ : S).c ≠ 0 := by simp
      have hb' : (nmT ts fin (tOk (p + 1) d)).c ≠ 0 := by rw [nmT, e2]; simp [upT]
      rw [e1, mustP_bad hx]
      obtain ⟨x1, s2, f1, f2, f3⟩ := G.mlev hx
      obtain ⟨x2, t2, f4, f5, f6⟩ := lastTerm_ib (ts := ts) (fin := fin) (t := upT (mustT ts fin (nmT ts fin (tOk (p + 1) d)) ⟨#[61]⟩)) G.ib (by omega) (by rw [upm_c hb']; exact hb')
      rw [upm_c hb'] at f5
      rw [upm_a hb'] at f6
      have hc1 : s2.c ≠ 0 := by rw [f2]; exact hx
      simp only [f1, f4]
      exact fin_bad (s1 := s2) (t1 := t2) (MB.node _ hc1 (by rw [mustP_bad hc1]) (by rw [mustP_bad hc1])) (IB.mk rfl rfl) hc1 (by rw [f2, f5, nmT, e2]; rfl) (by rw [f3, f6, nmT, e2]; rfl)
  rw [if_neg hs, if_neg hs, if_neg n1, if_neg n2, if_neg n3]
  by_cases h4 : txt ts p = ⟨#[114, 101, 97, 100]⟩
  · have hl := txt_lt (by decide) h4
    rw [if_pos h4, if_pos h4, up_ok, upT_ok (by omega), at_ok]
    rcases name_cases (fin := fin) (v.up hl) with ⟨_, e1, e2, _, e4, e5, hl2, v2⟩ | ⟨_, e1, e2⟩
    · rw [e1, e2, e4, e5]
      rcases must_step (fin := fin) tk v2 ⟨#[59]⟩ (Or.inr (by decide)) (by decide) with ⟨c1, c2, c3, v3, _⟩ | ⟨s1, t1, c1, c2, hc, hc', ec, ea⟩
      · rw [c1, c2, node_ok _ v3.big]
        exact ⟨_, _, rfl, rfl, res_leaf 216 ⟨17, loc ts fin (p + 1), 0, txt ts (p + 1)⟩ (p + 1 + 1 + 1) (by omega) c3 (by decide) (by decide)⟩
      · rw [c1, c2]
        exact fin_bad (MB.node _ hc rfl rfl) (IB.mk rfl rfl) hc ec ea
    · have hx : (⟨p + 1, N, d, 6, loc ts fin (p + 1)⟩ : S).c ≠ 0 := by simp
      have hb' : (nmT ts fin (tOk (p + 1) d)).c ≠ 0 := by rw [nmT, e2]; simp [upT]
      rw [e1, mustP_bad hx]
      exact fin_bad (s1 := ⟨p + 1, N, d, 6, loc ts fin (p + 1)⟩) (t1 := nmT ts fin (tOk (p + 1) d)) (MB.node _ hx rfl rfl) (IB.mk (upm_c hb') (upm_a hb')) hx (by rw [nmT, e2]; rfl) (by rw [nmT, e2]; rfl)
  rw [if_neg h4, if_neg h4]
  by_cases h5 : txt ts p = ⟨#[112, 114, 105, 110, 116]⟩
  · have hl := txt_lt (by decide) h5
    rw [if_pos h5, if_pos h5, up_ok, upT_ok (by omega), at_ok, endI]
    exact end_sim tk G (v.up hl) (by omega) (by omega) 217 ⟨18, loc ts fin p, 0, ⟨#[]⟩⟩ (by decide) (by decide)
  rw [if_neg h5, if_neg h5]
  by_cases h9 : txt ts p = ⟨#[97, 115, 115, 101, 114, 116]⟩
  · have hl := txt_lt (by decide) h9
    rw [if_pos h9, if_pos h9, up_ok, upT_ok (by omega), at_ok, assertI]
    rcases G.same .cond .cond (fun _ => rfl) (v.up hl) trivial (by simp only [rk]; omega) with ⟨p1, pc, g1, g2, a1, a2, a3, a4, a5, v2⟩ | ⟨x, s1, pc, t1, g1, g2, hc, hc', ec, ea⟩
    · simp only [g1, g2]
      rcases must_step (fin := fin) tk v2 ⟨#[59]⟩ (Or.inr (by decide)) (by decide) with ⟨c1, c2, c3, v3, _⟩ | ⟨s1, t1, c1, c2, hc, hc', ec, ea⟩
      · rw [c1, c2, node_ok _ v3.big]
        refine ⟨_, _, rfl, rfl, Or.inl ⟨p1 + 1, _, by omega, c3, ?_, ?_, ?_, rfl⟩⟩
        · simp only [fine, fineL, a3, List.length_cons, List.length_nil]; decide
        · rw [post_one _ _ _ _ (by decide)]; simp only [List.length_append, List.length_cons, List.length_nil]; omega
        · rw [post_one _ _ _ _ (by decide)]; simp
      · rw [c1, c2]
        exact fin_bad (MB.node _ hc rfl rfl) (IB.mk rfl rfl) hc ec ea
    · simp only [g1, g2]
      exact fin_bad (MB.node _ hc (by rw [mustP_bad hc]) (by rw [mustP_bad hc])) (IB.mk (upm_c hc') (upm_a hc')) hc ec ea
  rw [if_neg h9, if_neg h9]
  by_cases h10 : txt ts p = ⟨#[115, 116, 111, 112]⟩
  · have hl := txt_lt (by decide) h10
    rw [if_pos h10, if_pos h10, up_ok, upT_ok (by omega), at_ok]
    rcases must_step (fin := fin) tk (v.up hl) ⟨#[59]⟩ (Or.inr (by decide)) (by decide) with ⟨c1, c2, c3, v3, _⟩ | ⟨s1, t1, c1, c2, hc, hc', ec, ea⟩
    · rw [c1, c2, node_ok _ v3.big]
      exact ⟨_, _, rfl, rfl, res_leaf 219 ⟨20, loc ts fin p, 0, ⟨#[]⟩⟩ (p + 1 + 1) (by omega) c3 (by decide) (by decide)⟩
    · rw [c1, c2]
      exact fin_bad (MB.node _ hc rfl rfl) (IB.mk rfl rfl) hc ec ea
  rw [if_neg h10, if_neg h10]
  by_cases h11 : txt ts p = ⟨#[114, 101, 116, 117, 114, 110]⟩
  · have hl := txt_lt (by decide) h11
    rw [if_pos h11, if_pos h11, up_ok, upT_ok (by omega), at_ok, endI]
    exact end_sim tk G (v.up hl) (by omega) (by omega) 220 ⟨21, loc ts fin p, 0, ⟨#[]⟩⟩ (by decide) (by decide)
  · rw [if_neg h11, if_neg h11, fail_ok, failT_ok]
    have hx : (⟨p, N, d, 6, loc ts fin p⟩ : S).c ≠ 0 := by simp
    rw [mustP_bad hx]
    exact fin_bad (s1 := ⟨p, N, d, 6, loc ts fin p⟩) (MB.node _ hx rfl rfl) (IB.mk rfl rfl) hx rfl rfl
end
end
theorem all_sim {ts : List Tok} {fin : Int} (tk : ∀ t ∈ ts, TK t) : ∀ n f f', n + 20 ≤ f → 2 * n + 20 ≤ f' → Gd ts fin n (run ts fin f) (runI ts fin f') := by
  intro n
  induction n with
  | zero =>
    intro f f' hf hf'
    exact ⟨run_bad ts fin 13 f (by omega), runI_bad ts fin 12 f' (by omega) (by omega), fun c p N d v hp hm => by omega⟩
  | succ n ih =>
    intro f f' hf hf'
    obtain ⟨g, rfl⟩ : ∃ g, f = g + 1 := ⟨f - 1, by omega⟩
    obtain ⟨h, rfl⟩ : ∃ h, f' = h + 1 + 1 := ⟨f' - 2, by omega⟩
    have G1 := ih g (h + 1) (by omega) (by omega)
    have G2 := ih g h (by omega) (by omega)
    have G3 := ih g (h + 1 + 1) (by omega) (by omega)
    refine ⟨run_bad ts fin 13 _ (by omega), runI_bad ts fin 12 _ (by omega) (by omega), ?_⟩
    intro c p N d v hp hm
    cases c with
    | primary => exact primary_sim tk G1 G2 (fun a t => rfl) v (by simp only [rk] at hm; omega)
    | unary => exact unary_sim tk G1 v (by simp only [rk] at hm; omega)
    | level k =>
      simp only [rk] at hm
      simp only [pre] at hp
      by_cases h7 : k = 7
      · subst h7
        have z := G3.sim .unary p N d v trivial (by simp only [rk]; omega)
        simp only [ruleI, if_true] at z ⊢
        exact z
      · have z := level_sim tk G1 k ⟨hp.1, by omega⟩ v (by omega)
        simp only [ruleI, if_neg h7]
        exact z
    | last => exact last_sim tk G1 v (by simp only [rk] at hm; omega)
    | both => exact both_sim tk G1 v (by omega)
    | cond => exact cond_sim tk G1 v (by omega)
    | statement => exact statement_sim tk G1 v (by simp only [rk] at hm; omega)
    | block => exact block_sim tk G3 v (by simp only [rk] at hm; omega)
    | named => exact named_sim tk G3 v hp (by simp only [rk] at hm; omega)
    | branch =>
      simp only [rk] at hm
      simp only [pre] at hp
      simp only [ruleI, sees_ok, decide_eq_true_eq]
      by_cases h1 : txt ts p = ⟨#[105, 102]⟩
      · rw [if_pos h1]; exact if_sim tk G3 v h1 (by omega)
      · rw [if_neg h1]
        by_cases h2 : txt ts p = ⟨#[119, 104, 105, 108, 101]⟩
        · rw [if_pos h2]; exact while_sim tk G3 v h2 (by omega)
        · rw [if_neg h2]; exact for_sim tk G3 v (by rcases hp with h | h | h; exact absurd h h1; exact absurd h h2; exact h) (by omega)
    | function => exact function_sim tk G3 v (by simp only [rk] at hm; omega)
section
section
variable {ts : List Tok} {fin : Int} {p : Nat} {N : List Nd} {d : Int} {R : Rec} {R' : RecI} {n : Nat}
/-- A number that must come. -/
theorem num_cases (v : V ts p N d) :
    (numberP ts fin (sOk p N d) = sOk (p + 1) N d ∧ numberT ts (sOk p N d) = nbr ts p ∧ mustK ts fin (tOk p d) 2 = tOk p d ∧ upT (mustK ts fin (tOk p d) 2) = tOk (p + 1) d ∧ p + 1 ≤ ts.length ∧ V ts (p + 1) N d) ∨
    (numberP ts fin (sOk p N d) = ⟨p, N, d, 6, loc ts fin p⟩ ∧ mustK ts fin (tOk p d) 2 = ⟨p, d, 6, loc ts fin p⟩) := by
  by_cases e : knd ts p = 2
  · have hl := knd_lt (ts := ts) (p := p) (by omega)
    have h7 := v.len
    have hk : mustK ts fin (tOk p d) 2 = tOk p d := by rw [mustK, tok_ok]; simp [e]
    refine Or.inl ⟨?_, ?_, hk, ?_, hl, ⟨hl, v.len, v.d0, v.d1, by have := v.N; omega⟩⟩
    · rw [numberP, kind_ok _ (by omega)]; simp [e, up_ok]
    · rw [numberT, kind_ok _ (by omega)]; simp [e, num_ok]
    · rw [hk]; exact upT_ok (by omega)
  · refine Or.inr ⟨?_, ?_⟩
    · rw [numberP, kind_ok _ (by omega)]; simp only [e, decide_false, Bool.false_eq_true, if_false]; exact fail_ok 6
    · rw [mustK, tok_ok]; simp only [e, if_false]; exact failT_ok 6
theorem upmust_bad {t : T} (X : ByteArray) (hc : t.c ≠ 0) : (upT (mustT ts fin t X)).c = t.c ∧ (upT (mustT ts fin t X)).a = t.a := by rw [mustT_bad hc]; exact ⟨rfl, rfl⟩
theorem upmustK_bad {t : T} (k : Int) (hc : t.c ≠ 0) : (upT (mustK ts fin t k)).c = t.c ∧ (upT (mustK ts fin t k)).a = t.a := by rw [mustK_bad hc]; exact ⟨rfl, rfl⟩
theorem array_bad3 {t : T} (hc : t.c ≠ 0) : (upT (mustT ts fin (upT (mustT ts fin t ⟨#[93]⟩)) ⟨#[59]⟩)).c = t.c ∧ (upT (mustT ts fin (upT (mustT ts fin t ⟨#[93]⟩)) ⟨#[59]⟩)).a = t.a := by
  obtain ⟨a1, a2⟩ := upmust_bad (ts := ts) (fin := fin) ⟨#[93]⟩ hc
  obtain ⟨b1, b2⟩ := upmust_bad (ts := ts) (fin := fin) (t := upT (mustT ts fin t ⟨#[93]⟩)) ⟨#[59]⟩ (by rw [a1]; exact hc)
  exact ⟨b1.trans a1, b2.trans a2⟩
theorem array_bad2 {t : T} (hc : t.c ≠ 0) : (upT (mustT ts fin (upT (mustT ts fin (upT (mustK ts fin t 2)) ⟨#[93]⟩)) ⟨#[59]⟩)).c = t.c ∧ (upT (mustT ts fin (upT (mustT ts fin (upT (mustK ts fin t 2)) ⟨#[93]⟩)) ⟨#[59]⟩)).a = t.a := by
  obtain ⟨a1, a2⟩ := upmustK_bad (ts := ts) (fin := fin) 2 hc
  obtain ⟨b1, b2⟩ := array_bad3 (ts := ts) (fin := fin) (t := upT (mustK ts fin t 2)) (by rw [a1]; exact hc)
  exact ⟨b1.trans a1, b2.trans a2⟩
theorem array_sim (tk : ∀ t ∈ ts, TK t) (v : V ts p N d) :
    ∃ r, nodeP (mustP ts fin (mustP ts fin (numberP ts fin (mustP ts fin (nameP ts fin (sOk p N d)) ⟨#[91]⟩)) ⟨#[93]⟩) ⟨#[59]⟩) ⟨2, atP ts fin (sOk p N d), numberT ts (mustP ts fin (nameP ts fin (sOk p N d)) ⟨#[91]⟩), nameT ts (sOk p N d), []⟩ = some r ∧
      Res ts p N d r (arrayI ts fin (tOk p d)) := by
  have h7 := v.len
  unfold arrayI
  rcases name_cases (fin := fin) v with ⟨_, e1, e2, e3, e4, e5, hl, v1⟩ | ⟨_, e1, e2⟩
  · rw [e1, e2, e4, e5]
    rcases must_step (fin := fin) tk v1 ⟨#[91]⟩ (Or.inr (by decide)) (by decide) with ⟨k1, k2, k3, v2, _⟩ | ⟨s1, t1, k1, k2, hc, hc', ec, ea⟩
    · rw [k1, k2]
      rcases num_cases (fin := fin) v2 with ⟨f1, f2, f3, f4, f5, v3⟩ | ⟨f1, f2⟩
      · rw [f1, f2, f4, f3, tok_ok]
        rcases must_step (fin := fin) tk v3 ⟨#[93]⟩ (Or.inr (by decide)) (by decide) with ⟨g1, g2, g3, v4, _⟩ | ⟨s1, t1, g1, g2, hc, hc', ec, ea⟩
        · rw [g1, g2]
          rcases must_step (fin := fin) tk v4 ⟨#[59]⟩ (Or.inr (by decide)) (by decide) with ⟨j1, j2, j3, v5, _⟩ | ⟨s1, t1, j1, j2, hc, hc', ec, ea⟩
          · rw [j1, j2, node_ok _ v5.big, at_ok]
            exact ⟨_, rfl, res_leaf 130 ⟨2, loc ts fin p, nbr ts (p + 1 + 1), txt ts p⟩ _ (by omega) j3 (by decide) (by decide)⟩
          · rw [j1, j2, nodeP_bad hc]
            exact ⟨_, rfl, Or.inr ⟨hc, ec, ea⟩⟩
        · rw [g1, g2, mustP_bad hc, nodeP_bad hc]
          obtain ⟨b1, b2⟩ := upmust_bad (ts := ts) (fin := fin) (t := t1) ⟨#[59]⟩ hc'
          exact ⟨_, rfl, Or.inr ⟨hc, b1.trans ec, b2.trans ea⟩⟩
      · have hb : (⟨p + 1 + 1, N, d, 6, loc ts fin (p + 1 + 1)⟩ : S).c ≠ 0 := by simp
        have hb' : (⟨((p + 1 + 1 : Nat) : Int), d, 6, loc ts fin (p + 1 + 1)⟩ : T).c ≠ 0 := by simp
        rw [f1, f2, mustP_bad hb, mustP_bad hb, nodeP_bad hb]
        obtain ⟨b1, b2⟩ := array_bad3 (ts := ts) (fin := fin) (t := upT ⟨((p + 1 + 1 : Nat) : Int), d, 6, loc ts fin (p + 1 + 1)⟩) hb'
        exact ⟨_, rfl, Or.inr ⟨hb, b1, b2⟩⟩
    · rw [k1, k2, numberP_bad hc, mustP_bad hc, mustP_bad hc, nodeP_bad hc]
      obtain ⟨b1, b2⟩ := array_bad2 (ts := ts) (fin := fin) hc'
      exact ⟨_, rfl, Or.inr ⟨hc, b1.trans ec, b2.trans ea⟩⟩
  · have hb : (⟨p, N, d, 6, loc ts fin p⟩ : S).c ≠ 0 := by simp
    have hb' : (nmT ts fin (tOk p d)).c = 6 ∧ (nmT ts fin (tOk p d)).a = loc ts fin p := by rw [nmT, e2]; exact ⟨rfl, rfl⟩
    obtain ⟨a1, a2⟩ := upmust_bad (ts := ts) (fin := fin) (t := nmT ts fin (tOk p d)) ⟨#[91]⟩ (by rw [hb'.1]; decide)
    obtain ⟨b1, b2⟩ := array_bad2 (ts := ts) (fin := fin) (t := upT (mustT ts fin (nmT ts fin (tOk p d)) ⟨#[91]⟩)) (by rw [a1, hb'.1]; decide)
    rw [e1, mustP_bad hb, numberP_bad hb, mustP_bad hb, mustP_bad hb, nodeP_bad hb]
    exact ⟨_, rfl, Or.inr ⟨hb, b1.trans (a1.trans hb'.1), b2.trans (a2.trans hb'.2)⟩⟩
theorem var_sim (tk : ∀ t ∈ ts, TK t) (v : V ts p N d) :
    ∃ r, nodeP (mustP ts fin (nameP ts fin (sOk p N d)) ⟨#[59]⟩) ⟨3, atP ts fin (sOk p N d), 0, nameT ts (sOk p N d), []⟩ = some r ∧
      Res ts p N d r (.node 132 (nmH ts fin 3 (tOk p d)) [], upT (mustT ts fin (nmT ts fin (tOk p d)) ⟨#[59]⟩)) := by
  have h7 := v.len
  rcases name_cases (fin := fin) v with ⟨_, e1, e2, e3, e4, e5, hl, v1⟩ | ⟨_, e1, e2⟩
  · rw [e1, e2, e4, e5]
    rcases must_step (fin := fin) tk v1 ⟨#[59]⟩ (Or.inr (by decide)) (by decide) with ⟨k1, k2, k3, v2, _⟩ | ⟨s1, t1, k1, k2, hc, hc', ec, ea⟩
    · rw [k1, k2, node_ok _ v2.big, at_ok]
      exact ⟨_, rfl, res_leaf 132 ⟨3, loc ts fin p, 0, txt ts p⟩ _ (by omega) k3 (by decide) (by decide)⟩
    · rw [k1, k2, nodeP_bad hc]
      exact ⟨_, rfl, Or.inr ⟨hc, ec, ea⟩⟩
  · have hb : (⟨p, N, d, 6, loc ts fin p⟩ : S).c ≠ 0 := by simp
    have hb' : (nmT ts fin (tOk p d)).c = 6 ∧ (nmT ts fin (tOk p d)).a = loc ts fin p := by rw [nmT, e2]; exact ⟨rfl, rfl⟩
    obtain ⟨a1, a2⟩ := upmust_bad (ts := ts) (fin := fin) (t := nmT ts fin (tOk p d)) ⟨#[59]⟩ (by rw [hb'.1]; decide)
    rw [e1, mustP_bad hb, nodeP_bad hb]
    exact ⟨_, rfl, Or.inr ⟨hb, a1.trans hb'.1, a2.trans hb'.2⟩⟩
theorem Res.up {r : Nat × S} {q : P × T} (h : Res ts (p + 1) N d r q) : Res ts p N d r q := by
  rcases h with ⟨p', pc, a1, a2, a3, a4, a5, a6⟩ | h
  · exact Or.inl ⟨p', pc, by omega, a2, a3, by omega, a5, a6⟩
  · exact Or.inr h
theorem decl_sim (tk : ∀ t ∈ ts, TK t) (G : Gd ts fin n R R') (v : V ts p N d) (hm : (ts.length - p) * 16 + 1 < n) :
    ∃ r q, declS ts fin R (sOk p N d) = some r ∧ declarationI ts fin R' (tOk p d) = some q ∧ Res ts p N d r q := by
  have h7 := v.len
  have i1 : isP ts (sOk p N d) ⟨#[97, 114, 114, 97, 121]⟩ = decide (txt ts p = ⟨#[97, 114, 114, 97, 121]⟩) := is_ok tk _ (Or.inl (by decide)) (by decide)
  have i2 : isP ts (sOk p N d) ⟨#[118, 97, 114]⟩ = decide (txt ts p = ⟨#[118, 97, 114]⟩) := is_ok tk _ (Or.inl (by decide)) (by decide)
  unfold declS declarationI
  rw [i1, i2, sees_ok, sees_ok, sees_ok]
  simp only [decide_eq_true_eq]
  by_cases h1 : txt ts p = ⟨#[97, 114, 114, 97, 121]⟩
  · have hl := txt_lt (by decide) h1
    rw [if_pos h1, if_pos h1, up_ok, upT_ok (by omega)]
    obtain ⟨r, hr, hR⟩ := array_sim (fin := fin) tk (v.up hl)
    exact ⟨r, _, hr, rfl, hR.up⟩
  · rw [if_neg h1, if_neg h1]
    by_cases h2 : txt ts p = ⟨#[118, 97, 114]⟩
    · have hl := txt_lt (by decide) h2
      rw [if_pos h2, if_pos h2, up_ok, upT_ok (by omega)]
      obtain ⟨r, hr, hR⟩ := var_sim (fin := fin) tk (v.up hl)
      exact ⟨r, _, hr, rfl, hR.up⟩
    · rw [if_neg h2, if_neg h2]
      rcases must_cases (fin := fin) tk v ⟨#[102, 117, 110, 99]⟩ (Or.inl (by decide)) (by decide) with ⟨e, f1, f2, f3, hl, v1⟩ | ⟨f1, f2⟩
      · rw [if_pos e, f1, upT_ok (by omega)]
        obtain ⟨r, q, hr, hq, hR⟩ := G.sim .function (p + 1) N d v1 trivial (by simp only [rk]; omega)
        exact ⟨r, q, hr, hq, hR.up⟩
      · have hn : ¬ txt ts p = ⟨#[102, 117, 110, 99]⟩ := by
          intro e
          rw [mustT, sees_ok, e] at f2
          simp at f2
        rw [if_neg hn, f1, failT_ok]
        exact fin_bad (G.mb .function _ (by simp [rk]) (by simp)) (IB.mk rfl rfl) (by simp) rfl rfl
/-- Declarations up to the end. -/
theorem prog_sim (tk : ∀ t ∈ ts, TK t) (G : Gd ts fin n R R') (h7 : ts.length ≤ 700) (hm : ts.length * 16 + 1 < n) : ∀ m p1 ps, LS ts 0 [] ps p1 → ts.length - p1 < m →
    (∃ rs, progL ts fin R m (postL 0 ps).2 (sOk p1 (postL 0 ps).1 0) = some ((postL 0 rs).2, sOk ts.length (postL 0 rs).1 0) ∧
      progLI ts fin R' m ps (tOk p1 0) = some (rs, tOk ts.length 0) ∧ LS ts 0 [] rs ts.length) ∨
    (∃ l s1 rs t1, progL ts fin R m (postL 0 ps).2 (sOk p1 (postL 0 ps).1 0) = some (l, s1) ∧ progLI ts fin R' m ps (tOk p1 0) = some (rs, t1) ∧ s1.c ≠ 0 ∧ t1.c ≠ 0 ∧ t1.c = s1.c ∧ t1.a = s1.a) := by
  intro m
  have v : V ts 0 [] 0 := ⟨Nat.zero_le _, h7, by omega, by omega, by simp⟩
  induction m with
  | zero => intro p1 ps _ h; omega
  | succ m ih =>
    intro p1 ps L hm1
    have v1 : V ts p1 (postL 0 ps).1 0 := by simpa using L.V v
    have hle := L.len
    unfold progL progLI
    rw [tok_ok]
    simp only [knd_zero tk]
    by_cases h0 : ts.length ≤ p1
    · rw [if_neg (by simp; omega), if_pos h0]
      obtain rfl : p1 = ts.length := by omega
      exact Or.inl ⟨ps, rfl, rfl, L⟩
    · rw [if_pos (by simp; omega), if_neg h0]
      obtain ⟨r, q, hr, hq, hR⟩ := decl_sim tk G v1 (by omega)
      rw [hr, hq]
      rcases hR with ⟨p2, pc, a1, a2, a3, a4, rfl, rfl⟩ | ⟨hc, ec, ea⟩
      · have L2 : LS ts 0 [] (ps ++ [pc]) p2 := L.snoc a3 (by omega) a2 (by simpa using a4)
        have z1 := snocN [] ps pc
        have z2 := snocK [] ps pc
        simp only [List.nil_append, List.length_nil] at z1 z2
        simp only []
        rw [z1, z2]
        exact ih p2 _ L2 (by omega)
      · obtain ⟨x, s1⟩ := r
        obtain ⟨y, t1⟩ := q
        have hc' : t1.c ≠ 0 := by rw [ec]; exact hc
        simp only []
        have e1 : progL ts fin R m ((postL 0 ps).2 ++ [x]) s1 = some ((postL 0 ps).2 ++ [x], s1) := by
          cases m with
          | zero => omega
          | succ m => unfold progL; rw [if_neg (fun h => hc h.1)]
        rw [e1, progLI_bad (by omega) hc']
        exact Or.inr ⟨_, _, _, _, rfl, rfl, hc, hc', ec, ea⟩
end
end
/-- The first byte of a part of a text. -/
theorem ext_list (s : ByteArray) (k e : Nat) : (s.extract k e).data.toList = (s.data.toList.drop k).take (e - k) := by
  rw [ByteArray.data_extract, Array.toList_extract]
theorem ext_head (s : ByteArray) (k e : Nat) (hk : k < s.size) (he : k < e) : ∃ r, (s.extract k e).data.toList = (s.data.toList.getD k 0) :: r := by
  rw [ext_list]
  have hl : k < s.data.toList.length := by simpa using hk
  rw [List.drop_eq_getElem_cons hl]
  obtain ⟨m, hm⟩ : ∃ m, e - k = m + 1 := ⟨e - k - 1, by omega⟩
  rw [hm, List.take_succ_cons]
  exact ⟨_, by rw [List.getD_eq_getElem?_getD, List.getElem?_eq_getElem hl]; rfl⟩
def okHead : List UInt8 → Bool
  | [] => false
  | c :: _ => !isLet (c.toNat : Int) && !isDig (c.toNat : Int)
theorem heads_sign : signs.all okHead = true := by decide
def letHead : List UInt8 → Bool
  | [] => false
  | c :: _ => isLet (c.toNat : Int)
theorem heads_word : words.all letHead = true := by decide
theorem sign_noword : signs.all (fun g => !isWord g) = true := by decide
theorem sign_in (l : List UInt8) (h : signOf l ≠ []) : signOf l ∈ signs := by
  unfold signOf signFrom at h ⊢
  cases e : (signs.drop 0).find? (fun g => Lib.hasPrefix l g) with
  | none => rw [e] at h; exact absurd rfl h
  | some g =>
    rw [Option.getD_some]
    have := List.mem_of_find?_eq_some e
    simpa using this
theorem tok_tk (s : ByteArray) (k : Nat) (hk : k < s.size) (hc : tokCode s k = 0) : TK (tokAt s k) := by
  have hend := lt_tokEnd s k hk hc
  unfold tokEnd at hend
  unfold tokAt
  by_cases h1 : isLet (gb s k) = true
  · rw [if_pos h1] at hend ⊢
    obtain ⟨r, hr⟩ := ext_head s k (runEnd s k) hk hend
    unfold nameTok
    refine ⟨fun h => ?_, fun h => ?_, ?_, fun h => ?_⟩
    · simp only [] at h ⊢; rw [if_pos h]
    · exfalso
      have := List.all_eq_true.1 heads_sign _ (List.contains_iff_mem.1 h)
      simp only [hr, okHead] at this
      have e : isLet (((s.data.toList.getD k 0).toNat : Int)) = true := h1
      rw [e] at this
      simp at this
    · simp only []; split <;> omega
    · have e : (s.extract k (runEnd s k)).data.toList = [] := by simp only [] at h; rw [h]
      rw [hr] at e
      cases e
  · rw [if_neg h1] at hend ⊢
    by_cases h2 : isDig (gb s k) = true
    · rw [if_pos h2] at hend ⊢
      obtain ⟨r, hr⟩ := ext_head s k (digEnd s k) hk hend
      unfold numTok
      refine ⟨fun h => ?_, fun h => ?_, by simp, fun h => ?_⟩
      · exfalso
        have := List.all_eq_true.1 heads_word _ (List.contains_iff_mem.1 h)
        simp only [hr, letHead] at this
        exact h1 this
      · exfalso
        have := List.all_eq_true.1 heads_sign _ (List.contains_iff_mem.1 h)
        simp only [hr, okHead] at this
        have e : isDig (((s.data.toList.getD k 0).toNat : Int)) = true := h2
        rw [e] at this
        simp at this
      · have e : (s.extract k (digEnd s k)).data.toList = [] := by simp only [] at h; rw [h]
        rw [hr] at e
        cases e
    · rw [if_neg h2] at hend ⊢
      unfold sgnTok
      have hs := signAt_in s k hk
      have hne : signOf (s.data.toList.drop k) ≠ [] := by
        intro e
        rw [hs, e] at hend
        simp [ByteArray.size] at hend
      have hm := sign_in _ hne
      refine ⟨fun h => ?_, fun _ => rfl, by simp, fun h => ?_⟩
      · exfalso
        have := List.all_eq_true.1 sign_noword _ hm
        simp only [hs] at h
        rw [h] at this
        simp at this
      · simp only [hs] at h
        injection h with h
        exact hne (by simpa using h)
theorem lexFrom_tk (s : ByteArray) : ∀ (n k : Nat) (acc : List Tok), s.size - k ≤ n → (∀ t ∈ acc, TK t) → ∀ t ∈ (lexFrom s k acc).1, TK t := by
  intro n
  induction n with
  | zero =>
    intro k acc hn ha
    have := le_skip s k
    rw [lexFrom_end s k acc (by omega)]
    exact ha
  | succ n ih =>
    intro k acc hn ha
    have hk0 := le_skip s k
    by_cases hlt : skip s k < s.size
    · by_cases hC : tokCode s (skip s k) = 0
      · by_cases hm : 700 ≤ acc.length
        · rw [lexFrom_many s k acc hlt hC hm]; intro t ht; cases ht
        · rw [lexFrom_go s k acc hlt hC hm]
          have := lt_tokEnd s _ hlt hC
          refine ih _ _ (by omega) (fun t ht => ?_)
          rcases List.mem_append.1 ht with h | h
          · exact ha t h
          · rw [List.mem_singleton.1 h]; exact tok_tk s _ hlt hC
      · rw [lexFrom_bad s k acc hlt hC]; intro t ht; cases ht
    · rw [lexFrom_end s k acc hlt]; exact ha
theorem lexAll_tk (s : ByteArray) : ∀ t ∈ (lexAll s).1, TK t := by
  unfold lexAll
  split
  · intro t ht; cases ht
  · exact lexFrom_tk s _ 0 [] (Nat.le_refl _) (fun t ht => by cases ht)
/-- The nodes of a program. -/
def listing (ps : List P) : List Nd := (postL 0 ps).1 ++ [⟨1, 0, 0, ⟨#[]⟩, (postL 0 ps).2⟩]
/-- What the program reads, and what the model tells of it. -/
theorem tree_sim (t : ByteArray) (h0 : (lexAll t).2.1 = 0) (hlen : (lexAll t).1.length ≤ 700) :
    ∃ ps s', progI (lexAll t).1 t.size (runI (lexAll t).1 t.size 30000) ⟨0, 0, 0, 0⟩ = some (ps, s') ∧
      ((s'.c = 0 ∧ fineL ps = true ∧ (postL 0 ps).1.length ≤ 1400 ∧ treeS t = some (listing ps, 0, 0)) ∨ (s'.c ≠ 0 ∧ treeS t = some ([], s'.c, s'.a))) := by
  have tk := lexAll_tk t
  have G := all_sim (fin := (t.size : Int)) tk 11214 20000 30000 (by omega) (by omega)
  unfold treeS progF progI
  rw [if_pos h0]
  generalize (lexAll t).1 = ts at *
  have hz := prog_sim tk G hlen (by omega) 1000 0 [] (LS.nil (Nat.zero_le _)) (by omega)
  simp only [postL] at hz
  rcases hz with ⟨rs, b1, b2, L⟩ | ⟨l, s1, rs, t1, b1, b2, hc, hc', ec, ea⟩
  · refine ⟨rs, tOk ts.length 0, b2, Or.inl ⟨rfl, L.ok, by have := L.cnt; simp at this; omega, ?_⟩⟩
    rw [show (⟨0, [], 0, 0, 0⟩ : S) = sOk 0 [] 0 from rfl, b1]
    simp only []
    rw [node_ok _ (by have := L.cnt; simp at this; omega)]
    simp [listing]
  · refine ⟨rs, t1, b2, Or.inr ⟨hc', ?_⟩⟩
    rw [show (⟨0, [], 0, 0, 0⟩ : S) = sOk 0 [] 0 from rfl, b1]
    simp only []
    rw [nodeP_bad hc]
    simp only []
    rw [if_neg hc, ec, ea]
end Go.Proofs.YtjikjejfobnfnaaGreatDoor.imp
