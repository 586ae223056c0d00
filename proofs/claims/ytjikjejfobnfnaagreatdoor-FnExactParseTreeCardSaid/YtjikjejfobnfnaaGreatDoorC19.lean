/-
  The program's terms, as plain functions; a variable, a primary, a unary.
  The program's primary and unary.
  The program's primary.
-/
import Derived.Test.YtjikjejfobnfnaaGreatDoorC17
import Derived.Test.YtjikjejfobnfnaaGreatDoorC18
namespace Go.Proofs.YtjikjejfobnfnaaGreatDoor.imp
open Go.RowKit Go.Proofs.YtjikjejfobnfnaaGreatDoor.num Go.Proofs.YtjikjejfobnfnaaGreatDoor.lex Go.Proofs.YtjikjejfobnfnaaGreatDoor.par
set_option linter.unusedVariables false
section
/-- The rules that call one another. -/
inductive Cm where
  | primary | unary | level (n : Nat) | var (t : Tok) | last | both | cond | statement | block
abbrev RecI := Cm → T → Option (P × T)
def variableI (ts : List Tok) (fin : Int) (R : RecI) (t : Tok) (s : T) : Option (P × T) :=
  if seesT ts fin s ⟨#[91]⟩ then
    match R (.level 1) (deeperT ts fin (upT s)) with
    | none => none
    | some (p, s1) => some (.node 202 ⟨26, t.pos, 0, t.text⟩ [p], lessT (upT (mustT ts fin s1 ⟨#[93]⟩)))
  else some (.node 201 ⟨25, t.pos, 0, t.text⟩ [], s)
def primaryI (ts : List Tok) (fin : Int) (R : RecI) (s : T) : Option (P × T) :=
  if (tokT ts fin s).kind = 2 then some (.node 200 ⟨24, (tokT ts fin s).pos, (tokT ts fin s).num, ⟨#[]⟩⟩ [], upT s)
  else if (tokT ts fin s).kind = 1 then R (.var (tokT ts fin s)) (upT s)
  else if seesT ts fin s ⟨#[42]⟩ then some (.node 203 ⟨27, (tokT ts fin s).pos, 0, (tokT ts fin (mustK ts fin (upT s) 1)).text⟩ [], upT (mustK ts fin (upT s) 1))
  else if seesT ts fin s ⟨#[40]⟩ then
    match R (.level 1) (deeperT ts fin (upT s)) with
    | none => none
    | some (p, s1) => some (p, lessT (upT (mustT ts fin s1 ⟨#[41]⟩)))
  else some (.nil, failT ts fin s 6)
def unaryI (ts : List Tok) (fin : Int) (R : RecI) (s : T) : Option (P × T) :=
  if seesT ts fin s ⟨#[45]⟩ then
    match R .unary (deeperT ts fin (upT s)) with
    | none => none
    | some (p, s1) => some (.node 164 ⟨28, (tokT ts fin s).pos, 2, ⟨#[]⟩⟩ [p], lessT s1)
  else R .primary s
def nextI (R : RecI) (n : Nat) (s : T) : Option (P × T) := if n = 6 then R .unary s else R (.level (n + 1)) s
def levelLI (ts : List Tok) (fin : Int) (R : RecI) (n : Nat) : Nat → P → T → Option (P × T)
  | 0, _, _ => none
  | f + 1, p, s =>
    if opP (tokT ts fin s).text n = 0 then some (p, s)
    else
      match nextI R n (upT s) with
      | none => none
      | some (q, s1) => levelLI ts fin R n f (.node 169 ⟨28, (tokT ts fin s).pos, opP (tokT ts fin s).text n, ⟨#[]⟩⟩ [p, q]) s1
def levelI (ts : List Tok) (fin : Int) (R : RecI) (n : Nat) (s : T) : Option (P × T) :=
  match nextI R n s with
  | none => none
  | some (p, s1) => levelLI ts fin R n 1000 p s1
/-- What the rules that call one another must do. -/
structure GoodI (x : Cx) (R : RecI) : Prop where
  primary : ∀ {Q L s w p s'}, PT x Q L s w → R .primary s = some (p, s') → Calls Tryz.prog 99 #[.pointer (some ⟨x.B, 0, none⟩)] w fun e w' => ∃ v, e = .returned v ∧ PT x ((v, p) :: Q) L s' w'
  unary : ∀ {Q L s w p s'}, PT x Q L s w → R .unary s = some (p, s') → Calls Tryz.prog 58 #[.pointer (some ⟨x.B, 0, none⟩)] w fun e w' => ∃ v, e = .returned v ∧ PT x ((v, p) :: Q) L s' w'
  level : ∀ {k Q L s w p s'}, k ≤ 5 → PT x Q L s w → R (.level (6 - k)) s = some (p, s') → Calls Tryz.prog 59 #[.agg #[.pointer (some ⟨x.B, 0, none⟩), .int .i64 (6 - k : Int), lvl x.B k]] w fun e w' => ∃ v, e = .returned v ∧ PT x ((v, p) :: Q) L s' w'
  term : ∀ {Q L s w p s'}, PT x Q L s w → R (.level 1) s = some (p, s') → Calls Tryz.prog 136 #[.pointer (some ⟨x.B, 0, none⟩)] w fun e w' => ∃ v, e = .returned v ∧ PT x ((v, p) :: Q) L s' w'
  var : ∀ {Q L s w p s' t}, PT x Q L s w → R (.var t) s = some (p, s') → Calls Tryz.prog 134 #[.pointer (some ⟨x.B, 0, none⟩), t.val] w fun e w' => ∃ v, e = .returned v ∧ PT x ((v, p) :: Q) L s' w'
section
variable {x : Cx} {Q : List (Value × P)} {L : List (Nat × Obj)} {s s' : T} {w w' : World} {R : RecI} {p : P}
theorem PT.push {v : Value} {p : P} (h : PT x Q L s w) (hp : IsPart x L w v p) : PT x ((v, p) :: Q) L s w :=
  ⟨h.le, h.blk, fun u q hm => by rcases List.mem_cons.1 hm with e | hm; (· cases e; exact hp); (· exact h.q u q hm), h.keep, h.nd, h.bel⟩
theorem PT.top {v : Value} {p : P} (h : PT x ((v, p) :: Q) L s w) : IsPart x L w v p := h.q v p (by simp)
/-- A piece's value is a cell of its own. -/
def Shp (v : Value) : Prop := v = .nilIface ∨ ∃ ty u, v = .iface ty u
theorem IsPart.shp {v : Value} {p : P} (h : IsPart x L w v p) : Shp v := by
  cases h
  · exact .inl rfl
  all_goals exact .inr ⟨_, _, rfl⟩
theorem bld1 {v : Value} (hv : Shp v) (a b c d : Value) (w : World) : (Instr.build 162 #[(0, .agg #[a, b, c, d]), (1, v)]).run Tryz.prog w = .ok (.agg #[a, b, c, d, v]) w := by
  rcases hv with rfl | ⟨ty, u, rfl⟩ <;> kernel_rfl
theorem bld2 {v u : Value} (hv : Shp v) (hu : Shp u) (a b c d : Value) (w : World) : (Instr.build 167 #[(0, .agg #[a, b, c, d]), (1, v), (2, u)]).run Tryz.prog w = .ok (.agg #[a, b, c, d, v, u]) w := by
  rcases hv with rfl | ⟨ty, v, rfl⟩ <;> rcases hu with rfl | ⟨ty, u, rfl⟩ <;> kernel_rfl
set_option maxHeartbeats 1000000 in
set_option maxRecDepth 100000 in
theorem variable_walk (ok : x.Ok) (G : GoodI x R) (t : Tok) (h : PT x Q L s w) (hr : variableI x.ts x.fin R t s = some (p, s')) : Calls Tryz.prog 134 #[.pointer (some ⟨x.B, 0, none⟩), t.val] w fun e w' => ∃ v, e = .returned v ∧ PT x ((v, p) :: Q) L s' w' := by
  obtain ⟨tk, tp, tx, tn⟩ := t
  have hsz := h.size
  have hH := fun (k : Int) (w : World) (Q : List (Value × P)) {s : T} {L : List (Nat × Obj)} (h : PT x Q L s w) => headOf_any k ⟨tk, tp, tx, tn⟩ h
  simp only [Tok.val, Hd.val] at hH ⊢
  have h := h.hold (.cells #[.int .i64 tk, .int .i64 tp, .string tx, .int .i64 tn] 93)
  unfold variableI at hr
  split at hr
  · split at hr
    · cases hr
    · cases hr
      go_enter Tryz.func134, Tryz.ntmps134
      go_wp2_with (first | (go_at_call 104; refine (accept_yes ok _ (by decide) (by first | exact h | exact h.drewN _ | exact h.alloc _ | exact h.less | exact (h.alloc _).drewN _ | exact (h.less).alloc _) (by assumption)).mono ?_; rintro e w' ⟨rfl, h⟩; have c3 := h.c3; have f3 := h.fz 3; have hsz := h.size; obtain ⟨r0, r1, r2, r3, z0, z1, z2, z3⟩ := h.four) | (go_at_call 104; refine (accept_no ok _ (by first | exact h | exact h.drewN _ | exact h.alloc _ | exact h.less | exact (h.alloc _).drewN _ | exact (h.less).alloc _) (by first | assumption | exact eq_false_of_ne_true (by assumption))).mono ?_; rintro e w' ⟨rfl, h⟩; have c3 := h.c3; have f3 := h.fz 3; have hsz := h.size; obtain ⟨r0, r1, r2, r3, z0, z1, z2, z3⟩ := h.four) | (go_at_call 101; refine (deeper_any ok (by first | exact h | exact h.drewN _ | exact h.alloc _ | exact h.less | exact (h.alloc _).drewN _ | exact (h.less).alloc _)).mono ?_; rintro e w' ⟨rfl, h⟩; have c3 := h.c3; have f3 := h.fz 3; have hsz := h.size; obtain ⟨r0, r1, r2, r3, z0, z1, z2, z3⟩ := h.four) | (go_at_call 136; refine (G.term (by first | exact h | exact h.drewN _ | exact h.alloc _ | exact h.less | exact (h.alloc _).drewN _ | exact (h.less).alloc _) (by assumption)).mono ?_; rintro e w' ⟨v, rfl, h⟩; have c3 := h.c3; have f3 := h.fz 3; have hsz := h.size; obtain ⟨r0, r1, r2, r3, z0, z1, z2, z3⟩ := h.four; rcases h.top.shp with rfl | ⟨ty, u, rfl⟩) | (go_at_call 107; refine (must_any ok _ (by decide) (by first | exact h | exact h.drewN _ | exact h.alloc _ | exact h.less | exact (h.alloc _).drewN _ | exact (h.less).alloc _)).mono ?_; rintro e w' ⟨rfl, h⟩; have c3 := h.c3; have f3 := h.fz 3; have hsz := h.size; obtain ⟨r0, r1, r2, r3, z0, z1, z2, z3⟩ := h.four) | (go_at_call 138; refine (hH _ _ _ (by first | exact h | exact h.drewN _ | exact h.alloc _ | exact h.less | exact (h.alloc _).drewN _ | exact (h.less).alloc _)).mono ?_; rintro e w' ⟨rfl, h⟩; have c3 := h.c3; have f3 := h.fz 3; have hsz := h.size; obtain ⟨r0, r1, r2, r3, z0, z1, z2, z3⟩ := h.four))
      all_goals go_ret
      all_goals exact ⟨_, rfl, h.drop.lose.push (.one 202 ⟨26, tp, 0, tx⟩ h.drop.top)⟩
  · cases hr
    go_enter Tryz.func134, Tryz.ntmps134
    go_wp2_with (first | (go_at_call 104; refine (accept_yes ok _ (by decide) (by first | exact h | exact h.drewN _ | exact h.alloc _ | exact h.less | exact (h.alloc _).drewN _ | exact (h.less).alloc _) (by assumption)).mono ?_; rintro e w' ⟨rfl, h⟩; have c3 := h.c3; have f3 := h.fz 3; have hsz := h.size; obtain ⟨r0, r1, r2, r3, z0, z1, z2, z3⟩ := h.four) | (go_at_call 104; refine (accept_no ok _ (by first | exact h | exact h.drewN _ | exact h.alloc _ | exact h.less | exact (h.alloc _).drewN _ | exact (h.less).alloc _) (by first | assumption | exact eq_false_of_ne_true (by assumption))).mono ?_; rintro e w' ⟨rfl, h⟩; have c3 := h.c3; have f3 := h.fz 3; have hsz := h.size; obtain ⟨r0, r1, r2, r3, z0, z1, z2, z3⟩ := h.four) | (go_at_call 138; refine (hH _ _ _ (by first | exact h | exact h.drewN _ | exact h.alloc _ | exact h.less | exact (h.alloc _).drewN _ | exact (h.less).alloc _)).mono ?_; rintro e w' ⟨rfl, h⟩; have c3 := h.c3; have f3 := h.fz 3; have hsz := h.size; obtain ⟨r0, r1, r2, r3, z0, z1, z2, z3⟩ := h.four))
    go_ret
    exact ⟨_, rfl, h.drop.push (.leaf 201 ⟨25, tp, 0, tx⟩)⟩
end
end
section
section
variable {x : Cx} {Q : List (Value × P)} {L : List (Nat × Obj)} {s s' : T} {w w' : World} {R : RecI} {p : P}
set_option maxHeartbeats 2000000 in
set_option maxRecDepth 100000 in
theorem unary_walk (ok : x.Ok) (G : GoodI x R) (h : PT x Q L s w) (hr : unaryI x.ts x.fin R s = some (p, s')) : Calls Tryz.prog 58 #[.pointer (some ⟨x.B, 0, none⟩)] w fun e w' => ∃ v, e = .returned v ∧ PT x ((v, p) :: Q) L s' w' := by
  have hsz := h.size
  have g1 := fTok1
  unfold unaryI at hr
  split at hr
  · rename_i hi
    have hlt := sees_lt (X := ⟨#[45]⟩) (by decide) (fun hc => (h.le hc).1) hi
    have hP := fun (w : World) (Q : List (Value × P)) (L : List (Nat × Obj)) (h : PT x Q L s w) => pass_any ok h (fun _ => hlt.2)
    split at hr
    · cases hr
    · cases hr
      generalize tokT x.ts x.fin s = t at *
      obtain ⟨tk, tp, tx, tn⟩ := t
      simp only [Tok.val] at hP
      go_enter Tryz.func58, Tryz.ntmps58
      go_wp2_with (first | (go_at_call 98; refine (sees_yes ok _ (by first | exact h | exact h.drewN _ | exact h.hold _ | exact h.alloc _ | exact h.less | exact (h.alloc _).drewN _ | exact (h.less).alloc _) (by assumption)).mono ?_; rintro e w' ⟨rfl, h⟩; have c3 := h.c3; have f3 := h.fz 3; have hsz := h.size; (try (obtain ⟨r0, r1, r2, r3, z0, z1, z2, z3⟩ := h.four; have hs4 := (Array.getElem?_eq_some_iff.1 h.head).1))) | (go_at_call 98; refine (sees_no ok _ (by first | exact h | exact h.drewN _ | exact h.hold _ | exact h.alloc _ | exact h.less | exact (h.alloc _).drewN _ | exact (h.less).alloc _) (by first | assumption | exact eq_false_of_ne_true (by assumption))).mono ?_; rintro e w' ⟨rfl, h⟩; have c3 := h.c3; have f3 := h.fz 3; have hsz := h.size; (try (obtain ⟨r0, r1, r2, r3, z0, z1, z2, z3⟩ := h.four; have hs4 := (Array.getElem?_eq_some_iff.1 h.head).1))) | (go_at_call 100; refine (hP _ _ _ (by first | exact h | exact h.drewN _ | exact h.hold _ | exact h.alloc _ | exact h.less | exact (h.alloc _).drewN _ | exact (h.less).alloc _)).mono ?_; rintro e w' ⟨rfl, h⟩; have c3 := h.c3; have f3 := h.fz 3; have hsz := h.size; (try (obtain ⟨r0, r1, r2, r3, z0, z1, z2, z3⟩ := h.four; have hs4 := (Array.getElem?_eq_some_iff.1 h.head).1))) | (go_at_call 101; refine (deeper_any ok (by first | exact h | exact h.drewN _ | exact h.hold _ | exact h.alloc _ | exact h.less | exact (h.alloc _).drewN _ | exact (h.less).alloc _)).mono ?_; rintro e w' ⟨rfl, h⟩; have c3 := h.c3; have f3 := h.fz 3; have hsz := h.size; (try (obtain ⟨r0, r1, r2, r3, z0, z1, z2, z3⟩ := h.four; have hs4 := (Array.getElem?_eq_some_iff.1 h.head).1))) | (go_at_call 58; refine (G.unary (by first | exact h | exact h.drewN _ | exact h.hold _ | exact h.alloc _ | exact h.less | exact (h.alloc _).drewN _ | exact (h.less).alloc _) (by assumption)).mono ?_; rintro e w' ⟨v, rfl, h⟩; have c3 := h.c3; have f3 := h.fz 3; have hsz := h.size; (try (obtain ⟨r0, r1, r2, r3, z0, z1, z2, z3⟩ := h.four; have hs4 := (Array.getElem?_eq_some_iff.1 h.head).1)); rcases h.top.shp with rfl | ⟨ty, u, rfl⟩))
      all_goals go_ret
      all_goals exact ⟨_, rfl, (h.less).drop.lose.push (.one 164 ⟨28, tp, 2, ⟨#[]⟩⟩ (h.less).drop.top)⟩
  · go_enter Tryz.func58, Tryz.ntmps58
    go_wp2_with (first | (go_at_call 98; refine (sees_yes ok _ (by first | exact h | exact h.drewN _ | exact h.hold _ | exact h.alloc _ | exact h.less | exact (h.alloc _).drewN _ | exact (h.less).alloc _) (by assumption)).mono ?_; rintro e w' ⟨rfl, h⟩; have c3 := h.c3; have f3 := h.fz 3; have hsz := h.size) | (go_at_call 98; refine (sees_no ok _ (by first | exact h | exact h.drewN _ | exact h.hold _ | exact h.alloc _ | exact h.less | exact (h.alloc _).drewN _ | exact (h.less).alloc _) (by first | assumption | exact eq_false_of_ne_true (by assumption))).mono ?_; rintro e w' ⟨rfl, h⟩; have c3 := h.c3; have f3 := h.fz 3; have hsz := h.size) | (go_at_call 99; refine (G.primary (by first | exact h | exact h.drewN _ | exact h.hold _ | exact h.alloc _ | exact h.less | exact (h.alloc _).drewN _ | exact (h.less).alloc _) (by assumption)).mono ?_; rintro e w' ⟨v, rfl, h⟩; have c3 := h.c3; have f3 := h.fz 3; have hsz := h.size; rcases h.top.shp with rfl | ⟨ty, u, rfl⟩))
    all_goals go_ret
    all_goals exact ⟨_, rfl, h⟩
end
end
section
section
variable {x : Cx} {Q : List (Value × P)} {L : List (Nat × Obj)} {s s' : T} {w w' : World} {R : RecI} {p : P}
set_option maxHeartbeats 4000000 in
set_option maxRecDepth 100000 in
theorem primary_walk (ok : x.Ok) (G : GoodI x R) (h : PT x Q L s w) (hr : primaryI x.ts x.fin R s = some (p, s')) : Calls Tryz.prog 99 #[.pointer (some ⟨x.B, 0, none⟩)] w fun e w' => ∃ v, e = .returned v ∧ PT x ((v, p) :: Q) L s' w' := by
  have hsz := h.size
  have g0 := fTok0
  have g1 := fTok1
  have hT := fun (w : World) (Q : List (Value × P)) (L : List (Nat × Obj)) (h : PT x Q L s w) => token_any ok h
  unfold primaryI at hr
  split at hr
  · rename_i hk
    cases hr
    have hlt := tok_at (s := s) (ts := x.ts) (fin := x.fin) (.inl (by rw [hk]; decide)) (fun hc => (h.le hc).1)
    have hP := fun (w : World) (Q : List (Value × P)) (L : List (Nat × Obj)) (h : PT x Q L s w) => pass_any ok h (fun _ => hlt.2)
    generalize tokT x.ts x.fin s = t at *
    obtain ⟨tk, tp, tx, tn⟩ := t
    simp only at hk
    subst hk
    simp only [Tok.val] at hP hT
    go_enter Tryz.func99, Tryz.ntmps99
    go_wp2_with (first | (go_at_call 60; refine (hT _ _ _ (by first | exact h | exact h.drewN _ | exact h.hold _ | exact (h.hold _).drew | exact (h.hold _).drewN _ | exact h.drew | exact h.alloc _ | exact h.less | exact (h.alloc _).drewN _ | exact (h.less).alloc _)).mono ?_; rintro e w' ⟨rfl, h⟩; have c3 := h.c3; have f3 := h.fz 3; have hsz := h.size; (try (obtain ⟨r0, r1, r2, r3, z0, z1, z2, z3⟩ := h.four; have hs4 := (Array.getElem?_eq_some_iff.1 h.head).1))))
    go_region_with (first | (go_at_call 100; refine (hP _ _ _ (by first | exact h | exact h.drewN _ | exact h.hold _ | exact (h.hold _).drew | exact (h.hold _).drewN _ | exact h.drew | exact h.alloc _ | exact h.less | exact (h.alloc _).drewN _ | exact (h.less).alloc _)).mono ?_; rintro e w' ⟨rfl, h⟩; have c3 := h.c3; have f3 := h.fz 3; have hsz := h.size; (try (obtain ⟨r0, r1, r2, r3, z0, z1, z2, z3⟩ := h.four; have hs4 := (Array.getElem?_eq_some_iff.1 h.head).1))) | fail)
    all_goals go_wp2
    all_goals go_ret
    all_goals exact ⟨_, rfl, h.drop.push (.leaf 200 ⟨24, tp, tn, ⟨#[]⟩⟩)⟩
  · rename_i hk2
    split at hr
    · rename_i hk
      have hlt := tok_at (s := s) (ts := x.ts) (fin := x.fin) (.inl (by rw [hk]; decide)) (fun hc => (h.le hc).1)
      have hP := fun (w : World) (Q : List (Value × P)) (L : List (Nat × Obj)) (h : PT x Q L s w) => pass_any ok h (fun _ => hlt.2)
      have hV := fun (w : World) (Q : List (Value × P)) (L : List (Nat × Obj)) (h : PT x Q L (upT s) w) (hr : R (.var (tokT x.ts x.fin s)) (upT s) = some (p, s')) => G.var h hr
      generalize tokT x.ts x.fin s = t at *
      obtain ⟨tk, tp, tx, tn⟩ := t
      simp only at hk
      subst hk
      simp only [Tok.val] at hP hT hV
      go_enter Tryz.func99, Tryz.ntmps99
      go_wp2_with (first | (go_at_call 60; refine (hT _ _ _ (by first | exact h | exact h.drewN _ | exact h.hold _ | exact (h.hold _).drew | exact (h.hold _).drewN _ | exact h.drew | exact h.alloc _ | exact h.less | exact (h.alloc _).drewN _ | exact (h.less).alloc _)).mono ?_; rintro e w' ⟨rfl, h⟩; have c3 := h.c3; have f3 := h.fz 3; have hsz := h.size; (try (obtain ⟨r0, r1, r2, r3, z0, z1, z2, z3⟩ := h.four; have hs4 := (Array.getElem?_eq_some_iff.1 h.head).1))) | (go_at_call 104; refine (accept_yes ok _ (by decide) (by first | exact h | exact h.drewN _ | exact h.hold _ | exact (h.hold _).drew | exact (h.hold _).drewN _ | exact h.drew | exact h.alloc _ | exact h.less | exact (h.alloc _).drewN _ | exact (h.less).alloc _) (by assumption)).mono ?_; rintro e w' ⟨rfl, h⟩; have c3 := h.c3; have f3 := h.fz 3; have hsz := h.size; (try (obtain ⟨r0, r1, r2, r3, z0, z1, z2, z3⟩ := h.four; have hs4 := (Array.getElem?_eq_some_iff.1 h.head).1))) | (go_at_call 104; refine (accept_no ok _ (by first | exact h | exact h.drewN _ | exact h.hold _ | exact (h.hold _).drew | exact (h.hold _).drewN _ | exact h.drew | exact h.alloc _ | exact h.less | exact (h.alloc _).drewN _ | exact (h.less).alloc _) (by first | assumption | exact eq_false_of_ne_true (by assumption))).mono ?_; rintro e w' ⟨rfl, h⟩; have c3 := h.c3; have f3 := h.fz 3; have hsz := h.size; (try (obtain ⟨r0, r1, r2, r3, z0, z1, z2, z3⟩ := h.four; have hs4 := (Array.getElem?_eq_some_iff.1 h.head).1))) | (go_at_call 101; refine (deeper_any ok (by first | exact h | exact h.drewN _ | exact h.hold _ | exact (h.hold _).drew | exact (h.hold _).drewN _ | exact h.drew | exact h.alloc _ | exact h.less | exact (h.alloc _).drewN _ | exact (h.less).alloc _)).mono ?_; rintro e w' ⟨rfl, h⟩; have c3 := h.c3; have f3 := h.fz 3; have hsz := h.size; (try (obtain ⟨r0, r1, r2, r3, z0, z1, z2, z3⟩ := h.four; have hs4 := (Array.getElem?_eq_some_iff.1 h.head).1))) | (go_at_call 136; refine (G.term (by first | exact h | exact h.drewN _ | exact h.hold _ | exact (h.hold _).drew | exact (h.hold _).drewN _ | exact h.drew | exact h.alloc _ | exact h.less | exact (h.alloc _).drewN _ | exact (h.less).alloc _) (by assumption)).mono ?_; rintro e w' ⟨v, rfl, h⟩; have c3 := h.c3; have f3 := h.fz 3; have hsz := h.size; (try (obtain ⟨r0, r1, r2, r3, z0, z1, z2, z3⟩ := h.four; have hs4 := (Array.getElem?_eq_some_iff.1 h.head).1)); rcases h.top.shp with rfl | ⟨ty, u, rfl⟩) | (go_at_call 107; refine (must_any ok _ (by decide) (by first | exact h | exact h.drewN _ | exact h.hold _ | exact (h.hold _).drew | exact (h.hold _).drewN _ | exact h.drew | exact h.alloc _ | exact h.less | exact (h.alloc _).drewN _ | exact (h.less).alloc _)).mono ?_; rintro e w' ⟨rfl, h⟩; have c3 := h.c3; have f3 := h.fz 3; have hsz := h.size; (try (obtain ⟨r0, r1, r2, r3, z0, z1, z2, z3⟩ := h.four; have hs4 := (Array.getElem?_eq_some_iff.1 h.head).1))) | (go_at_call 109; refine (fail_any ok _ (by decide) (by first | exact h | exact h.drewN _ | exact h.hold _ | exact (h.hold _).drew | exact (h.hold _).drewN _ | exact h.drew | exact h.alloc _ | exact h.less | exact (h.alloc _).drewN _ | exact (h.less).alloc _)).mono ?_; rintro e w' ⟨rfl, h⟩; have c3 := h.c3; have f3 := h.fz 3; have hsz := h.size; (try (obtain ⟨r0, r1, r2, r3, z0, z1, z2, z3⟩ := h.four; have hs4 := (Array.getElem?_eq_some_iff.1 h.head).1))) | (go_at_call 100; refine (hP _ _ _ (by first | exact h | exact h.drewN _ | exact h.hold _ | exact (h.hold _).drew | exact (h.hold _).drewN _ | exact h.drew | exact h.alloc _ | exact h.less | exact (h.alloc _).drewN _ | exact (h.less).alloc _)).mono ?_; rintro e w' ⟨rfl, h⟩; have c3 := h.c3; have f3 := h.fz 3; have hsz := h.size; (try (obtain ⟨r0, r1, r2, r3, z0, z1, z2, z3⟩ := h.four; have hs4 := (Array.getElem?_eq_some_iff.1 h.head).1))) | (go_at_call 135; refine (hN _ _ _ (by first | exact h | exact h.drewN _ | exact h.hold _ | exact (h.hold _).drew | exact (h.hold _).drewN _ | exact h.drew | exact h.alloc _ | exact h.less | exact (h.alloc _).drewN _ | exact (h.less).alloc _)).mono ?_; rintro e w' ⟨rfl, h⟩; have c3 := h.c3; have f3 := h.fz 3; have hsz := h.size; (try (obtain ⟨r0, r1, r2, r3, z0, z1, z2, z3⟩ := h.four; have hs4 := (Array.getElem?_eq_some_iff.1 h.head).1))) | (go_at_call 134; refine (hV _ _ _ (by first | exact h | exact h.drewN _ | exact h.hold _ | exact (h.hold _).drew | exact (h.hold _).drewN _ | exact h.drew | exact h.alloc _ | exact h.less | exact (h.alloc _).drewN _ | exact (h.less).alloc _) (by assumption)).mono ?_; rintro e w' ⟨v, rfl, h⟩; have c3 := h.c3; have f3 := h.fz 3; have hsz := h.size; (try (obtain ⟨r0, r1, r2, r3, z0, z1, z2, z3⟩ := h.four; have hs4 := (Array.getElem?_eq_some_iff.1 h.head).1)); rcases h.top.shp with rfl | ⟨ty, u, rfl⟩))
      all_goals go_ret
      all_goals exact ⟨_, rfl, h.drop⟩
    · rename_i hk1
      have e2 : ((tokT x.ts x.fin s).kind == 2) = false := by simpa using hk2
      have e1 : ((tokT x.ts x.fin s).kind == 1) = false := by simpa using hk1
      split at hr
      · rename_i hi
        cases hr
        have hN := fun (w : World) (Q : List (Value × P)) (L : List (Nat × Obj)) (h : PT x Q L (upT s) w) => namedAt_any ok 27 (tokT x.ts x.fin s) h
        generalize tokT x.ts x.fin (mustK x.ts x.fin (upT s) 1) = u at *
        generalize tokT x.ts x.fin s = t at *
        obtain ⟨tk, tp, tx, tn⟩ := t
        obtain ⟨uk, up, ux, un⟩ := u
        simp only [Tok.val, Hd.val] at hT hN e1 e2
        clear hk2 hk1
        go_enter Tryz.func99, Tryz.ntmps99
        go_wp2_with (first | (go_at_call 60; refine (hT _ _ _ (by first | exact h | exact h.drewN _ | exact h.hold _ | exact (h.hold _).drew | exact (h.hold _).drewN _ | exact h.drew | exact h.alloc _ | exact h.less | exact (h.alloc _).drewN _ | exact (h.less).alloc _)).mono ?_; rintro e w' ⟨rfl, h⟩; have c3 := h.c3; have f3 := h.fz 3; have hsz := h.size; (try (obtain ⟨r0, r1, r2, r3, z0, z1, z2, z3⟩ := h.four; have hs4 := (Array.getElem?_eq_some_iff.1 h.head).1))) | (go_at_call 104; refine (accept_yes ok _ (by decide) (by first | exact h | exact h.drewN _ | exact h.hold _ | exact (h.hold _).drew | exact (h.hold _).drewN _ | exact h.drew | exact h.alloc _ | exact h.less | exact (h.alloc _).drewN _ | exact (h.less).alloc _) (by assumption)).mono ?_; rintro e w' ⟨rfl, h⟩; have c3 := h.c3; have f3 := h.fz 3; have hsz := h.size; (try (obtain ⟨r0, r1, r2, r3, z0, z1, z2, z3⟩ := h.four; have hs4 := (Array.getElem?_eq_some_iff.1 h.head).1))) | (go_at_call 104; refine (accept_no ok _ (by first | exact h | exact h.drewN _ | exact h.hold _ | exact (h.hold _).drew | exact (h.hold _).drewN _ | exact h.drew | exact h.alloc _ | exact h.less | exact (h.alloc _).drewN _ | exact (h.less).alloc _) (by first | assumption | exact eq_false_of_ne_true (by assumption))).mono ?_; rintro e w' ⟨rfl, h⟩; have c3 := h.c3; have f3 := h.fz 3; have hsz := h.size; (try (obtain ⟨r0, r1, r2, r3, z0, z1, z2, z3⟩ := h.four; have hs4 := (Array.getElem?_eq_some_iff.1 h.head).1))) | (go_at_call 101; refine (deeper_any ok (by first | exact h | exact h.drewN _ | exact h.hold _ | exact (h.hold _).drew | exact (h.hold _).drewN _ | exact h.drew | exact h.alloc _ | exact h.less | exact (h.alloc _).drewN _ | exact (h.less).alloc _)).mono ?_; rintro e w' ⟨rfl, h⟩; have c3 := h.c3; have f3 := h.fz 3; have hsz := h.size; (try (obtain ⟨r0, r1, r2, r3, z0, z1, z2, z3⟩ := h.four; have hs4 := (Array.getElem?_eq_some_iff.1 h.head).1))) | (go_at_call 136; refine (G.term (by first | exact h | exact h.drewN _ | exact h.hold _ | exact (h.hold _).drew | exact (h.hold _).drewN _ | exact h.drew | exact h.alloc _ | exact h.less | exact (h.alloc _).drewN _ | exact (h.less).alloc _) (by assumption)).mono ?_; rintro e w' ⟨v, rfl, h⟩; have c3 := h.c3; have f3 := h.fz 3; have hsz := h.size; (try (obtain ⟨r0, r1, r2, r3, z0, z1, z2, z3⟩ := h.four; have hs4 := (Array.getElem?_eq_some_iff.1 h.head).1)); rcases h.top.shp with rfl | ⟨ty, u, rfl⟩) | (go_at_call 107; refine (must_any ok _ (by decide) (by first | exact h | exact h.drewN _ | exact h.hold _ | exact (h.hold _).drew | exact (h.hold _).drewN _ | exact h.drew | exact h.alloc _ | exact h.less | exact (h.alloc _).drewN _ | exact (h.less).alloc _)).mono ?_; rintro e w' ⟨rfl, h⟩; have c3 := h.c3; have f3 := h.fz 3; have hsz := h.size; (try (obtain ⟨r0, r1, r2, r3, z0, z1, z2, z3⟩ := h.four; have hs4 := (Array.getElem?_eq_some_iff.1 h.head).1))) | (go_at_call 109; refine (fail_any ok _ (by decide) (by first | exact h | exact h.drewN _ | exact h.hold _ | exact (h.hold _).drew | exact (h.hold _).drewN _ | exact h.drew | exact h.alloc _ | exact h.less | exact (h.alloc _).drewN _ | exact (h.less).alloc _)).mono ?_; rintro e w' ⟨rfl, h⟩; have c3 := h.c3; have f3 := h.fz 3; have hsz := h.size; (try (obtain ⟨r0, r1, r2, r3, z0, z1, z2, z3⟩ := h.four; have hs4 := (Array.getElem?_eq_some_iff.1 h.head).1))) | (go_at_call 100; refine (hP _ _ _ (by first | exact h | exact h.drewN _ | exact h.hold _ | exact (h.hold _).drew | exact (h.hold _).drewN _ | exact h.drew | exact h.alloc _ | exact h.less | exact (h.alloc _).drewN _ | exact (h.less).alloc _)).mono ?_; rintro e w' ⟨rfl, h⟩; have c3 := h.c3; have f3 := h.fz 3; have hsz := h.size; (try (obtain ⟨r0, r1, r2, r3, z0, z1, z2, z3⟩ := h.four; have hs4 := (Array.getElem?_eq_some_iff.1 h.head).1))) | (go_at_call 135; refine (hN _ _ _ (by first | exact h | exact h.drewN _ | exact h.hold _ | exact (h.hold _).drew | exact (h.hold _).drewN _ | exact h.drew | exact h.alloc _ | exact h.less | exact (h.alloc _).drewN _ | exact (h.less).alloc _)).mono ?_; rintro e w' ⟨rfl, h⟩; have c3 := h.c3; have f3 := h.fz 3; have hsz := h.size; (try (obtain ⟨r0, r1, r2, r3, z0, z1, z2, z3⟩ := h.four; have hs4 := (Array.getElem?_eq_some_iff.1 h.head).1))) | (go_at_call 134; refine (hV _ _ _ (by first | exact h | exact h.drewN _ | exact h.hold _ | exact (h.hold _).drew | exact (h.hold _).drewN _ | exact h.drew | exact h.alloc _ | exact h.less | exact (h.alloc _).drewN _ | exact (h.less).alloc _) (by assumption)).mono ?_; rintro e w' ⟨v, rfl, h⟩; have c3 := h.c3; have f3 := h.fz 3; have hsz := h.size; (try (obtain ⟨r0, r1, r2, r3, z0, z1, z2, z3⟩ := h.four; have hs4 := (Array.getElem?_eq_some_iff.1 h.head).1)); rcases h.top.shp with rfl | ⟨ty, u, rfl⟩))
        all_goals go_ret
        all_goals exact ⟨_, rfl, h.drop.push (.leaf 203 ⟨27, tp, 0, ux⟩)⟩
      · split at hr
        · split at hr
          · cases hr
          · cases hr
            generalize tokT x.ts x.fin s = t at *
            obtain ⟨tk, tp, tx, tn⟩ := t
            simp only [Tok.val] at hT e1 e2
            clear hk2 hk1
            go_enter Tryz.func99, Tryz.ntmps99
            go_wp2_with (first | (go_at_call 60; refine (hT _ _ _ (by first | exact h | exact h.drewN _ | exact h.hold _ | exact (h.hold _).drew | exact (h.hold _).drewN _ | exact h.drew | exact h.alloc _ | exact h.less | exact (h.alloc _).drewN _ | exact (h.less).alloc _)).mono ?_; rintro e w' ⟨rfl, h⟩; have c3 := h.c3; have f3 := h.fz 3; have hsz := h.size; (try (obtain ⟨r0, r1, r2, r3, z0, z1, z2, z3⟩ := h.four; have hs4 := (Array.getElem?_eq_some_iff.1 h.head).1))) | (go_at_call 104; refine (accept_yes ok _ (by decide) (by first | exact h | exact h.drewN _ | exact h.hold _ | exact (h.hold _).drew | exact (h.hold _).drewN _ | exact h.drew | exact h.alloc _ | exact h.less | exact (h.alloc _).drewN _ | exact (h.less).alloc _) (by assumption)).mono ?_; rintro e w' ⟨rfl, h⟩; have c3 := h.c3; have f3 := h.fz 3; have hsz := h.size; (try (obtain ⟨r0, r1, r2, r3, z0, z1, z2, z3⟩ := h.four; have hs4 := (Array.getElem?_eq_some_iff.1 h.head).1))) | (go_at_call 104; refine (accept_no ok _ (by first | exact h | exact h.drewN _ | exact h.hold _ | exact (h.hold _).drew | exact (h.hold _).drewN _ | exact h.drew | exact h.alloc _ | exact h.less | exact (h.alloc _).drewN _ | exact (h.less).alloc _) (by first | assumption | exact eq_false_of_ne_true (by assumption))).mono ?_; rintro e w' ⟨rfl, h⟩; have c3 := h.c3; have f3 := h.fz 3; have hsz := h.size; (try (obtain ⟨r0, r1, r2, r3, z0, z1, z2, z3⟩ := h.four; have hs4 := (Array.getElem?_eq_some_iff.1 h.head).1))) | (go_at_call 101; refine (deeper_any ok (by first | exact h | exact h.drewN _ | exact h.hold _ | exact (h.hold _).drew | exact (h.hold _).drewN _ | exact h.drew | exact h.alloc _ | exact h.less | exact (h.alloc _).drewN _ | exact (h.less).alloc _)).mono ?_; rintro e w' ⟨rfl, h⟩; have c3 := h.c3; have f3 := h.fz 3; have hsz := h.size; (try (obtain ⟨r0, r1, r2, r3, z0, z1, z2, z3⟩ := h.four; have hs4 := (Array.getElem?_eq_some_iff.1 h.head).1))) | (go_at_call 136; refine (G.term (by first | exact h | exact h.drewN _ | exact h.hold _ | exact (h.hold _).drew | exact (h.hold _).drewN _ | exact h.drew | exact h.alloc _ | exact h.less | exact (h.alloc _).drewN _ | exact (h.less).alloc _) (by assumption)).mono ?_; rintro e w' ⟨v, rfl, h⟩; have c3 := h.c3; have f3 := h.fz 3; have hsz := h.size; (try (obtain ⟨r0, r1, r2, r3, z0, z1, z2, z3⟩ := h.four; have hs4 := (Array.getElem?_eq_some_iff.1 h.head).1)); rcases h.top.shp with rfl | ⟨ty, u, rfl⟩) | (go_at_call 107; refine (must_any ok _ (by decide) (by first | exact h | exact h.drewN _ | exact h.hold _ | exact (h.hold _).drew | exact (h.hold _).drewN _ | exact h.drew | exact h.alloc _ | exact h.less | exact (h.alloc _).drewN _ | exact (h.less).alloc _)).mono ?_; rintro e w' ⟨rfl, h⟩; have c3 := h.c3; have f3 := h.fz 3; have hsz := h.size; (try (obtain ⟨r0, r1, r2, r3, z0, z1, z2, z3⟩ := h.four; have hs4 := (Array.getElem?_eq_some_iff.1 h.head).1))) | (go_at_call 109; refine (fail_any ok _ (by decide) (by first | exact h | exact h.drewN _ | exact h.hold _ | exact (h.hold _).drew | exact (h.hold _).drewN _ | exact h.drew | exact h.alloc _ | exact h.less | exact (h.alloc _).drewN _ | exact (h.less).alloc _)).mono ?_; rintro e w' ⟨rfl, h⟩; have c3 := h.c3; have f3 := h.fz 3; have hsz := h.size; (try (obtain ⟨r0, r1, r2, r3, z0, z1, z2, z3⟩ := h.four; have hs4 := (Array.getElem?_eq_some_iff.1 h.head).1))) | (go_at_call 100; refine (hP _ _ _ (by first | exact h | exact h.drewN _ | exact h.hold _ | exact (h.hold _).drew | exact (h.hold _).drewN _ | exact h.drew | exact h.alloc _ | exact h.less | exact (h.alloc _).drewN _ | exact (h.less).alloc _)).mono ?_; rintro e w' ⟨rfl, h⟩; have c3 := h.c3; have f3 := h.fz 3; have hsz := h.size; (try (obtain ⟨r0, r1, r2, r3, z0, z1, z2, z3⟩ := h.four; have hs4 := (Array.getElem?_eq_some_iff.1 h.head).1))) | (go_at_call 135; refine (hN _ _ _ (by first | exact h | exact h.drewN _ | exact h.hold _ | exact (h.hold _).drew | exact (h.hold _).drewN _ | exact h.drew | exact h.alloc _ | exact h.less | exact (h.alloc _).drewN _ | exact (h.less).alloc _)).mono ?_; rintro e w' ⟨rfl, h⟩; have c3 := h.c3; have f3 := h.fz 3; have hsz := h.size; (try (obtain ⟨r0, r1, r2, r3, z0, z1, z2, z3⟩ := h.four; have hs4 := (Array.getElem?_eq_some_iff.1 h.head).1))) | (go_at_call 134; refine (hV _ _ _ (by first | exact h | exact h.drewN _ | exact h.hold _ | exact (h.hold _).drew | exact (h.hold _).drewN _ | exact h.drew | exact h.alloc _ | exact h.less | exact (h.alloc _).drewN _ | exact (h.less).alloc _) (by assumption)).mono ?_; rintro e w' ⟨v, rfl, h⟩; have c3 := h.c3; have f3 := h.fz 3; have hsz := h.size; (try (obtain ⟨r0, r1, r2, r3, z0, z1, z2, z3⟩ := h.four; have hs4 := (Array.getElem?_eq_some_iff.1 h.head).1)); rcases h.top.shp with rfl | ⟨ty, u, rfl⟩))
            all_goals go_ret
            all_goals exact ⟨_, rfl, (h.less).drop⟩
        · cases hr
          generalize tokT x.ts x.fin s = t at *
          obtain ⟨tk, tp, tx, tn⟩ := t
          simp only [Tok.val] at hT e1 e2
          clear hk2 hk1
          go_enter Tryz.func99, Tryz.ntmps99
          go_wp2_with (first | (go_at_call 60; refine (hT _ _ _ (by first | exact h | exact h.drewN _ | exact h.hold _ | exact (h.hold _).drew | exact (h.hold _).drewN _ | exact h.drew | exact h.alloc _ | exact h.less | exact (h.alloc _).drewN _ | exact (h.less).alloc _)).mono ?_; rintro e w' ⟨rfl, h⟩; have c3 := h.c3; have f3 := h.fz 3; have hsz := h.size; (try (obtain ⟨r0, r1, r2, r3, z0, z1, z2, z3⟩ := h.four; have hs4 := (Array.getElem?_eq_some_iff.1 h.head).1))) | (go_at_call 104; refine (accept_yes ok _ (by decide) (by first | exact h | exact h.drewN _ | exact h.hold _ | exact (h.hold _).drew | exact (h.hold _).drewN _ | exact h.drew | exact h.alloc _ | exact h.less | exact (h.alloc _).drewN _ | exact (h.less).alloc _) (by assumption)).mono ?_; rintro e w' ⟨rfl, h⟩; have c3 := h.c3; have f3 := h.fz 3; have hsz := h.size; (try (obtain ⟨r0, r1, r2, r3, z0, z1, z2, z3⟩ := h.four; have hs4 := (Array.getElem?_eq_some_iff.1 h.head).1))) | (go_at_call 104; refine (accept_no ok _ (by first | exact h | exact h.drewN _ | exact h.hold _ | exact (h.hold _).drew | exact (h.hold _).drewN _ | exact h.drew | exact h.alloc _ | exact h.less | exact (h.alloc _).drewN _ | exact (h.less).alloc _) (by first | assumption | exact eq_false_of_ne_true (by assumption))).mono ?_; rintro e w' ⟨rfl, h⟩; have c3 := h.c3; have f3 := h.fz 3; have hsz := h.size; (try (obtain ⟨r0, r1, r2, r3, z0, z1, z2, z3⟩ := h.four; have hs4 := (Array.getElem?_eq_some_iff.1 h.head).1))) | (go_at_call 101; refine (deeper_any ok (by first | exact h | exact h.drewN _ | exact h.hold _ | exact (h.hold _).drew | exact (h.hold _).drewN _ | exact h.drew | exact h.alloc _ | exact h.less | exact (h.alloc _).drewN _ | exact (h.less).alloc _)).mono ?_; rintro e w' ⟨rfl, h⟩; have c3 := h.c3; have f3 := h.fz 3; have hsz := h.size; (try (obtain ⟨r0, r1, r2, r3, z0, z1, z2, z3⟩ := h.four; have hs4 := (Array.getElem?_eq_some_iff.1 h.head).1))) | (go_at_call 136; refine (G.term (by first | exact h | exact h.drewN _ | exact h.hold _ | exact (h.hold _).drew | exact (h.hold _).drewN _ | exact h.drew | exact h.alloc _ | exact h.less | exact (h.alloc _).drewN _ | exact (h.less).alloc _) (by assumption)).mono ?_; rintro e w' ⟨v, rfl, h⟩; have c3 := h.c3; have f3 := h.fz 3; have hsz := h.size; (try (obtain ⟨r0, r1, r2, r3, z0, z1, z2, z3⟩ := h.four; have hs4 := (Array.getElem?_eq_some_iff.1 h.head).1)); rcases h.top.shp with rfl | ⟨ty, u, rfl⟩) | (go_at_call 107; refine (must_any ok _ (by decide) (by first | exact h | exact h.drewN _ | exact h.hold _ | exact (h.hold _).drew | exact (h.hold _).drewN _ | exact h.drew | exact h.alloc _ | exact h.less | exact (h.alloc _).drewN _ | exact (h.less).alloc _)).mono ?_; rintro e w' ⟨rfl, h⟩; have c3 := h.c3; have f3 := h.fz 3; have hsz := h.size; (try (obtain ⟨r0, r1, r2, r3, z0, z1, z2, z3⟩ := h.four; have hs4 := (Array.getElem?_eq_some_iff.1 h.head).1))) | (go_at_call 109; refine (fail_any ok _ (by decide) (by first | exact h | exact h.drewN _ | exact h.hold _ | exact (h.hold _).drew | exact (h.hold _).drewN _ | exact h.drew | exact h.alloc _ | exact h.less | exact (h.alloc _).drewN _ | exact (h.less).alloc _)).mono ?_; rintro e w' ⟨rfl, h⟩; have c3 := h.c3; have f3 := h.fz 3; have hsz := h.size; (try (obtain ⟨r0, r1, r2, r3, z0, z1, z2, z3⟩ := h.four; have hs4 := (Array.getElem?_eq_some_iff.1 h.head).1))) | (go_at_call 100; refine (hP _ _ _ (by first | exact h | exact h.drewN _ | exact h.hold _ | exact (h.hold _).drew | exact (h.hold _).drewN _ | exact h.drew | exact h.alloc _ | exact h.less | exact (h.alloc _).drewN _ | exact (h.less).alloc _)).mono ?_; rintro e w' ⟨rfl, h⟩; have c3 := h.c3; have f3 := h.fz 3; have hsz := h.size; (try (obtain ⟨r0, r1, r2, r3, z0, z1, z2, z3⟩ := h.four; have hs4 := (Array.getElem?_eq_some_iff.1 h.head).1))) | (go_at_call 135; refine (hN _ _ _ (by first | exact h | exact h.drewN _ | exact h.hold _ | exact (h.hold _).drew | exact (h.hold _).drewN _ | exact h.drew | exact h.alloc _ | exact h.less | exact (h.alloc _).drewN _ | exact (h.less).alloc _)).mono ?_; rintro e w' ⟨rfl, h⟩; have c3 := h.c3; have f3 := h.fz 3; have hsz := h.size; (try (obtain ⟨r0, r1, r2, r3, z0, z1, z2, z3⟩ := h.four; have hs4 := (Array.getElem?_eq_some_iff.1 h.head).1))) | (go_at_call 134; refine (hV _ _ _ (by first | exact h | exact h.drewN _ | exact h.hold _ | exact (h.hold _).drew | exact (h.hold _).drewN _ | exact h.drew | exact h.alloc _ | exact h.less | exact (h.alloc _).drewN _ | exact (h.less).alloc _) (by assumption)).mono ?_; rintro e w' ⟨v, rfl, h⟩; have c3 := h.c3; have f3 := h.fz 3; have hsz := h.size; (try (obtain ⟨r0, r1, r2, r3, z0, z1, z2, z3⟩ := h.four; have hs4 := (Array.getElem?_eq_some_iff.1 h.head).1)); rcases h.top.shp with rfl | ⟨ty, u, rfl⟩))
          all_goals go_ret
          all_goals exact ⟨_, rfl, h.drop.push .nil⟩
end
end
end Go.Proofs.YtjikjejfobnfnaaGreatDoor.imp
