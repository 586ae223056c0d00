/-
  Declarations of arrays; statements that put, and that take an address.
  Statements that call.
-/
import Derived.Test.YtjikjejfobnfnaaGreatDoorC22
namespace Go.Proofs.YtjikjejfobnfnaaGreatDoor.imp
open Go.RowKit Go.Proofs.YtjikjejfobnfnaaGreatDoor.num Go.Proofs.YtjikjejfobnfnaaGreatDoor.lex Go.Proofs.YtjikjejfobnfnaaGreatDoor.par
set_option linter.unusedVariables false
section
def arrayI (ts : List Tok) (fin : Int) (s : T) : P × T :=
  (.node 130 ⟨2, (nmH ts fin 2 s).pos, (tokT ts fin (mustK ts fin (upT (mustT ts fin (nmT ts fin s) ⟨#[91]⟩)) 2)).num, (nmH ts fin 2 s).name⟩ [],
    upT (mustT ts fin (upT (mustT ts fin (upT (mustK ts fin (upT (mustT ts fin (nmT ts fin s) ⟨#[91]⟩)) 2)) ⟨#[93]⟩)) ⟨#[59]⟩))
def putI (ts : List Tok) (fin : Int) (R : RecI) (t : Tok) (s : T) : Option (P × T) :=
  match lastTermI ts fin R (upT (mustT ts fin (nmT ts fin s) ⟨#[61]⟩)) with
  | none => none
  | some (p, s1) => some (.node 215 ⟨11, t.pos, 0, (nmH ts fin 11 s).name⟩ [p], s1)
def addressI (ts : List Tok) (fin : Int) (R : RecI) (t : Tok) (s : T) : Option (P × T) :=
  match R (.level 1) (upT (mustT ts fin (nmT ts fin s) ⟨#[91]⟩)) with
  | none => none
  | some (p, s1) => some (.node 210 ⟨12, t.pos, 0, t.text⟩ [.node 208 (nmH ts fin 23 s) [], p], upT (mustT ts fin (upT (mustT ts fin s1 ⟨#[93]⟩)) ⟨#[59]⟩))
section
variable {x : Cx} {Q : List (Value × P)} {L : List (Nat × Obj)} {s s' : T} {w w' : World} {R : RecI} {p : P}
theorem named2 (ok : x.Ok) (k : Int) (h : PT x Q L s w) : Calls Tryz.prog 106 #[.pointer (some ⟨x.B, 0, none⟩), .int .i64 k] w fun e w' => e = .returned (.agg #[.int .i64 k, .int .i64 (nmH x.ts x.fin k s).pos, .int .i64 0, .string (nmH x.ts x.fin k s).name]) ∧ PT x Q L (nmT x.ts x.fin s) w' := named_any ok k h
theorem namedAt2 (ok : x.Ok) (k : Int) (t : Tok) (h : PT x Q L s w) : Calls Tryz.prog 135 #[.pointer (some ⟨x.B, 0, none⟩), .int .i64 k, .agg #[.int .i64 t.kind, .int .i64 t.pos, .string t.text, .int .i64 t.num]] w fun e w' => e = .returned (.agg #[.int .i64 k, .int .i64 t.pos, .int .i64 0, .string (nmH x.ts x.fin k s).name]) ∧ PT x Q L (nmT x.ts x.fin s) w' := namedAt_any ok k t h
theorem headOf2 (k : Int) (t : Tok) (h : PT x Q L s w) : Calls Tryz.prog 138 #[.int .i64 k, .agg #[.int .i64 t.kind, .int .i64 t.pos, .string t.text, .int .i64 t.num]] w fun e w' => e = .returned (.agg #[.int .i64 k, .int .i64 t.pos, .int .i64 0, .string t.text]) ∧ PT x Q L s w' := headOf_any k t h
set_option maxHeartbeats 4000000 in
set_option maxRecDepth 100000 in
theorem array_walk (ok : x.Ok) (h : PT x Q L s w) : Calls Tryz.prog 105 #[.pointer (some ⟨x.B, 0, none⟩)] w fun e w' => ∃ v, e = .returned v ∧ PT x ((v, (arrayI x.ts x.fin s).1) :: Q) L (arrayI x.ts x.fin s).2 w' := by
  have hsz := h.size
  have g3 := fTok3
  have hN := fun (w : World) (Q : List (Value × P)) (L : List (Nat × Obj)) (h : PT x Q L s w) => named2 ok 2 h
  have hK := fun (w : World) (Q : List (Value × P)) (L : List (Nat × Obj)) (h : PT x Q L (upT (mustT x.ts x.fin (nmT x.ts x.fin s) ⟨#[91]⟩)) w) => mustKind_any ok 2 (by decide) h
  unfold arrayI
  generalize (nmH x.ts x.fin 2 s).pos = hp at *
  generalize (nmH x.ts x.fin 2 s).name = hm at *
  generalize tokT x.ts x.fin (mustK x.ts x.fin (upT (mustT x.ts x.fin (nmT x.ts x.fin s) ⟨#[91]⟩)) 2) = t at *
  obtain ⟨tk, tp, tx, tn⟩ := t
  simp only [Tok.val] at hK
  go_enter Tryz.func105, Tryz.ntmps105
  go_wp2_with (first | (go_at_call 106; refine (hN _ _ _ (by first | exact h | exact h.drewN _ | exact h.hold _ | exact (h.hold _).drew | exact (h.hold _).drewN _ | exact h.drew | exact h.alloc _ | exact h.less | exact (h.alloc _).drewN _ | exact (h.less).alloc _)).mono ?_; rintro e w' ⟨rfl, h⟩; have hsz := h.size; (try (obtain ⟨r0, r1, r2, r3, z0, z1, z2, z3⟩ := h.four; have hs4 := (Array.getElem?_eq_some_iff.1 h.head).1)); (try (obtain ⟨q0, q1, q2, q3, _, _, _, _⟩ := h.drop.four; have hs5 := (Array.getElem?_eq_some_iff.1 h.drop.head).1))) | (go_at_call 137; refine (hK _ _ _ (by first | exact h | exact h.drewN _ | exact h.hold _ | exact (h.hold _).drew | exact (h.hold _).drewN _ | exact h.drew | exact h.alloc _ | exact h.less | exact (h.alloc _).drewN _ | exact (h.less).alloc _)).mono ?_; rintro e w' ⟨rfl, h⟩; have hsz := h.size; (try (obtain ⟨r0, r1, r2, r3, z0, z1, z2, z3⟩ := h.four; have hs4 := (Array.getElem?_eq_some_iff.1 h.head).1)); (try (obtain ⟨q0, q1, q2, q3, _, _, _, _⟩ := h.drop.four; have hs5 := (Array.getElem?_eq_some_iff.1 h.drop.head).1))) | (go_at_call 107; refine (must_any ok _ (by decide) (by first | exact h | exact h.drewN _ | exact h.hold _ | exact h.turn _ _ | exact (h.hold _).drew | exact (h.hold _).drewN _ | exact h.drew | exact h.alloc _ | exact h.less | exact (h.alloc _).drewN _ | exact (h.less).alloc _)).mono ?_; rintro e w' ⟨rfl, h⟩; have hsz := h.size; (try (obtain ⟨r0, r1, r2, r3, z0, z1, z2, z3⟩ := h.four; have hs4 := (Array.getElem?_eq_some_iff.1 h.head).1)); (try (obtain ⟨q0, q1, q2, q3, _, _, _, _⟩ := h.drop.four; have hs5 := (Array.getElem?_eq_some_iff.1 h.drop.head).1))))
  go_ret
  exact ⟨_, rfl, h.drop.push (.leaf 130 ⟨2, hp, tn, hm⟩)⟩
set_option maxHeartbeats 4000000 in
set_option maxRecDepth 100000 in
theorem put_walk (ok : x.Ok) (G : GoodI x R) (t : Tok) (h : PT x Q L s w) (hr : putI x.ts x.fin R t s = some (p, s')) : Calls Tryz.prog 172 #[.pointer (some ⟨x.B, 0, none⟩), t.val] w fun e w' => ∃ v, e = .returned v ∧ PT x ((v, p) :: Q) L s' w' := by
  have hN := fun (w : World) (Q : List (Value × P)) (L : List (Nat × Obj)) (h : PT x Q L s w) => namedAt2 ok 11 t h
  obtain ⟨tk, tp, tx, tn⟩ := t
  have hsz := h.size
  simp only [Tok.val] at hN ⊢
  have h := h.hold (.cells #[.int .i64 tk, .int .i64 tp, .string tx, .int .i64 tn] 93)
  unfold putI at hr
  split at hr
  · cases hr
  · rename_i q s1 eq
    cases hr
    generalize (nmH x.ts x.fin 11 s).name = hm at *
    cases q
    all_goals go_enter Tryz.func172, Tryz.ntmps172
    all_goals go_wp2_with (first | (go_at_call 135; refine (hN _ _ _ (by first | exact h | exact h.drewN _ | exact h.hold _ | exact (h.hold _).drew | exact (h.hold _).drewN _ | exact h.drew | exact h.alloc _ | exact h.less | exact (h.alloc _).drewN _ | exact (h.less).alloc _)).mono ?_; rintro e w' ⟨rfl, h⟩; have hsz := h.size; (try (obtain ⟨r0, r1, r2, r3, z0, z1, z2, z3⟩ := h.four; have hs4 := (Array.getElem?_eq_some_iff.1 h.head).1)); (try (obtain ⟨q0, q1, q2, q3, _, _, _, _⟩ := h.drop.four; have hs5 := (Array.getElem?_eq_some_iff.1 h.drop.head).1))) | (go_at_call 107; refine (must_any ok _ (by decide) (by first | exact h | exact h.drewN _ | exact h.hold _ | exact h.turn _ _ | exact (h.hold _).drew | exact (h.hold _).drewN _ | exact h.drew | exact h.alloc _ | exact h.less | exact (h.alloc _).drewN _ | exact (h.less).alloc _)).mono ?_; rintro e w' ⟨rfl, h⟩; have hsz := h.size; (try (obtain ⟨r0, r1, r2, r3, z0, z1, z2, z3⟩ := h.four; have hs4 := (Array.getElem?_eq_some_iff.1 h.head).1)); (try (obtain ⟨q0, q1, q2, q3, _, _, _, _⟩ := h.drop.four; have hs5 := (Array.getElem?_eq_some_iff.1 h.drop.head).1))))
    all_goals go_region_with (first | (go_at_call 177; refine (lastTerm_walk ok G (by first | exact h | exact h.drewN _ | exact h.hold _ | exact (h.hold _).drew | exact (h.hold _).drewN _ | exact h.drew | exact h.alloc _ | exact h.less | exact (h.alloc _).drewN _ | exact (h.less).alloc _) eq).mono ?_; rintro e w' ⟨v, rfl, h⟩; obtain rfl := h.top.nil_eq; have hsz := h.size; (try (obtain ⟨r0, r1, r2, r3, z0, z1, z2, z3⟩ := h.four; have hs4 := (Array.getElem?_eq_some_iff.1 h.head).1)); (try (obtain ⟨q0, q1, q2, q3, _, _, _, _⟩ := h.drop.four; have hs5 := (Array.getElem?_eq_some_iff.1 h.drop.head).1))) | (go_at_call 177; refine (lastTerm_walk ok G (by first | exact h | exact h.drewN _ | exact h.hold _ | exact (h.hold _).drew | exact (h.hold _).drewN _ | exact h.drew | exact h.alloc _ | exact h.less | exact (h.alloc _).drewN _ | exact (h.less).alloc _) eq).mono ?_; rintro e w' ⟨v, rfl, h⟩; obtain ⟨u2, rfl⟩ := h.top.node_eq; have hsz := h.size; (try (obtain ⟨r0, r1, r2, r3, z0, z1, z2, z3⟩ := h.four; have hs4 := (Array.getElem?_eq_some_iff.1 h.head).1)); (try (obtain ⟨q0, q1, q2, q3, _, _, _, _⟩ := h.drop.four; have hs5 := (Array.getElem?_eq_some_iff.1 h.drop.head).1))) | fail)
    all_goals go_wp2
    all_goals go_ret
    all_goals exact ⟨_, rfl, h.drop.drop.lose.push (.one 215 ⟨11, tp, 0, hm⟩ h.drop.drop.top)⟩
set_option maxHeartbeats 4000000 in
set_option maxRecDepth 100000 in
theorem address_walk (ok : x.Ok) (G : GoodI x R) (t : Tok) (h : PT x Q L s w) (hr : addressI x.ts x.fin R t s = some (p, s')) : Calls Tryz.prog 188 #[.pointer (some ⟨x.B, 0, none⟩), t.val] w fun e w' => ∃ v, e = .returned v ∧ PT x ((v, p) :: Q) L s' w' := by
  have hN := fun (w : World) (Q : List (Value × P)) (L : List (Nat × Obj)) (h : PT x Q L s w) => named2 ok 23 h
  have hH := fun (w : World) (Q : List (Value × P)) (L : List (Nat × Obj)) (s : T) (h : PT x Q L s w) => headOf2 12 t h
  obtain ⟨tk, tp, tx, tn⟩ := t
  have hsz := h.size
  simp only [Tok.val] at hH ⊢
  have h := h.hold (.cells #[.int .i64 tk, .int .i64 tp, .string tx, .int .i64 tn] 93)
  unfold addressI at hr
  have hU : nmH x.ts x.fin 23 s = ⟨23, (nmH x.ts x.fin 23 s).pos, 0, (nmH x.ts x.fin 23 s).name⟩ := rfl
  rw [hU] at hr
  clear hU
  generalize (nmH x.ts x.fin 23 s).pos = hp at *
  generalize (nmH x.ts x.fin 23 s).name = hm at *
  split at hr
  · cases hr
  · rename_i q s1 eq
    cases hr
    go_enter Tryz.func188, Tryz.ntmps188
    go_wp2_with (first | (go_at_call 106; refine (hN _ _ _ (by first | exact h | exact h.drewN _ | exact h.hold _ | exact (h.hold _).drew | exact (h.hold _).drewN _ | exact h.drew | exact h.alloc _ | exact h.less | exact (h.alloc _).drewN _ | exact (h.less).alloc _)).mono ?_; rintro e w' ⟨rfl, h⟩; have hsz := h.size; (try (obtain ⟨r0, r1, r2, r3, z0, z1, z2, z3⟩ := h.four; have hs4 := (Array.getElem?_eq_some_iff.1 h.head).1)); (try (obtain ⟨q0, q1, q2, q3, _, _, _, _⟩ := h.drop.four; have hs5 := (Array.getElem?_eq_some_iff.1 h.drop.head).1))) | (go_at_call 107; refine (must_any ok _ (by decide) (by first | exact h | exact h.drewN _ | exact h.hold _ | exact h.turn _ _ | exact (h.hold _).drew | exact (h.hold _).drewN _ | exact h.drew | exact h.alloc _ | exact h.less | exact (h.alloc _).drewN _ | exact (h.less).alloc _)).mono ?_; rintro e w' ⟨rfl, h⟩; have hsz := h.size; (try (obtain ⟨r0, r1, r2, r3, z0, z1, z2, z3⟩ := h.four; have hs4 := (Array.getElem?_eq_some_iff.1 h.head).1)); (try (obtain ⟨q0, q1, q2, q3, _, _, _, _⟩ := h.drop.four; have hs5 := (Array.getElem?_eq_some_iff.1 h.drop.head).1))) | (go_at_call 136; refine (G.term (by first | exact h | exact h.drewN _ | exact h.hold _ | exact (h.hold _).drew | exact (h.hold _).drewN _ | exact h.drew | exact h.alloc _ | exact h.less | exact (h.alloc _).drewN _ | exact (h.less).alloc _) (by assumption)).mono ?_; rintro e w' ⟨v, rfl, h⟩; have hsz := h.size; (try (obtain ⟨r0, r1, r2, r3, z0, z1, z2, z3⟩ := h.four; have hs4 := (Array.getElem?_eq_some_iff.1 h.head).1)); (try (obtain ⟨q0, q1, q2, q3, _, _, _, _⟩ := h.drop.four; have hs5 := (Array.getElem?_eq_some_iff.1 h.drop.head).1)); rcases h.top.shp with rfl | ⟨ty, u, rfl⟩))
    all_goals go_region_with (first | (go_at_call 138; refine (hH _ _ _ _ (by first | exact h | exact h.drewN _ | exact h.hold _ | exact (h.hold _).drew | exact (h.hold _).drewN _ | exact h.drew | exact h.alloc _ | exact h.less | exact (h.alloc _).drewN _ | exact (h.less).alloc _)).mono ?_; rintro e w' ⟨rfl, h⟩; have hsz := h.size; (try (obtain ⟨r0, r1, r2, r3, z0, z1, z2, z3⟩ := h.four; have hs4 := (Array.getElem?_eq_some_iff.1 h.head).1)); (try (obtain ⟨q0, q1, q2, q3, _, _, _, _⟩ := h.drop.four; have hs5 := (Array.getElem?_eq_some_iff.1 h.drop.head).1))) | fail)
    all_goals go_wp2
    all_goals go_ret
    all_goals exact ⟨_, rfl, h.drop.drop.lose.push (.addr ⟨12, tp, 0, tx⟩ ⟨23, hp, 0, hm⟩ h.drop.drop.top)⟩
end
end
section
def callTermsI (ts : List Tok) (fin : Int) (R : RecI) (s : T) : Option (List P × T) := if seesT ts fin s ⟨#[41]⟩ then some ([], s) else termsI ts fin R s
def callI (ts : List Tok) (fin : Int) (R : RecI) (t : Tok) (s : T) : Option (P × T) :=
  match callTermsI ts fin R (upT (mustT ts fin (nmT ts fin s) ⟨#[40]⟩)) with
  | none => none
  | some (ps, s1) => some (.node 212 ⟨22, t.pos, 0, t.text⟩ (.node 208 (nmH ts fin 23 s) [] :: ps), upT (mustT ts fin (upT (mustT ts fin s1 ⟨#[41]⟩)) ⟨#[59]⟩))
section
variable {x : Cx} {Q : List (Value × P)} {L : List (Nat × Obj)} {s s' : T} {w w' : World} {R : RecI} {p : P}
theorem PT.nine {b : Nat} {a0 a1 a2 a3 a4 a5 a6 a7 a8 : Value} {t : TypeId} (h : PT x Q ((b, .cells #[a0, a1, a2, a3, a4, a5, a6, a7, a8] t) :: L) s w) :
    w.cell? ⟨b, 0, none⟩ = some a0 ∧ w.cell? ⟨b, 1, none⟩ = some a1 ∧ w.cell? ⟨b, 2, none⟩ = some a2 ∧ w.cell? ⟨b, 3, none⟩ = some a3 ∧ w.cell? ⟨b, 4, none⟩ = some a4 ∧ w.cell? ⟨b, 5, none⟩ = some a5 ∧ w.cell? ⟨b, 6, none⟩ = some a6 ∧ w.cell? ⟨b, 7, none⟩ = some a7 ∧ w.cell? ⟨b, 8, none⟩ = some a8 ∧ w.frozen? ⟨b, 8, none⟩ = false :=
  have k := h.head
  ⟨cell_of k rfl, cell_of k rfl, cell_of k rfl, cell_of k rfl, cell_of k rfl, cell_of k rfl, cell_of k rfl, cell_of k rfl, cell_of k rfl, frozen_of k⟩
theorem PT.put8 {b : Nat} {a0 a1 a2 a3 a4 a5 a6 a7 a8 : Value} {t : TypeId} (h : PT x Q ((b, .cells #[a0, a1, a2, a3, a4, a5, a6, a7, a8] t) :: L) s w) (v : Value) : PT x Q ((b, .cells #[a0, a1, a2, a3, a4, a5, a6, a7, v] t) :: L) s (w.setCell ⟨b, 8, none⟩ v) := by
  have := h.turn 8 v
  simpa using this
theorem IsPart.mkCall {v : Value} {ps : List P} (hd u : Hd) (h : IsPart x L w (rowV v) (rowP ps)) : IsPart x L w (.iface 212 (.agg (hd.cells ++ u.cells ++ [v]).toArray)) (.node 212 hd (.node 208 u [] :: ps)) := by
  obtain ⟨vs, h1, h2⟩ := row_inv h
  exact .call hd u h1 h2
set_option maxHeartbeats 8000000 in
set_option maxRecDepth 100000 in
theorem call_walk (ok : x.Ok) (G : GoodI x R) (t : Tok) (h : PT x Q L s w) (hr : callI x.ts x.fin R t s = some (p, s')) : Calls Tryz.prog 189 #[.pointer (some ⟨x.B, 0, none⟩), t.val] w fun e w' => ∃ v, e = .returned v ∧ PT x ((v, p) :: Q) L s' w' := by
  have hN := fun (w : World) (Q : List (Value × P)) (L : List (Nat × Obj)) (h : PT x Q L s w) => named2 ok 23 h
  have hH := fun (w : World) (Q : List (Value × P)) (L : List (Nat × Obj)) (s : T) (h : PT x Q L s w) => headOf2 22 t h
  obtain ⟨tk, tp, tx, tn⟩ := t
  have hsz := h.size
  simp only [Tok.val] at hH ⊢
  have h := h.hold (.cells #[.int .i64 tk, .int .i64 tp, .string tx, .int .i64 tn] 93)
  unfold callI at hr
  have hU : nmH x.ts x.fin 23 s = ⟨23, (nmH x.ts x.fin 23 s).pos, 0, (nmH x.ts x.fin 23 s).name⟩ := rfl
  rw [hU] at hr
  clear hU
  generalize (nmH x.ts x.fin 23 s).pos = hp at *
  generalize (nmH x.ts x.fin 23 s).name = hm at *
  split at hr
  · cases hr
  · rename_i ps s1 eq
    cases hr
    unfold callTermsI at eq
    split at eq
    · cases eq
      go_enter Tryz.func189, Tryz.ntmps189
      go_wp2_with (first | (go_at_call 138; refine (hH _ _ _ _ (by first | exact h | exact h.drewN _ | exact h.hold _ | exact (h.hold _).drew | exact (h.hold _).drewN _ | exact h.drew | exact h.alloc _ | exact h.less | exact (h.alloc _).drewN _ | exact (h.less).alloc _)).mono ?_; rintro e w' ⟨rfl, h⟩; have hsz := h.size; (try (obtain ⟨r0, r1, r2, r3, z0, z1, z2, z3⟩ := h.four; have hs4 := (Array.getElem?_eq_some_iff.1 h.head).1)); (try (obtain ⟨q0, q1, q2, q3, _, _, _, _⟩ := h.drop.four; have hs5 := (Array.getElem?_eq_some_iff.1 h.drop.head).1)); (try (obtain ⟨n0, n1, n2, n3, n4, n5, n6, n7, n8, n9⟩ := h.nine; have hs4 := (Array.getElem?_eq_some_iff.1 h.head).1))) | (go_at_call 106; refine (hN _ _ _ (by first | exact h | exact h.drewN _ | exact h.hold _ | exact (h.hold _).drew | exact (h.hold _).drewN _ | exact h.drew | exact h.alloc _ | exact h.less | exact (h.alloc _).drewN _ | exact (h.less).alloc _)).mono ?_; rintro e w' ⟨rfl, h⟩; have hsz := h.size; (try (obtain ⟨r0, r1, r2, r3, z0, z1, z2, z3⟩ := h.four; have hs4 := (Array.getElem?_eq_some_iff.1 h.head).1)); (try (obtain ⟨q0, q1, q2, q3, _, _, _, _⟩ := h.drop.four; have hs5 := (Array.getElem?_eq_some_iff.1 h.drop.head).1)); (try (obtain ⟨n0, n1, n2, n3, n4, n5, n6, n7, n8, n9⟩ := h.nine; have hs4 := (Array.getElem?_eq_some_iff.1 h.head).1))) | (go_at_call 107; refine (must_any ok _ (by decide) (by first | exact h | exact h.drewN _ | exact h.hold _ | exact h.put8 _ | exact (h.hold _).drew | exact (h.hold _).drewN _ | exact h.drew | exact h.alloc _ | exact h.less | exact (h.alloc _).drewN _ | exact (h.less).alloc _)).mono ?_; rintro e w' ⟨rfl, h⟩; have hsz := h.size; (try (obtain ⟨r0, r1, r2, r3, z0, z1, z2, z3⟩ := h.four; have hs4 := (Array.getElem?_eq_some_iff.1 h.head).1)); (try (obtain ⟨q0, q1, q2, q3, _, _, _, _⟩ := h.drop.four; have hs5 := (Array.getElem?_eq_some_iff.1 h.drop.head).1)); (try (obtain ⟨n0, n1, n2, n3, n4, n5, n6, n7, n8, n9⟩ := h.nine; have hs4 := (Array.getElem?_eq_some_iff.1 h.head).1))) | (go_at_call 98; refine (sees_yes ok _ (by first | exact h | exact h.drewN _ | exact h.hold _ | exact (h.hold _).drew | exact (h.hold _).drewN _ | exact h.drew | exact h.alloc _ | exact h.less | exact (h.alloc _).drewN _ | exact (h.less).alloc _) (by assumption)).mono ?_; rintro e w' ⟨rfl, h⟩; have hsz := h.size; (try (obtain ⟨r0, r1, r2, r3, z0, z1, z2, z3⟩ := h.four; have hs4 := (Array.getElem?_eq_some_iff.1 h.head).1)); (try (obtain ⟨q0, q1, q2, q3, _, _, _, _⟩ := h.drop.four; have hs5 := (Array.getElem?_eq_some_iff.1 h.drop.head).1)); (try (obtain ⟨n0, n1, n2, n3, n4, n5, n6, n7, n8, n9⟩ := h.nine; have hs4 := (Array.getElem?_eq_some_iff.1 h.head).1))) | (go_at_call 98; refine (sees_no ok _ (by first | exact h | exact h.drewN _ | exact h.hold _ | exact (h.hold _).drew | exact (h.hold _).drewN _ | exact h.drew | exact h.alloc _ | exact h.less | exact (h.alloc _).drewN _ | exact (h.less).alloc _) (by first | assumption | exact eq_false_of_ne_true (by assumption))).mono ?_; rintro e w' ⟨rfl, h⟩; have hsz := h.size; (try (obtain ⟨r0, r1, r2, r3, z0, z1, z2, z3⟩ := h.four; have hs4 := (Array.getElem?_eq_some_iff.1 h.head).1)); (try (obtain ⟨q0, q1, q2, q3, _, _, _, _⟩ := h.drop.four; have hs5 := (Array.getElem?_eq_some_iff.1 h.drop.head).1)); (try (obtain ⟨n0, n1, n2, n3, n4, n5, n6, n7, n8, n9⟩ := h.nine; have hs4 := (Array.getElem?_eq_some_iff.1 h.head).1))))
      go_ret
      have k := (Lst.nil h.drop.drop).done
      exact ⟨_, rfl, k.lose.push (.mkCall ⟨22, tp, 0, tx⟩ ⟨23, hp, 0, hm⟩ k.top)⟩
    · go_enter Tryz.func189, Tryz.ntmps189
      go_wp2_with (first | (go_at_call 138; refine (hH _ _ _ _ (by first | exact h | exact h.drewN _ | exact h.hold _ | exact (h.hold _).drew | exact (h.hold _).drewN _ | exact h.drew | exact h.alloc _ | exact h.less | exact (h.alloc _).drewN _ | exact (h.less).alloc _)).mono ?_; rintro e w' ⟨rfl, h⟩; have hsz := h.size; (try (obtain ⟨r0, r1, r2, r3, z0, z1, z2, z3⟩ := h.four; have hs4 := (Array.getElem?_eq_some_iff.1 h.head).1)); (try (obtain ⟨q0, q1, q2, q3, _, _, _, _⟩ := h.drop.four; have hs5 := (Array.getElem?_eq_some_iff.1 h.drop.head).1)); (try (obtain ⟨n0, n1, n2, n3, n4, n5, n6, n7, n8, n9⟩ := h.nine; have hs4 := (Array.getElem?_eq_some_iff.1 h.head).1))) | (go_at_call 106; refine (hN _ _ _ (by first | exact h | exact h.drewN _ | exact h.hold _ | exact (h.hold _).drew | exact (h.hold _).drewN _ | exact h.drew | exact h.alloc _ | exact h.less | exact (h.alloc _).drewN _ | exact (h.less).alloc _)).mono ?_; rintro e w' ⟨rfl, h⟩; have hsz := h.size; (try (obtain ⟨r0, r1, r2, r3, z0, z1, z2, z3⟩ := h.four; have hs4 := (Array.getElem?_eq_some_iff.1 h.head).1)); (try (obtain ⟨q0, q1, q2, q3, _, _, _, _⟩ := h.drop.four; have hs5 := (Array.getElem?_eq_some_iff.1 h.drop.head).1)); (try (obtain ⟨n0, n1, n2, n3, n4, n5, n6, n7, n8, n9⟩ := h.nine; have hs4 := (Array.getElem?_eq_some_iff.1 h.head).1))) | (go_at_call 107; refine (must_any ok _ (by decide) (by first | exact h | exact h.drewN _ | exact h.hold _ | exact h.put8 _ | exact (h.hold _).drew | exact (h.hold _).drewN _ | exact h.drew | exact h.alloc _ | exact h.less | exact (h.alloc _).drewN _ | exact (h.less).alloc _)).mono ?_; rintro e w' ⟨rfl, h⟩; have hsz := h.size; (try (obtain ⟨r0, r1, r2, r3, z0, z1, z2, z3⟩ := h.four; have hs4 := (Array.getElem?_eq_some_iff.1 h.head).1)); (try (obtain ⟨q0, q1, q2, q3, _, _, _, _⟩ := h.drop.four; have hs5 := (Array.getElem?_eq_some_iff.1 h.drop.head).1)); (try (obtain ⟨n0, n1, n2, n3, n4, n5, n6, n7, n8, n9⟩ := h.nine; have hs4 := (Array.getElem?_eq_some_iff.1 h.head).1))) | (go_at_call 98; refine (sees_yes ok _ (by first | exact h | exact h.drewN _ | exact h.hold _ | exact (h.hold _).drew | exact (h.hold _).drewN _ | exact h.drew | exact h.alloc _ | exact h.less | exact (h.alloc _).drewN _ | exact (h.less).alloc _) (by assumption)).mono ?_; rintro e w' ⟨rfl, h⟩; have hsz := h.size; (try (obtain ⟨r0, r1, r2, r3, z0, z1, z2, z3⟩ := h.four; have hs4 := (Array.getElem?_eq_some_iff.1 h.head).1)); (try (obtain ⟨q0, q1, q2, q3, _, _, _, _⟩ := h.drop.four; have hs5 := (Array.getElem?_eq_some_iff.1 h.drop.head).1)); (try (obtain ⟨n0, n1, n2, n3, n4, n5, n6, n7, n8, n9⟩ := h.nine; have hs4 := (Array.getElem?_eq_some_iff.1 h.head).1))) | (go_at_call 98; refine (sees_no ok _ (by first | exact h | exact h.drewN _ | exact h.hold _ | exact (h.hold _).drew | exact (h.hold _).drewN _ | exact h.drew | exact h.alloc _ | exact h.less | exact (h.alloc _).drewN _ | exact (h.less).alloc _) (by first | assumption | exact eq_false_of_ne_true (by assumption))).mono ?_; rintro e w' ⟨rfl, h⟩; have hsz := h.size; (try (obtain ⟨r0, r1, r2, r3, z0, z1, z2, z3⟩ := h.four; have hs4 := (Array.getElem?_eq_some_iff.1 h.head).1)); (try (obtain ⟨q0, q1, q2, q3, _, _, _, _⟩ := h.drop.four; have hs5 := (Array.getElem?_eq_some_iff.1 h.drop.head).1)); (try (obtain ⟨n0, n1, n2, n3, n4, n5, n6, n7, n8, n9⟩ := h.nine; have hs4 := (Array.getElem?_eq_some_iff.1 h.head).1))) | (go_at_call 191; refine (terms_walk ok G (by first | exact h | exact h.drewN _ | exact h.hold _ | exact (h.hold _).drew | exact (h.hold _).drewN _ | exact h.drew | exact h.alloc _ | exact h.less | exact (h.alloc _).drewN _ | exact (h.less).alloc _) (by assumption)).mono ?_; rintro e w' ⟨v, rfl, h⟩; obtain ⟨va, vc, rfl⟩ := row_shape h.top; have hsz := h.size; (try (obtain ⟨r0, r1, r2, r3, z0, z1, z2, z3⟩ := h.four; have hs4 := (Array.getElem?_eq_some_iff.1 h.head).1)); (try (obtain ⟨q0, q1, q2, q3, _, _, _, _⟩ := h.drop.four; have hs5 := (Array.getElem?_eq_some_iff.1 h.drop.head).1)); (try (obtain ⟨n0, n1, n2, n3, n4, n5, n6, n7, n8, n9⟩ := h.nine; have hs4 := (Array.getElem?_eq_some_iff.1 h.head).1))))
      go_ret
      exact ⟨_, rfl, h.drop.drop.lose.push (.mkCall ⟨22, tp, 0, tx⟩ ⟨23, hp, 0, hm⟩ h.drop.drop.top)⟩
end
end
end Go.Proofs.YtjikjejfobnfnaaGreatDoor.imp
