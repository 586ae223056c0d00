/-
  Statements, walked: the others.
-/
import Derived.Test.YtjikjejfobnfnaaGreatDoorC26
namespace Go.Proofs.YtjikjejfobnfnaaGreatDoor.imp
open Go.RowKit Go.Proofs.YtjikjejfobnfnaaGreatDoor.num Go.Proofs.YtjikjejfobnfnaaGreatDoor.lex Go.Proofs.YtjikjejfobnfnaaGreatDoor.par
set_option linter.unusedVariables false
section
section
variable {x : Cx} {Q : List (Value × P)} {L : List (Nat × Obj)} {s s' : T} {w w' : World} {R : RecI} {p : P}
set_option maxHeartbeats 8000000 in
set_option maxRecDepth 100000 in
theorem statement_return (ok : x.Ok) (G : GoodI x R) (C : GoodC x R) (S : GoodS x R) (h : PT x Q L s w) (hk : ¬ (tokT x.ts x.fin s).kind = 1) (h0 : seesT x.ts x.fin s ⟨#[42]⟩ = false) (h1 : seesT x.ts x.fin s ⟨#[105, 102]⟩ = false) (h2 : seesT x.ts x.fin s ⟨#[119, 104, 105, 108, 101]⟩ = false) (h3 : seesT x.ts x.fin s ⟨#[102, 111, 114]⟩ = false) (h4 : seesT x.ts x.fin s ⟨#[114, 101, 97, 100]⟩ = false) (h5 : seesT x.ts x.fin s ⟨#[112, 114, 105, 110, 116]⟩ = false) (h6 : seesT x.ts x.fin s ⟨#[97, 115, 115, 101, 114, 116]⟩ = false) (h7 : seesT x.ts x.fin s ⟨#[115, 116, 111, 112]⟩ = false) (h8 : seesT x.ts x.fin s ⟨#[114, 101, 116, 117, 114, 110]⟩ = true) (hr : endI x.ts x.fin R 220 21 (tokT x.ts x.fin s).pos (upT s) = some (p, s')) : Calls Tryz.prog 161 #[.pointer (some ⟨x.B, 0, none⟩)] w fun e w' => ∃ v, e = .returned v ∧ PT x ((v, p) :: Q) L s' w' := by
  have hsz := h.size
  have g0 := fTok0
  have g1 := fTok1
  have hT := fun (w : World) (Q : List (Value × P)) (L : List (Nat × Obj)) (h : PT x Q L s w) => token_any ok h
  have e1 : ((tokT x.ts x.fin s).kind == 1) = false := by simpa using hk
  unfold endI at hr
  split at hr
  · cases hr
  rename_i q s1 eq1
  cases hr
  clear hk
  generalize tokT x.ts x.fin s = t at *
  obtain ⟨tk, tp, tx, tn⟩ := t
  simp only [Tok.val] at hT e1
  go_enter Tryz.func161, Tryz.ntmps161
  cases q
  all_goals go_wp2_with (first | (go_at_call 60; refine (hT _ _ _ (by first | exact h | exact h.drewN _ | exact h.hold _ | exact (h.hold _).drew | exact (h.hold _).drewN _ | exact h.drew | exact h.alloc _ | exact h.less | exact (h.alloc _).drewN _ | exact (h.less).alloc _)).mono ?_; rintro e w' ⟨rfl, h⟩; have hsz := h.size; (try (obtain ⟨r0, r1, r2, r3, z0, z1, z2, z3⟩ := h.four; have hs4 := (Array.getElem?_eq_some_iff.1 h.head).1))) | (go_at_call 104; refine (accept_yes ok _ (by decide) (by first | exact h | exact h.drewN _ | exact h.hold _ | exact (h.hold _).drew | exact (h.hold _).drewN _ | exact h.drew | exact h.alloc _ | exact h.less | exact (h.alloc _).drewN _ | exact (h.less).alloc _) (by assumption)).mono ?_; rintro e w' ⟨rfl, h⟩; have hsz := h.size; (try (obtain ⟨r0, r1, r2, r3, z0, z1, z2, z3⟩ := h.four; have hs4 := (Array.getElem?_eq_some_iff.1 h.head).1))) | (go_at_call 104; refine (accept_no ok _ (by first | exact h | exact h.drewN _ | exact h.hold _ | exact (h.hold _).drew | exact (h.hold _).drewN _ | exact h.drew | exact h.alloc _ | exact h.less | exact (h.alloc _).drewN _ | exact (h.less).alloc _) (by first | assumption | exact eq_false_of_ne_true (by assumption))).mono ?_; rintro e w' ⟨rfl, h⟩; have hsz := h.size; (try (obtain ⟨r0, r1, r2, r3, z0, z1, z2, z3⟩ := h.four; have hs4 := (Array.getElem?_eq_some_iff.1 h.head).1))))
  all_goals go_region_with (first | (go_at_call 177; refine (lastTerm_walk ok G h.drew eq1).mono ?_; rintro e w' ⟨v, rfl, h⟩; obtain rfl := h.top.nil_eq; have hsz := h.size; (try (obtain ⟨r0, r1, r2, r3, z0, z1, z2, z3⟩ := h.four; have hs4 := (Array.getElem?_eq_some_iff.1 h.head).1))) | (go_at_call 177; refine (lastTerm_walk ok G h.drew eq1).mono ?_; rintro e w' ⟨v, rfl, h⟩; obtain ⟨u2, rfl⟩ := h.top.node_eq; have hsz := h.size; (try (obtain ⟨r0, r1, r2, r3, z0, z1, z2, z3⟩ := h.four; have hs4 := (Array.getElem?_eq_some_iff.1 h.head).1))) | fail)
  all_goals go_wp2
  all_goals go_ret
  all_goals exact ⟨_, rfl, h.drop.lose.push (.one 220 ⟨21, tp, 0, ⟨#[]⟩⟩ h.drop.top)⟩
end
end
end Go.Proofs.YtjikjejfobnfnaaGreatDoor.imp
