/-
  Statements, walked: the others.
  Statements, walked: the others.
-/
import Derived.Test.YtjikjejfobnfnaaGreatDoorC26
namespace Go.Proofs.YtjikjejfobnfnaaGreatDoor.imp
open Go.RowKit Go.Proofs.YtjikjejfobnfnaaGreatDoor.num Go.Proofs.YtjikjejfobnfnaaGreatDoor.lex Go.Proofs.YtjikjejfobnfnaaGreatDoor.par
set_option linter.unusedVariables false
section
section
variable {x : Cx} {Q : List (Value × P)} {L : List (Nat × Obj)} {s s' : T} {w w' : World} {R : RecI} {p : P}
set_option maxHeartbeats 8000000 in
set_option maxRecDepth 100000 in
theorem statement_read (ok : x.Ok) (G : GoodI x R) (C : GoodC x R) (S : GoodS x R) (h : PT x Q L s w) (hk : ¬ (tokT x.ts x.fin s).kind = 1) (h0 : seesT x.ts x.fin s ⟨#[42]⟩ = false) (h1 : seesT x.ts x.fin s ⟨#[105, 102]⟩ = false) (h2 : seesT x.ts x.fin s ⟨#[119, 104, 105, 108, 101]⟩ = false) (h3 : seesT x.ts x.fin s ⟨#[102, 111, 114]⟩ = false) (h4 : seesT x.ts x.fin s ⟨#[114, 101, 97, 100]⟩ = true) (hr : some ((.node 216 (nmH x.ts x.fin 17 (upT s)) [] : P), upT (mustT x.ts x.fin (nmT x.ts x.fin (upT s)) ⟨#[59]⟩)) = some (p, s')) : Calls Tryz.prog 161 #[.pointer (some ⟨x.B, 0, none⟩)] w fun e w' => ∃ v, e = .returned v ∧ PT x ((v, p) :: Q) L s' w' := by
  have hsz := h.size
  have g0 := fTok0
  have g1 := fTok1
  have hT := fun (w : World) (Q : List (Value × P)) (L : List (Nat × Obj)) (h : PT x Q L s w) => token_any ok h
  have e1 : ((tokT x.ts x.fin s).kind == 1) = false := by simpa using hk
  cases hr
  have hN := fun (w : World) (Q : List (Value × P)) (L : List (Nat × Obj)) (h : PT x Q L (upT s) w) => named2 ok 17 h
  have hU : nmH x.ts x.fin 17 (upT s) = ⟨17, (nmH x.ts x.fin 17 (upT s)).pos, 0, (nmH x.ts x.fin 17 (upT s)).name⟩ := rfl
  rw [hU]
  clear hU
  generalize (nmH x.ts x.fin 17 (upT s)).pos = hp at *
  generalize (nmH x.ts x.fin 17 (upT s)).name = hm at *
  clear hk
  generalize tokT x.ts x.fin s = t at *
  obtain ⟨tk, tp, tx, tn⟩ := t
  simp only [Tok.val] at hT e1
  go_enter Tryz.func161, Tryz.ntmps161
  go_wp2_with (first | (go_at_call 60; refine (hT _ _ _ (by first | exact h | exact h.drewN _ | exact h.hold _ | exact (h.hold _).drew | exact (h.hold _).drewN _ | exact h.drew | exact h.alloc _ | exact h.less | exact (h.alloc _).drewN _ | exact (h.less).alloc _)).mono ?_; rintro e w' ⟨rfl, h⟩; have hsz := h.size; (try (obtain ⟨r0, r1, r2, r3, z0, z1, z2, z3⟩ := h.four; have hs4 := (Array.getElem?_eq_some_iff.1 h.head).1))) | (go_at_call 104; refine (accept_yes ok _ (by decide) (by first | exact h | exact h.drewN _ | exact h.hold _ | exact (h.hold _).drew | exact (h.hold _).drewN _ | exact h.drew | exact h.alloc _ | exact h.less | exact (h.alloc _).drewN _ | exact (h.less).alloc _) (by assumption)).mono ?_; rintro e w' ⟨rfl, h⟩; have hsz := h.size; (try (obtain ⟨r0, r1, r2, r3, z0, z1, z2, z3⟩ := h.four; have hs4 := (Array.getElem?_eq_some_iff.1 h.head).1))) | (go_at_call 104; refine (accept_no ok _ (by first | exact h | exact h.drewN _ | exact h.hold _ | exact (h.hold _).drew | exact (h.hold _).drewN _ | exact h.drew | exact h.alloc _ | exact h.less | exact (h.alloc _).drewN _ | exact (h.less).alloc _) (by first | assumption | exact eq_false_of_ne_true (by assumption))).mono ?_; rintro e w' ⟨rfl, h⟩; have hsz := h.size; (try (obtain ⟨r0, r1, r2, r3, z0, z1, z2, z3⟩ := h.four; have hs4 := (Array.getElem?_eq_some_iff.1 h.head).1))) | (go_at_call 106; refine (hN _ _ _ (by first | exact h | exact h.drewN _ | exact h.hold _ | exact (h.hold _).drew | exact (h.hold _).drewN _ | exact h.drew | exact h.alloc _ | exact h.less | exact (h.alloc _).drewN _ | exact (h.less).alloc _)).mono ?_; rintro e w' ⟨rfl, h⟩; have hsz := h.size; (try (obtain ⟨r0, r1, r2, r3, z0, z1, z2, z3⟩ := h.four; have hs4 := (Array.getElem?_eq_some_iff.1 h.head).1))) | (go_at_call 107; refine (must_any ok _ (by decide) (by first | exact h | exact h.drewN _ | exact h.hold _ | exact (h.hold _).drew | exact (h.hold _).drewN _ | exact h.drew | exact h.alloc _ | exact h.less | exact (h.alloc _).drewN _ | exact (h.less).alloc _)).mono ?_; rintro e w' ⟨rfl, h⟩; have hsz := h.size; (try (obtain ⟨r0, r1, r2, r3, z0, z1, z2, z3⟩ := h.four; have hs4 := (Array.getElem?_eq_some_iff.1 h.head).1))))
  all_goals go_ret
  all_goals exact ⟨_, rfl, h.drop.drop.push (.leaf 216 ⟨17, hp, 0, hm⟩)⟩
set_option maxHeartbeats 8000000 in
set_option maxRecDepth 100000 in
theorem statement_assert (ok : x.Ok) (G : GoodI x R) (C : GoodC x R) (S : GoodS x R) (h : PT x Q L s w) (hk : ¬ (tokT x.ts x.fin s).kind = 1) (h0 : seesT x.ts x.fin s ⟨#[42]⟩ = false) (h1 : seesT x.ts x.fin s ⟨#[105, 102]⟩ = false) (h2 : seesT x.ts x.fin s ⟨#[119, 104, 105, 108, 101]⟩ = false) (h3 : seesT x.ts x.fin s ⟨#[102, 111, 114]⟩ = false) (h4 : seesT x.ts x.fin s ⟨#[114, 101, 97, 100]⟩ = false) (h5 : seesT x.ts x.fin s ⟨#[112, 114, 105, 110, 116]⟩ = false) (h6 : seesT x.ts x.fin s ⟨#[97, 115, 115, 101, 114, 116]⟩ = true) (hr : assertI x.ts x.fin R (tokT x.ts x.fin s).pos (upT s) = some (p, s')) : Calls Tryz.prog 161 #[.pointer (some ⟨x.B, 0, none⟩)] w fun e w' => ∃ v, e = .returned v ∧ PT x ((v, p) :: Q) L s' w' := by
  have hsz := h.size
  have g0 := fTok0
  have g1 := fTok1
  have hT := fun (w : World) (Q : List (Value × P)) (L : List (Nat × Obj)) (h : PT x Q L s w) => token_any ok h
  have e1 : ((tokT x.ts x.fin s).kind == 1) = false := by simpa using hk
  unfold assertI at hr
  split at hr
  · cases hr
  rename_i q s1 eq1
  cases hr
  clear hk
  generalize tokT x.ts x.fin s = t at *
  obtain ⟨tk, tp, tx, tn⟩ := t
  simp only [Tok.val] at hT e1
  go_enter Tryz.func161, Tryz.ntmps161
  go_wp2_with (first | (go_at_call 60; refine (hT _ _ _ (by first | exact h | exact h.drewN _ | exact h.hold _ | exact (h.hold _).drew | exact (h.hold _).drewN _ | exact h.drew | exact h.alloc _ | exact h.less | exact (h.alloc _).drewN _ | exact (h.less).alloc _)).mono ?_; rintro e w' ⟨rfl, h⟩; have hsz := h.size; (try (obtain ⟨r0, r1, r2, r3, z0, z1, z2, z3⟩ := h.four; have hs4 := (Array.getElem?_eq_some_iff.1 h.head).1))) | (go_at_call 104; refine (accept_yes ok _ (by decide) (by first | exact h | exact h.drewN _ | exact h.hold _ | exact (h.hold _).drew | exact (h.hold _).drewN _ | exact h.drew | exact h.alloc _ | exact h.less | exact (h.alloc _).drewN _ | exact (h.less).alloc _) (by assumption)).mono ?_; rintro e w' ⟨rfl, h⟩; have hsz := h.size; (try (obtain ⟨r0, r1, r2, r3, z0, z1, z2, z3⟩ := h.four; have hs4 := (Array.getElem?_eq_some_iff.1 h.head).1))) | (go_at_call 104; refine (accept_no ok _ (by first | exact h | exact h.drewN _ | exact h.hold _ | exact (h.hold _).drew | exact (h.hold _).drewN _ | exact h.drew | exact h.alloc _ | exact h.less | exact (h.alloc _).drewN _ | exact (h.less).alloc _) (by first | assumption | exact eq_false_of_ne_true (by assumption))).mono ?_; rintro e w' ⟨rfl, h⟩; have hsz := h.size; (try (obtain ⟨r0, r1, r2, r3, z0, z1, z2, z3⟩ := h.four; have hs4 := (Array.getElem?_eq_some_iff.1 h.head).1))) | (go_at_call 174; refine (C.cond (by first | exact h | exact h.drewN _ | exact h.hold _ | exact (h.hold _).drew | exact (h.hold _).drewN _ | exact h.drew | exact h.alloc _ | exact h.less | exact (h.alloc _).drewN _ | exact (h.less).alloc _) eq1).mono ?_; rintro e w' ⟨v, rfl, h⟩; have hsz := h.size; (try (obtain ⟨r0, r1, r2, r3, z0, z1, z2, z3⟩ := h.four; have hs4 := (Array.getElem?_eq_some_iff.1 h.head).1)); rcases h.top.shp with rfl | ⟨ty, u, rfl⟩) | (go_at_call 107; refine (must_any ok _ (by decide) (by first | exact h | exact h.drewN _ | exact h.hold _ | exact (h.hold _).drew | exact (h.hold _).drewN _ | exact h.drew | exact h.alloc _ | exact h.less | exact (h.alloc _).drewN _ | exact (h.less).alloc _)).mono ?_; rintro e w' ⟨rfl, h⟩; have hsz := h.size; (try (obtain ⟨r0, r1, r2, r3, z0, z1, z2, z3⟩ := h.four; have hs4 := (Array.getElem?_eq_some_iff.1 h.head).1))))
  all_goals go_ret
  all_goals exact ⟨_, rfl, h.drop.lose.push (.one 218 ⟨19, tp, 0, ⟨#[]⟩⟩ h.drop.top)⟩
set_option maxHeartbeats 8000000 in
set_option maxRecDepth 100000 in
theorem statement_stop (ok : x.Ok) (G : GoodI x R) (C : GoodC x R) (S : GoodS x R) (h : PT x Q L s w) (hk : ¬ (tokT x.ts x.fin s).kind = 1) (h0 : seesT x.ts x.fin s ⟨#[42]⟩ = false) (h1 : seesT x.ts x.fin s ⟨#[105, 102]⟩ = false) (h2 : seesT x.ts x.fin s ⟨#[119, 104, 105, 108, 101]⟩ = false) (h3 : seesT x.ts x.fin s ⟨#[102, 111, 114]⟩ = false) (h4 : seesT x.ts x.fin s ⟨#[114, 101, 97, 100]⟩ = false) (h5 : seesT x.ts x.fin s ⟨#[112, 114, 105, 110, 116]⟩ = false) (h6 : seesT x.ts x.fin s ⟨#[97, 115, 115, 101, 114, 116]⟩ = false) (h7 : seesT x.ts x.fin s ⟨#[115, 116, 111, 112]⟩ = true) (hr : some ((.node 219 ⟨20, (tokT x.ts x.fin s).pos, 0, ⟨#[]⟩⟩ [] : P), upT (mustT x.ts x.fin (upT s) ⟨#[59]⟩)) = some (p, s')) : Calls Tryz.prog 161 #[.pointer (some ⟨x.B, 0, none⟩)] w fun e w' => ∃ v, e = .returned v ∧ PT x ((v, p) :: Q) L s' w' := by
  have hsz := h.size
  have g0 := fTok0
  have g1 := fTok1
  have hT := fun (w : World) (Q : List (Value × P)) (L : List (Nat × Obj)) (h : PT x Q L s w) => token_any ok h
  have e1 : ((tokT x.ts x.fin s).kind == 1) = false := by simpa using hk
  cases hr
  clear hk
  generalize tokT x.ts x.fin s = t at *
  obtain ⟨tk, tp, tx, tn⟩ := t
  simp only [Tok.val] at hT e1
  go_enter Tryz.func161, Tryz.ntmps161
  go_wp2_with (first | (go_at_call 60; refine (hT _ _ _ (by first | exact h | exact h.drewN _ | exact h.hold _ | exact (h.hold _).drew | exact (h.hold _).drewN _ | exact h.drew | exact h.alloc _ | exact h.less | exact (h.alloc _).drewN _ | exact (h.less).alloc _)).mono ?_; rintro e w' ⟨rfl, h⟩; have hsz := h.size; (try (obtain ⟨r0, r1, r2, r3, z0, z1, z2, z3⟩ := h.four; have hs4 := (Array.getElem?_eq_some_iff.1 h.head).1))) | (go_at_call 104; refine (accept_yes ok _ (by decide) (by first | exact h | exact h.drewN _ | exact h.hold _ | exact (h.hold _).drew | exact (h.hold _).drewN _ | exact h.drew | exact h.alloc _ | exact h.less | exact (h.alloc _).drewN _ | exact (h.less).alloc _) (by assumption)).mono ?_; rintro e w' ⟨rfl, h⟩; have hsz := h.size; (try (obtain ⟨r0, r1, r2, r3, z0, z1, z2, z3⟩ := h.four; have hs4 := (Array.getElem?_eq_some_iff.1 h.head).1))) | (go_at_call 104; refine (accept_no ok _ (by first | exact h | exact h.drewN _ | exact h.hold _ | exact (h.hold _).drew | exact (h.hold _).drewN _ | exact h.drew | exact h.alloc _ | exact h.less | exact (h.alloc _).drewN _ | exact (h.less).alloc _) (by first | assumption | exact eq_false_of_ne_true (by assumption))).mono ?_; rintro e w' ⟨rfl, h⟩; have hsz := h.size; (try (obtain ⟨r0, r1, r2, r3, z0, z1, z2, z3⟩ := h.four; have hs4 := (Array.getElem?_eq_some_iff.1 h.head).1))) | (go_at_call 107; refine (must_any ok _ (by decide) (by first | exact h | exact h.drewN _ | exact h.hold _ | exact (h.hold _).drew | exact (h.hold _).drewN _ | exact h.drew | exact h.alloc _ | exact h.less | exact (h.alloc _).drewN _ | exact (h.less).alloc _)).mono ?_; rintro e w' ⟨rfl, h⟩; have hsz := h.size; (try (obtain ⟨r0, r1, r2, r3, z0, z1, z2, z3⟩ := h.four; have hs4 := (Array.getElem?_eq_some_iff.1 h.head).1))))
  all_goals go_ret
  all_goals exact ⟨_, rfl, h.drop.push (.leaf 219 ⟨20, tp, 0, ⟨#[]⟩⟩)⟩
set_option maxHeartbeats 8000000 in
set_option maxRecDepth 100000 in
theorem statement_none (ok : x.Ok) (G : GoodI x R) (C : GoodC x R) (S : GoodS x R) (h : PT x Q L s w) (hk : ¬ (tokT x.ts x.fin s).kind = 1) (h0 : seesT x.ts x.fin s ⟨#[42]⟩ = false) (h1 : seesT x.ts x.fin s ⟨#[105, 102]⟩ = false) (h2 : seesT x.ts x.fin s ⟨#[119, 104, 105, 108, 101]⟩ = false) (h3 : seesT x.ts x.fin s ⟨#[102, 111, 114]⟩ = false) (h4 : seesT x.ts x.fin s ⟨#[114, 101, 97, 100]⟩ = false) (h5 : seesT x.ts x.fin s ⟨#[112, 114, 105, 110, 116]⟩ = false) (h6 : seesT x.ts x.fin s ⟨#[97, 115, 115, 101, 114, 116]⟩ = false) (h7 : seesT x.ts x.fin s ⟨#[115, 116, 111, 112]⟩ = false) (h8 : seesT x.ts x.fin s ⟨#[114, 101, 116, 117, 114, 110]⟩ = false) (hr : some ((.nil : P), failT x.ts x.fin s 6) = some (p, s')) : Calls Tryz.prog 161 #[.pointer (some ⟨x.B, 0, none⟩)] w fun e w' => ∃ v, e = .returned v ∧ PT x ((v, p) :: Q) L s' w' := by
  have hsz := h.size
  have g0 := fTok0
  have g1 := fTok1
  have hT := fun (w : World) (Q : List (Value × P)) (L : List (Nat × Obj)) (h : PT x Q L s w) => token_any ok h
  have e1 : ((tokT x.ts x.fin s).kind == 1) = false := by simpa using hk
  cases hr
  clear hk
  generalize tokT x.ts x.fin s = t at *
  obtain ⟨tk, tp, tx, tn⟩ := t
  simp only [Tok.val] at hT e1
  go_enter Tryz.func161, Tryz.ntmps161
  go_wp2_with (first | (go_at_call 60; refine (hT _ _ _ (by first | exact h | exact h.drewN _ | exact h.hold _ | exact (h.hold _).drew | exact (h.hold _).drewN _ | exact h.drew | exact h.alloc _ | exact h.less | exact (h.alloc _).drewN _ | exact (h.less).alloc _)).mono ?_; rintro e w' ⟨rfl, h⟩; have hsz := h.size; (try (obtain ⟨r0, r1, r2, r3, z0, z1, z2, z3⟩ := h.four; have hs4 := (Array.getElem?_eq_some_iff.1 h.head).1))) | (go_at_call 104; refine (accept_yes ok _ (by decide) (by first | exact h | exact h.drewN _ | exact h.hold _ | exact (h.hold _).drew | exact (h.hold _).drewN _ | exact h.drew | exact h.alloc _ | exact h.less | exact (h.alloc _).drewN _ | exact (h.less).alloc _) (by assumption)).mono ?_; rintro e w' ⟨rfl, h⟩; have hsz := h.size; (try (obtain ⟨r0, r1, r2, r3, z0, z1, z2, z3⟩ := h.four; have hs4 := (Array.getElem?_eq_some_iff.1 h.head).1))) | (go_at_call 104; refine (accept_no ok _ (by first | exact h | exact h.drewN _ | exact h.hold _ | exact (h.hold _).drew | exact (h.hold _).drewN _ | exact h.drew | exact h.alloc _ | exact h.less | exact (h.alloc _).drewN _ | exact (h.less).alloc _) (by first | assumption | exact eq_false_of_ne_true (by assumption))).mono ?_; rintro e w' ⟨rfl, h⟩; have hsz := h.size; (try (obtain ⟨r0, r1, r2, r3, z0, z1, z2, z3⟩ := h.four; have hs4 := (Array.getElem?_eq_some_iff.1 h.head).1))) | (go_at_call 109; refine (fail_any ok _ (by decide) (by first | exact h | exact h.drewN _ | exact h.hold _ | exact (h.hold _).drew | exact (h.hold _).drewN _ | exact h.drew | exact h.alloc _ | exact h.less | exact (h.alloc _).drewN _ | exact (h.less).alloc _)).mono ?_; rintro e w' ⟨rfl, h⟩; have hsz := h.size; (try (obtain ⟨r0, r1, r2, r3, z0, z1, z2, z3⟩ := h.four; have hs4 := (Array.getElem?_eq_some_iff.1 h.head).1))))
  all_goals go_ret
  all_goals exact ⟨_, rfl, h.drop.push .nil⟩
end
end
section
section
variable {x : Cx} {Q : List (Value × P)} {L : List (Nat × Obj)} {s s' : T} {w w' : World} {R : RecI} {p : P}
set_option maxHeartbeats 8000000 in
set_option maxRecDepth 100000 in
theorem statement_while (ok : x.Ok) (G : GoodI x R) (C : GoodC x R) (S : GoodS x R) (h : PT x Q L s w) (hk : ¬ (tokT x.ts x.fin s).kind = 1) (h0 : seesT x.ts x.fin s ⟨#[42]⟩ = false) (h1 : seesT x.ts x.fin s ⟨#[105, 102]⟩ = false) (h2 : seesT x.ts x.fin s ⟨#[119, 104, 105, 108, 101]⟩ = true) (hr : whileI x.ts x.fin R (tokT x.ts x.fin s).pos (upT s) = some (p, s')) : Calls Tryz.prog 161 #[.pointer (some ⟨x.B, 0, none⟩)] w fun e w' => ∃ v, e = .returned v ∧ PT x ((v, p) :: Q) L s' w' := by
  have hsz := h.size
  have g0 := fTok0
  have g1 := fTok1
  have hT := fun (w : World) (Q : List (Value × P)) (L : List (Nat × Obj)) (h : PT x Q L s w) => token_any ok h
  have e1 : ((tokT x.ts x.fin s).kind == 1) = false := by simpa using hk
  unfold whileI at hr
  split at hr
  · cases hr
  rename_i q s1 eq1
  split at hr
  · cases hr
  rename_i pb bs s2 eq2
  cases hr
  clear hk
  generalize tokT x.ts x.fin s = t at *
  obtain ⟨tk, tp, tx, tn⟩ := t
  simp only [Tok.val] at hT e1
  go_enter Tryz.func161, Tryz.ntmps161
  go_wp2_with (first | (go_at_call 60; refine (hT _ _ _ (by first | exact h | exact h.drewN _ | exact h.hold _ | exact (h.hold _).drew | exact (h.hold _).drewN _ | exact h.drew | exact h.alloc _ | exact h.less | exact (h.alloc _).drewN _ | exact (h.less).alloc _)).mono ?_; rintro e w' ⟨rfl, h⟩; have hsz := h.size; (try (obtain ⟨r0, r1, r2, r3, z0, z1, z2, z3⟩ := h.four; have hs4 := (Array.getElem?_eq_some_iff.1 h.head).1))) | (go_at_call 104; refine (accept_yes ok _ (by decide) (by first | exact h | exact h.drewN _ | exact h.hold _ | exact (h.hold _).drew | exact (h.hold _).drewN _ | exact h.drew | exact h.alloc _ | exact h.less | exact (h.alloc _).drewN _ | exact (h.less).alloc _) (by assumption)).mono ?_; rintro e w' ⟨rfl, h⟩; have hsz := h.size; (try (obtain ⟨r0, r1, r2, r3, z0, z1, z2, z3⟩ := h.four; have hs4 := (Array.getElem?_eq_some_iff.1 h.head).1))) | (go_at_call 104; refine (accept_no ok _ (by first | exact h | exact h.drewN _ | exact h.hold _ | exact (h.hold _).drew | exact (h.hold _).drewN _ | exact h.drew | exact h.alloc _ | exact h.less | exact (h.alloc _).drewN _ | exact (h.less).alloc _) (by first | assumption | exact eq_false_of_ne_true (by assumption))).mono ?_; rintro e w' ⟨rfl, h⟩; have hsz := h.size; (try (obtain ⟨r0, r1, r2, r3, z0, z1, z2, z3⟩ := h.four; have hs4 := (Array.getElem?_eq_some_iff.1 h.head).1))) | (go_at_call 174; refine (C.cond (by first | exact h | exact h.drewN _ | exact h.hold _ | exact (h.hold _).drew | exact (h.hold _).drewN _ | exact h.drew | exact h.alloc _ | exact h.less | exact (h.alloc _).drewN _ | exact (h.less).alloc _) eq1).mono ?_; rintro e w' ⟨v, rfl, h⟩; have hsz := h.size; (try (obtain ⟨r0, r1, r2, r3, z0, z1, z2, z3⟩ := h.four; have hs4 := (Array.getElem?_eq_some_iff.1 h.head).1)); rcases h.top.shp with rfl | ⟨ty, u, rfl⟩))
  all_goals go_region_with (first | (go_at_call 175; refine (block_walk ok S h.drew eq2).mono ?_; rintro e w' ⟨v3, rfl, h⟩; obtain ⟨va, vc, rfl⟩ := row_shape h.top; have hsz := h.size; (try (obtain ⟨r0, r1, r2, r3, z0, z1, z2, z3⟩ := h.four; have hs4 := (Array.getElem?_eq_some_iff.1 h.head).1))) | fail)
  all_goals go_wp2
  all_goals go_ret
  all_goals exact ⟨_, rfl, h.drop.lose.lose.push (.mkWhile ⟨15, tp, 0, ⟨#[]⟩⟩ pb h.drop.lose.top h.drop.top)⟩
end
end
end Go.Proofs.YtjikjejfobnfnaaGreatDoor.imp
