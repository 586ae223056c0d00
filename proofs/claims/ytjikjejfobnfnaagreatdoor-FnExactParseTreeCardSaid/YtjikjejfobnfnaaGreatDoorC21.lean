/-
  The program's conditions: the last level.
  The program's rows of pieces: how they grow, and what they are when they are done.
  The pieces' methods: which function a piece's method is.
  The pieces' methods, walked: a piece's node, and the pieces below it where these lie in the piece itself.
-/
import Derived.Test.YtjikjejfobnfnaaGreatDoorC20
import Derived.Maps.AppendAt
namespace Go.Proofs.YtjikjejfobnfnaaGreatDoor.imp
open Go.RowKit Go.Proofs.YtjikjejfobnfnaaGreatDoor.num Go.Proofs.YtjikjejfobnfnaaGreatDoor.lex Go.Proofs.YtjikjejfobnfnaaGreatDoor.par
set_option linter.unusedVariables false
section
section
variable {x : Cx} {Q : List (Value × P)} {L : List (Nat × Obj)} {s s' : T} {w w' : World} {R : RecI} {p : P}
set_option maxHeartbeats 4000000 in
set_option maxRecDepth 100000 in
theorem last_walk (ok : x.Ok) (G : GoodI x R) (C : GoodC x R) (tb : Tb x.W) (hB : 2 < x.B) (h : PT x Q L s w) (hr : lastI x.ts x.fin R s = some (p, s')) : Calls Tryz.prog 190 #[.pointer (some ⟨x.B, 0, none⟩)] w fun e w' => ∃ v, e = .returned v ∧ PT x ((v, p) :: Q) L s' w' := by
  have hsz := h.size
  have g1 := fTok1
  have hT := fun (w : World) (Q : List (Value × P)) (L : List (Nat × Obj)) (h : PT x Q L s w) => token_any ok h
  unfold lastI at hr
  split at hr
  · split at hr
    · cases hr
    · cases hr
      generalize tokT x.ts x.fin s = t at *
      obtain ⟨tk, tp, tx, tn⟩ := t
      simp only [Tok.val] at hT
      go_enter Tryz.func190, Tryz.ntmps190
      go_wp2_with (first | (go_at_call 60; refine (hT _ _ _ (by first | exact h | exact h.drewN _ | exact h.hold _ | exact (h.hold _).drew | exact (h.hold _).drewN _ | exact h.drew | exact h.alloc _ | exact h.less | exact (h.alloc _).drewN _ | exact (h.less).alloc _)).mono ?_; rintro e w' ⟨rfl, h⟩; have c3 := h.c3; have f3 := h.fz 3; have hsz := h.size; (try (obtain ⟨r0, r1, r2, r3, z0, z1, z2, z3⟩ := h.four; have hs4 := (Array.getElem?_eq_some_iff.1 h.head).1))) | (go_at_call 104; refine (accept_yes ok _ (by decide) (by first | exact h | exact h.drewN _ | exact h.hold _ | exact (h.hold _).drew | exact (h.hold _).drewN _ | exact h.drew | exact h.alloc _ | exact h.less | exact (h.alloc _).drewN _ | exact (h.less).alloc _) (by assumption)).mono ?_; rintro e w' ⟨rfl, h⟩; have c3 := h.c3; have f3 := h.fz 3; have hsz := h.size; (try (obtain ⟨r0, r1, r2, r3, z0, z1, z2, z3⟩ := h.four; have hs4 := (Array.getElem?_eq_some_iff.1 h.head).1))) | (go_at_call 104; refine (accept_no ok _ (by first | exact h | exact h.drewN _ | exact h.hold _ | exact (h.hold _).drew | exact (h.hold _).drewN _ | exact h.drew | exact h.alloc _ | exact h.less | exact (h.alloc _).drewN _ | exact (h.less).alloc _) (by first | assumption | exact eq_false_of_ne_true (by assumption))).mono ?_; rintro e w' ⟨rfl, h⟩; have c3 := h.c3; have f3 := h.fz 3; have hsz := h.size; (try (obtain ⟨r0, r1, r2, r3, z0, z1, z2, z3⟩ := h.four; have hs4 := (Array.getElem?_eq_some_iff.1 h.head).1))) | (go_at_call 101; refine (deeper_any ok (by first | exact h | exact h.drewN _ | exact h.hold _ | exact (h.hold _).drew | exact (h.hold _).drewN _ | exact h.drew | exact h.alloc _ | exact h.less | exact (h.alloc _).drewN _ | exact (h.less).alloc _)).mono ?_; rintro e w' ⟨rfl, h⟩; have c3 := h.c3; have f3 := h.fz 3; have hsz := h.size; (try (obtain ⟨r0, r1, r2, r3, z0, z1, z2, z3⟩ := h.four; have hs4 := (Array.getElem?_eq_some_iff.1 h.head).1))) | (go_at_call 107; refine (must_any ok _ (by decide) (by first | exact h | exact h.drewN _ | exact h.hold _ | exact (h.hold _).drew | exact (h.hold _).drewN _ | exact h.drew | exact h.alloc _ | exact h.less | exact (h.alloc _).drewN _ | exact (h.less).alloc _)).mono ?_; rintro e w' ⟨rfl, h⟩; have c3 := h.c3; have f3 := h.fz 3; have hsz := h.size; (try (obtain ⟨r0, r1, r2, r3, z0, z1, z2, z3⟩ := h.four; have hs4 := (Array.getElem?_eq_some_iff.1 h.head).1))) | (go_at_call 135; refine (hN _ _ _ (by first | exact h | exact h.drewN _ | exact h.hold _ | exact (h.hold _).drew | exact (h.hold _).drewN _ | exact h.drew | exact h.alloc _ | exact h.less | exact (h.alloc _).drewN _ | exact (h.less).alloc _)).mono ?_; rintro e w' ⟨rfl, h⟩; have c3 := h.c3; have f3 := h.fz 3; have hsz := h.size; (try (obtain ⟨r0, r1, r2, r3, z0, z1, z2, z3⟩ := h.four; have hs4 := (Array.getElem?_eq_some_iff.1 h.head).1))) | (go_at_call 190; refine (C.last (by first | exact h | exact h.drewN _ | exact h.hold _ | exact (h.hold _).drew | exact (h.hold _).drewN _ | exact h.drew | exact h.alloc _ | exact h.less | exact (h.alloc _).drewN _ | exact (h.less).alloc _) (by assumption)).mono ?_; rintro e w' ⟨v, rfl, h⟩; have c3 := h.c3; have f3 := h.fz 3; have hsz := h.size; (try (obtain ⟨r0, r1, r2, r3, z0, z1, z2, z3⟩ := h.four; have hs4 := (Array.getElem?_eq_some_iff.1 h.head).1)); rcases h.top.shp with rfl | ⟨ty, u, rfl⟩) | (go_at_call 174; refine (C.cond (by first | exact h | exact h.drewN _ | exact h.hold _ | exact (h.hold _).drew | exact (h.hold _).drewN _ | exact h.drew | exact h.alloc _ | exact h.less | exact (h.alloc _).drewN _ | exact (h.less).alloc _) (by assumption)).mono ?_; rintro e w' ⟨v, rfl, h⟩; have c3 := h.c3; have f3 := h.fz 3; have hsz := h.size; (try (obtain ⟨r0, r1, r2, r3, z0, z1, z2, z3⟩ := h.four; have hs4 := (Array.getElem?_eq_some_iff.1 h.head).1)); rcases h.top.shp with rfl | ⟨ty, u, rfl⟩) | (go_at_call 192; refine (comparison_walk ok G tb hB (by first | exact h | exact h.drewN _ | exact h.hold _ | exact (h.hold _).drew | exact (h.hold _).drewN _ | exact h.drew | exact h.alloc _ | exact h.less | exact (h.alloc _).drewN _ | exact (h.less).alloc _) (by assumption)).mono ?_; rintro e w' ⟨v, rfl, h⟩; have c3 := h.c3; have f3 := h.fz 3; have hsz := h.size; (try (obtain ⟨r0, r1, r2, r3, z0, z1, z2, z3⟩ := h.four; have hs4 := (Array.getElem?_eq_some_iff.1 h.head).1)); rcases h.top.shp with rfl | ⟨ty, u, rfl⟩))
      all_goals go_ret
      all_goals exact ⟨_, rfl, (h.less).drop.lose.push (.one 194 ⟨33, tp, 0, ⟨#[]⟩⟩ (h.less).drop.top)⟩
  · split at hr
    · split at hr
      · cases hr
      · cases hr
        generalize tokT x.ts x.fin s = t at *
        obtain ⟨tk, tp, tx, tn⟩ := t
        simp only [Tok.val] at hT
        go_enter Tryz.func190, Tryz.ntmps190
        go_wp2_with (first | (go_at_call 60; refine (hT _ _ _ (by first | exact h | exact h.drewN _ | exact h.hold _ | exact (h.hold _).drew | exact (h.hold _).drewN _ | exact h.drew | exact h.alloc _ | exact h.less | exact (h.alloc _).drewN _ | exact (h.less).alloc _)).mono ?_; rintro e w' ⟨rfl, h⟩; have c3 := h.c3; have f3 := h.fz 3; have hsz := h.size; (try (obtain ⟨r0, r1, r2, r3, z0, z1, z2, z3⟩ := h.four; have hs4 := (Array.getElem?_eq_some_iff.1 h.head).1))) | (go_at_call 104; refine (accept_yes ok _ (by decide) (by first | exact h | exact h.drewN _ | exact h.hold _ | exact (h.hold _).drew | exact (h.hold _).drewN _ | exact h.drew | exact h.alloc _ | exact h.less | exact (h.alloc _).drewN _ | exact (h.less).alloc _) (by assumption)).mono ?_; rintro e w' ⟨rfl, h⟩; have c3 := h.c3; have f3 := h.fz 3; have hsz := h.size; (try (obtain ⟨r0, r1, r2, r3, z0, z1, z2, z3⟩ := h.four; have hs4 := (Array.getElem?_eq_some_iff.1 h.head).1))) | (go_at_call 104; refine (accept_no ok _ (by first | exact h | exact h.drewN _ | exact h.hold _ | exact (h.hold _).drew | exact (h.hold _).drewN _ | exact h.drew | exact h.alloc _ | exact h.less | exact (h.alloc _).drewN _ | exact (h.less).alloc _) (by first | assumption | exact eq_false_of_ne_true (by assumption))).mono ?_; rintro e w' ⟨rfl, h⟩; have c3 := h.c3; have f3 := h.fz 3; have hsz := h.size; (try (obtain ⟨r0, r1, r2, r3, z0, z1, z2, z3⟩ := h.four; have hs4 := (Array.getElem?_eq_some_iff.1 h.head).1))) | (go_at_call 101; refine (deeper_any ok (by first | exact h | exact h.drewN _ | exact h.hold _ | exact (h.hold _).drew | exact (h.hold _).drewN _ | exact h.drew | exact h.alloc _ | exact h.less | exact (h.alloc _).drewN _ | exact (h.less).alloc _)).mono ?_; rintro e w' ⟨rfl, h⟩; have c3 := h.c3; have f3 := h.fz 3; have hsz := h.size; (try (obtain ⟨r0, r1, r2, r3, z0, z1, z2, z3⟩ := h.four; have hs4 := (Array.getElem?_eq_some_iff.1 h.head).1))) | (go_at_call 107; refine (must_any ok _ (by decide) (by first | exact h | exact h.drewN _ | exact h.hold _ | exact (h.hold _).drew | exact (h.hold _).drewN _ | exact h.drew | exact h.alloc _ | exact h.less | exact (h.alloc _).drewN _ | exact (h.less).alloc _)).mono ?_; rintro e w' ⟨rfl, h⟩; have c3 := h.c3; have f3 := h.fz 3; have hsz := h.size; (try (obtain ⟨r0, r1, r2, r3, z0, z1, z2, z3⟩ := h.four; have hs4 := (Array.getElem?_eq_some_iff.1 h.head).1))) | (go_at_call 135; refine (hN _ _ _ (by first | exact h | exact h.drewN _ | exact h.hold _ | exact (h.hold _).drew | exact (h.hold _).drewN _ | exact h.drew | exact h.alloc _ | exact h.less | exact (h.alloc _).drewN _ | exact (h.less).alloc _)).mono ?_; rintro e w' ⟨rfl, h⟩; have c3 := h.c3; have f3 := h.fz 3; have hsz := h.size; (try (obtain ⟨r0, r1, r2, r3, z0, z1, z2, z3⟩ := h.four; have hs4 := (Array.getElem?_eq_some_iff.1 h.head).1))) | (go_at_call 190; refine (C.last (by first | exact h | exact h.drewN _ | exact h.hold _ | exact (h.hold _).drew | exact (h.hold _).drewN _ | exact h.drew | exact h.alloc _ | exact h.less | exact (h.alloc _).drewN _ | exact (h.less).alloc _) (by assumption)).mono ?_; rintro e w' ⟨v, rfl, h⟩; have c3 := h.c3; have f3 := h.fz 3; have hsz := h.size; (try (obtain ⟨r0, r1, r2, r3, z0, z1, z2, z3⟩ := h.four; have hs4 := (Array.getElem?_eq_some_iff.1 h.head).1)); rcases h.top.shp with rfl | ⟨ty, u, rfl⟩) | (go_at_call 174; refine (C.cond (by first | exact h | exact h.drewN _ | exact h.hold _ | exact (h.hold _).drew | exact (h.hold _).drewN _ | exact h.drew | exact h.alloc _ | exact h.less | exact (h.alloc _).drewN _ | exact (h.less).alloc _) (by assumption)).mono ?_; rintro e w' ⟨v, rfl, h⟩; have c3 := h.c3; have f3 := h.fz 3; have hsz := h.size; (try (obtain ⟨r0, r1, r2, r3, z0, z1, z2, z3⟩ := h.four; have hs4 := (Array.getElem?_eq_some_iff.1 h.head).1)); rcases h.top.shp with rfl | ⟨ty, u, rfl⟩) | (go_at_call 192; refine (comparison_walk ok G tb hB (by first | exact h | exact h.drewN _ | exact h.hold _ | exact (h.hold _).drew | exact (h.hold _).drewN _ | exact h.drew | exact h.alloc _ | exact h.less | exact (h.alloc _).drewN _ | exact (h.less).alloc _) (by assumption)).mono ?_; rintro e w' ⟨v, rfl, h⟩; have c3 := h.c3; have f3 := h.fz 3; have hsz := h.size; (try (obtain ⟨r0, r1, r2, r3, z0, z1, z2, z3⟩ := h.four; have hs4 := (Array.getElem?_eq_some_iff.1 h.head).1)); rcases h.top.shp with rfl | ⟨ty, u, rfl⟩))
        all_goals go_ret
        all_goals exact ⟨_, rfl, (h.less).drop⟩
    · split at hr
      · cases hr
        have hN := fun (w : World) (Q : List (Value × P)) (L : List (Nat × Obj)) (h : PT x Q L (upT s) w) => namedAt_any ok 34 (tokT x.ts x.fin s) h
        generalize tokT x.ts x.fin (mustK x.ts x.fin (upT s) 1) = u at *
        generalize tokT x.ts x.fin s = t at *
        obtain ⟨tk, tp, tx, tn⟩ := t
        obtain ⟨uk, up, ux, un⟩ := u
        simp only [Tok.val, Hd.val] at hT hN
        go_enter Tryz.func190, Tryz.ntmps190
        go_wp2_with (first | (go_at_call 60; refine (hT _ _ _ (by first | exact h | exact h.drewN _ | exact h.hold _ | exact (h.hold _).drew | exact (h.hold _).drewN _ | exact h.drew | exact h.alloc _ | exact h.less | exact (h.alloc _).drewN _ | exact (h.less).alloc _)).mono ?_; rintro e w' ⟨rfl, h⟩; have c3 := h.c3; have f3 := h.fz 3; have hsz := h.size; (try (obtain ⟨r0, r1, r2, r3, z0, z1, z2, z3⟩ := h.four; have hs4 := (Array.getElem?_eq_some_iff.1 h.head).1))) | (go_at_call 104; refine (accept_yes ok _ (by decide) (by first | exact h | exact h.drewN _ | exact h.hold _ | exact (h.hold _).drew | exact (h.hold _).drewN _ | exact h.drew | exact h.alloc _ | exact h.less | exact (h.alloc _).drewN _ | exact (h.less).alloc _) (by assumption)).mono ?_; rintro e w' ⟨rfl, h⟩; have c3 := h.c3; have f3 := h.fz 3; have hsz := h.size; (try (obtain ⟨r0, r1, r2, r3, z0, z1, z2, z3⟩ := h.four; have hs4 := (Array.getElem?_eq_some_iff.1 h.head).1))) | (go_at_call 104; refine (accept_no ok _ (by first | exact h | exact h.drewN _ | exact h.hold _ | exact (h.hold _).drew | exact (h.hold _).drewN _ | exact h.drew | exact h.alloc _ | exact h.less | exact (h.alloc _).drewN _ | exact (h.less).alloc _) (by first | assumption | exact eq_false_of_ne_true (by assumption))).mono ?_; rintro e w' ⟨rfl, h⟩; have c3 := h.c3; have f3 := h.fz 3; have hsz := h.size; (try (obtain ⟨r0, r1, r2, r3, z0, z1, z2, z3⟩ := h.four; have hs4 := (Array.getElem?_eq_some_iff.1 h.head).1))) | (go_at_call 101; refine (deeper_any ok (by first | exact h | exact h.drewN _ | exact h.hold _ | exact (h.hold _).drew | exact (h.hold _).drewN _ | exact h.drew | exact h.alloc _ | exact h.less | exact (h.alloc _).drewN _ | exact (h.less).alloc _)).mono ?_; rintro e w' ⟨rfl, h⟩; have c3 := h.c3; have f3 := h.fz 3; have hsz := h.size; (try (obtain ⟨r0, r1, r2, r3, z0, z1, z2, z3⟩ := h.four; have hs4 := (Array.getElem?_eq_some_iff.1 h.head).1))) | (go_at_call 107; refine (must_any ok _ (by decide) (by first | exact h | exact h.drewN _ | exact h.hold _ | exact (h.hold _).drew | exact (h.hold _).drewN _ | exact h.drew | exact h.alloc _ | exact h.less | exact (h.alloc _).drewN _ | exact (h.less).alloc _)).mono ?_; rintro e w' ⟨rfl, h⟩; have c3 := h.c3; have f3 := h.fz 3; have hsz := h.size; (try (obtain ⟨r0, r1, r2, r3, z0, z1, z2, z3⟩ := h.four; have hs4 := (Array.getElem?_eq_some_iff.1 h.head).1))) | (go_at_call 135; refine (hN _ _ _ (by first | exact h | exact h.drewN _ | exact h.hold _ | exact (h.hold _).drew | exact (h.hold _).drewN _ | exact h.drew | exact h.alloc _ | exact h.less | exact (h.alloc _).drewN _ | exact (h.less).alloc _)).mono ?_; rintro e w' ⟨rfl, h⟩; have c3 := h.c3; have f3 := h.fz 3; have hsz := h.size; (try (obtain ⟨r0, r1, r2, r3, z0, z1, z2, z3⟩ := h.four; have hs4 := (Array.getElem?_eq_some_iff.1 h.head).1))) | (go_at_call 190; refine (C.last (by first | exact h | exact h.drewN _ | exact h.hold _ | exact (h.hold _).drew | exact (h.hold _).drewN _ | exact h.drew | exact h.alloc _ | exact h.less | exact (h.alloc _).drewN _ | exact (h.less).alloc _) (by assumption)).mono ?_; rintro e w' ⟨v, rfl, h⟩; have c3 := h.c3; have f3 := h.fz 3; have hsz := h.size; (try (obtain ⟨r0, r1, r2, r3, z0, z1, z2, z3⟩ := h.four; have hs4 := (Array.getElem?_eq_some_iff.1 h.head).1)); rcases h.top.shp with rfl | ⟨ty, u, rfl⟩) | (go_at_call 174; refine (C.cond (by first | exact h | exact h.drewN _ | exact h.hold _ | exact (h.hold _).drew | exact (h.hold _).drewN _ | exact h.drew | exact h.alloc _ | exact h.less | exact (h.alloc _).drewN _ | exact (h.less).alloc _) (by assumption)).mono ?_; rintro e w' ⟨v, rfl, h⟩; have c3 := h.c3; have f3 := h.fz 3; have hsz := h.size; (try (obtain ⟨r0, r1, r2, r3, z0, z1, z2, z3⟩ := h.four; have hs4 := (Array.getElem?_eq_some_iff.1 h.head).1)); rcases h.top.shp with rfl | ⟨ty, u, rfl⟩) | (go_at_call 192; refine (comparison_walk ok G tb hB (by first | exact h | exact h.drewN _ | exact h.hold _ | exact (h.hold _).drew | exact (h.hold _).drewN _ | exact h.drew | exact h.alloc _ | exact h.less | exact (h.alloc _).drewN _ | exact (h.less).alloc _) (by assumption)).mono ?_; rintro e w' ⟨v, rfl, h⟩; have c3 := h.c3; have f3 := h.fz 3; have hsz := h.size; (try (obtain ⟨r0, r1, r2, r3, z0, z1, z2, z3⟩ := h.four; have hs4 := (Array.getElem?_eq_some_iff.1 h.head).1)); rcases h.top.shp with rfl | ⟨ty, u, rfl⟩))
        all_goals go_ret
        all_goals exact ⟨_, rfl, h.drop.push (.leaf 193 ⟨34, tp, 0, ux⟩)⟩
      · generalize tokT x.ts x.fin s = t at *
        obtain ⟨tk, tp, tx, tn⟩ := t
        simp only [Tok.val] at hT
        go_enter Tryz.func190, Tryz.ntmps190
        go_wp2_with (first | (go_at_call 60; refine (hT _ _ _ (by first | exact h | exact h.drewN _ | exact h.hold _ | exact (h.hold _).drew | exact (h.hold _).drewN _ | exact h.drew | exact h.alloc _ | exact h.less | exact (h.alloc _).drewN _ | exact (h.less).alloc _)).mono ?_; rintro e w' ⟨rfl, h⟩; have c3 := h.c3; have f3 := h.fz 3; have hsz := h.size; (try (obtain ⟨r0, r1, r2, r3, z0, z1, z2, z3⟩ := h.four; have hs4 := (Array.getElem?_eq_some_iff.1 h.head).1))) | (go_at_call 104; refine (accept_yes ok _ (by decide) (by first | exact h | exact h.drewN _ | exact h.hold _ | exact (h.hold _).drew | exact (h.hold _).drewN _ | exact h.drew | exact h.alloc _ | exact h.less | exact (h.alloc _).drewN _ | exact (h.less).alloc _) (by assumption)).mono ?_; rintro e w' ⟨rfl, h⟩; have c3 := h.c3; have f3 := h.fz 3; have hsz := h.size; (try (obtain ⟨r0, r1, r2, r3, z0, z1, z2, z3⟩ := h.four; have hs4 := (Array.getElem?_eq_some_iff.1 h.head).1))) | (go_at_call 104; refine (accept_no ok _ (by first | exact h | exact h.drewN _ | exact h.hold _ | exact (h.hold _).drew | exact (h.hold _).drewN _ | exact h.drew | exact h.alloc _ | exact h.less | exact (h.alloc _).drewN _ | exact (h.less).alloc _) (by first | assumption | exact eq_false_of_ne_true (by assumption))).mono ?_; rintro e w' ⟨rfl, h⟩; have c3 := h.c3; have f3 := h.fz 3; have hsz := h.size; (try (obtain ⟨r0, r1, r2, r3, z0, z1, z2, z3⟩ := h.four; have hs4 := (Array.getElem?_eq_some_iff.1 h.head).1))) | (go_at_call 101; refine (deeper_any ok (by first | exact h | exact h.drewN _ | exact h.hold _ | exact (h.hold _).drew | exact (h.hold _).drewN _ | exact h.drew | exact h.alloc _ | exact h.less | exact (h.alloc _).drewN _ | exact (h.less).alloc _)).mono ?_; rintro e w' ⟨rfl, h⟩; have c3 := h.c3; have f3 := h.fz 3; have hsz := h.size; (try (obtain ⟨r0, r1, r2, r3, z0, z1, z2, z3⟩ := h.four; have hs4 := (Array.getElem?_eq_some_iff.1 h.head).1))) | (go_at_call 107; refine (must_any ok _ (by decide) (by first | exact h | exact h.drewN _ | exact h.hold _ | exact (h.hold _).drew | exact (h.hold _).drewN _ | exact h.drew | exact h.alloc _ | exact h.less | exact (h.alloc _).drewN _ | exact (h.less).alloc _)).mono ?_; rintro e w' ⟨rfl, h⟩; have c3 := h.c3; have f3 := h.fz 3; have hsz := h.size; (try (obtain ⟨r0, r1, r2, r3, z0, z1, z2, z3⟩ := h.four; have hs4 := (Array.getElem?_eq_some_iff.1 h.head).1))) | (go_at_call 135; refine (hN _ _ _ (by first | exact h | exact h.drewN _ | exact h.hold _ | exact (h.hold _).drew | exact (h.hold _).drewN _ | exact h.drew | exact h.alloc _ | exact h.less | exact (h.alloc _).drewN _ | exact (h.less).alloc _)).mono ?_; rintro e w' ⟨rfl, h⟩; have c3 := h.c3; have f3 := h.fz 3; have hsz := h.size; (try (obtain ⟨r0, r1, r2, r3, z0, z1, z2, z3⟩ := h.four; have hs4 := (Array.getElem?_eq_some_iff.1 h.head).1))) | (go_at_call 190; refine (C.last (by first | exact h | exact h.drewN _ | exact h.hold _ | exact (h.hold _).drew | exact (h.hold _).drewN _ | exact h.drew | exact h.alloc _ | exact h.less | exact (h.alloc _).drewN _ | exact (h.less).alloc _) (by assumption)).mono ?_; rintro e w' ⟨v, rfl, h⟩; have c3 := h.c3; have f3 := h.fz 3; have hsz := h.size; (try (obtain ⟨r0, r1, r2, r3, z0, z1, z2, z3⟩ := h.four; have hs4 := (Array.getElem?_eq_some_iff.1 h.head).1)); rcases h.top.shp with rfl | ⟨ty, u, rfl⟩) | (go_at_call 174; refine (C.cond (by first | exact h | exact h.drewN _ | exact h.hold _ | exact (h.hold _).drew | exact (h.hold _).drewN _ | exact h.drew | exact h.alloc _ | exact h.less | exact (h.alloc _).drewN _ | exact (h.less).alloc _) (by assumption)).mono ?_; rintro e w' ⟨v, rfl, h⟩; have c3 := h.c3; have f3 := h.fz 3; have hsz := h.size; (try (obtain ⟨r0, r1, r2, r3, z0, z1, z2, z3⟩ := h.four; have hs4 := (Array.getElem?_eq_some_iff.1 h.head).1)); rcases h.top.shp with rfl | ⟨ty, u, rfl⟩) | (go_at_call 192; refine (comparison_walk ok G tb hB (by first | exact h | exact h.drewN _ | exact h.hold _ | exact (h.hold _).drew | exact (h.hold _).drewN _ | exact h.drew | exact h.alloc _ | exact h.less | exact (h.alloc _).drewN _ | exact (h.less).alloc _) (by assumption)).mono ?_; rintro e w' ⟨v, rfl, h⟩; have c3 := h.c3; have f3 := h.fz 3; have hsz := h.size; (try (obtain ⟨r0, r1, r2, r3, z0, z1, z2, z3⟩ := h.four; have hs4 := (Array.getElem?_eq_some_iff.1 h.head).1)); rcases h.top.shp with rfl | ⟨ty, u, rfl⟩))
        all_goals go_ret
        all_goals exact ⟨_, rfl, h.drop⟩
end
end
section
theorem info85 : (Tryz.prog.info? 85).map (fun i => (i.zero, i.size, i.bytes)) = some (some .nilIface, 1, 16) := by kernel_rfl
def noHd : Hd := ⟨0, 0, 0, ⟨#[]⟩⟩
/-- A row of pieces, as a piece: its value, its pieces. -/
def rowV (v : Value) : Value := .iface 212 (.agg (noHd.cells ++ noHd.cells ++ [v]).toArray)
def rowP (ps : List P) : P := .node 212 noHd (.node 208 noHd [] :: ps)
section
variable {x : Cx} {Q : List (Value × P)} {L : List (Nat × Obj)} {s s' : T} {w w' : World}
theorem row_mk {v : Value} {ps : List P} {vs : List Value} (h : ORow x L w 85 1 v ps.length vs) (hp : ∀ (i : Nat) (y : Value) (p : P), vs[i]? = some y → ps[i]? = some p → IsPart x L w y p) : IsPart x L w (rowV v) (rowP ps) := .call noHd noHd h hp
theorem row_inv {v : Value} {ps : List P} (h : IsPart x L w (rowV v) (rowP ps)) : ∃ vs, ORow x L w 85 1 v ps.length vs ∧ ∀ (i : Nat) (y : Value) (p : P), vs[i]? = some y → ps[i]? = some p → IsPart x L w y p := by
  generalize e1 : rowV v = a at h
  generalize e2 : rowP ps = b at h
  cases h with
  | nil => cases e1
  | leaf ty hd =>
    simp [rowV, Hd.cells, noHd] at e1
  | one ty hd h1 =>
    simp [rowV, Hd.cells, noHd] at e1
  | two ty hd h1 h2 =>
    simp [rowV, Hd.cells, noHd] at e1
  | addr hd u h1 => simp [rowV] at e1
  | call hd u h1 h2 =>
    rename_i v' ps' vs'
    simp [rowV, Hd.cells, noHd] at e1
    simp [rowP, noHd] at e2
    obtain ⟨-, -, rfl⟩ := e2
    have : v = v' := by rcases e1 with ⟨_, _, _, _, _, _, _, _, h⟩; exact h
    subst this
    exact ⟨vs', h1, h2⟩
  | whl hd b h1 h2 h3 => simp [rowV] at e1
  | loop hd b h1 h2 h3 h4 => simp [rowV] at e1
  | ife hd bs h1 h2 h3 h4 => simp [rowV] at e1
  | func hd b r1 h1 r2 h2 r3 h3 => simp [rowV] at e1
/-- A block of one's own that was written, or was laid anew in its place. -/
theorem PT.regrow {g g' : Nat} {o o' : Obj} (h : PT x Q ((g, o) :: L) s w) (hg : w.grownBy w' (some g)) (hb' : w'.heap[g']? = some o') (hloc : g' = g ∨ g' = w.heap.size) : PT x Q ((g', o') :: L) s w' := by
  have hk := h.keep g o (by simp)
  have lt : ∀ {b : Nat} {ob : Obj}, w.heap[b]? = some ob → b < w.heap.size := fun hb => (Array.getElem?_eq_some_iff.1 hb).1
  have hnd := List.nodup_cons.1 h.nd
  have hL : ∀ b ob, (b, ob) ∈ L → b ≠ g := fun b ob hin e => hnd.1 (List.mem_map.2 ⟨_, hin, e⟩)
  refine ⟨h.le, (hg.block x.B h.size (by simp; omega)).trans h.blk, fun v p hm => (h.q v p hm).of_blocks fun b ob hbo hlt hn => ?_, fun b ob hm => ?_, ?_, ?_⟩
  · have hbg : b ≠ g := fun e => hn o (by subst e; simp)
    refine ⟨(hg.block b (lt hbo) (by simpa using hbg)).trans hbo, fun o2 hin => ?_⟩
    rcases List.mem_cons.1 hin with e | hin
    · cases e
      rcases hloc with e | e
      · exact hbg e
      · have := lt hbo
        omega
    · exact hn o2 (List.mem_cons_of_mem _ hin)
  · rcases List.mem_cons.1 hm with e | hm
    · cases e
      refine ⟨?_, hb'⟩
      rcases hloc with e | e
      · rw [e]; exact hk.1
      · rw [e]; exact h.size
    · have k := h.keep b ob (List.mem_cons_of_mem _ hm)
      exact ⟨k.1, (hg.block b (lt k.2) (by simpa using hL b ob hm)).trans k.2⟩
  · refine List.nodup_cons.2 ⟨fun hm => ?_, hnd.2⟩
    obtain ⟨⟨b, ob⟩, hm, e⟩ := List.mem_map.1 hm
    simp at e
    rcases hloc with e2 | e2
    · exact hL b ob hm (by omega)
    · have k := h.keep b ob (List.mem_cons_of_mem _ hm)
      have := lt k.2
      omega
  · exact ⟨hg.os.trans h.bel.os, hg.tape.trans h.bel.tape, hg.output.trans h.bel.output, Nat.le_trans h.bel.size hg.size, fun i hi => (hg.block i (by have := h.size; omega) (by simp; omega)).trans (h.bel.block i hi)⟩
theorem PT.newrow {g' : Nat} {o' : Obj} (h : PT x Q L s w) (hg : w.grownBy w' none) (hb' : w'.heap[g']? = some o') (hloc : g' = w.heap.size) : PT x Q ((g', o') :: L) s w' := by
  have lt : ∀ {b : Nat} {ob : Obj}, w.heap[b]? = some ob → b < w.heap.size := fun hb => (Array.getElem?_eq_some_iff.1 hb).1
  refine ⟨h.le, (hg.block x.B h.size (by simp)).trans h.blk, fun v p hm => (h.q v p hm).of_blocks fun b ob hbo hlt hn => ?_, fun b ob hm => ?_, ?_, ?_⟩
  · refine ⟨(hg.block b (lt hbo) (by simp)).trans hbo, fun o2 hin => ?_⟩
    rcases List.mem_cons.1 hin with e | hin
    · cases e
      have := lt hbo
      omega
    · exact hn o2 hin
  · rcases List.mem_cons.1 hm with e | hm
    · cases e
      exact ⟨by rw [hloc]; exact h.size, hb'⟩
    · have k := h.keep b ob hm
      exact ⟨k.1, (hg.block b (lt k.2) (by simp)).trans k.2⟩
  · refine List.nodup_cons.2 ⟨fun hm => ?_, h.nd⟩
    obtain ⟨⟨b, ob⟩, hm, e⟩ := List.mem_map.1 hm
    simp at e
    have k := h.keep b ob hm
    have := lt k.2
    omega
  · exact ⟨hg.os.trans h.bel.os, hg.tape.trans h.bel.tape, hg.output.trans h.bel.output, Nat.le_trans h.bel.size hg.size, fun i hi => (hg.block i (by have := h.size; omega) (by simp)).trans (h.bel.block i hi)⟩
/-- A row that grows: its pieces (Q') and its block (L') beside the others. -/
def Own (lv : Value) (ps : List P) (Q' : List (Value × P)) (L' : List (Nat × Obj)) : Prop :=
  ∃ a cap, lv = .slice a ps.length cap ∧ ((a = none ∧ cap = 0 ∧ ps = [] ∧ Q' = [] ∧ L' = []) ∨
    ∃ g cur vs, a = some ⟨g, 0, none⟩ ∧ L' = [(g, .cells cur 85)] ∧ Q' = vs.zip ps ∧ vs.length = ps.length ∧ ps.length ≤ cap ∧ cap ≤ maxLen ∧ cur.size = cap ∧ cur.toList.take ps.length = vs)
def Lst (x : Cx) (Q : List (Value × P)) (L : List (Nat × Obj)) (s : T) (lv : Value) (ps : List P) (w : World) : Prop := ∃ Q' L', PT x (Q' ++ Q) (L' ++ L) s w ∧ Own lv ps Q' L'
theorem Lst.nil (h : PT x Q L s w) : Lst x Q L s (.slice none 0 0) [] w := ⟨[], [], h, none, 0, rfl, .inl ⟨rfl, rfl, rfl, rfl, rfl⟩⟩
/-- A slice that is written out with one piece. -/
theorem Lst.one {v : Value} {p : P} (h : PT x ((v, p) :: Q) L s w) : Lst x Q L s (.slice (some ⟨w.heap.size, 0, none⟩) 1 1) [p] (w.alloc (.cells #[v] 85)) :=
  ⟨[(v, p)], [(w.heap.size, .cells #[v] 85)], h.hold _, _, 1, rfl, .inr ⟨w.heap.size, #[v], [v], rfl, rfl, rfl, rfl, Nat.le_refl _, by unfold maxLen; omega, rfl, rfl⟩⟩
/-- A row that is done is a piece. -/
theorem Lst.done {lv : Value} {ps : List P} (h : Lst x Q L s lv ps w) : PT x ((rowV lv, rowP ps) :: Q) L s w := by
  obtain ⟨Q', L', h, a, cap, rfl, ho⟩ := h
  rcases ho with ⟨rfl, rfl, rfl, rfl, rfl⟩ | ⟨g, cur, vs, rfl, rfl, rfl, hl, hc, hm, hsz, hx⟩
  · exact h.push (row_mk (vs := []) ⟨⟨rfl, .inl ⟨rfl, rfl⟩⟩, fun b o _ e => by cases e⟩ (by simp))
  · have hk := h.keep g _ (by simp : (g, Obj.cells cur 85) ∈ [(g, Obj.cells cur 85)] ++ L)
    have hnd := List.nodup_cons.1 h.nd
    have hd : PT x (vs.zip ps ++ Q) L s w := PT.drop h
    have hp : IsPart x L w (rowV (.slice (some ⟨g, 0, none⟩) ps.length cap)) (rowP ps) := by
      refine row_mk (vs := vs) ⟨⟨by simpa using hl, .inr ⟨g, cap, cur, rfl, hk.1, hk.2, hc, hm, by simpa using hsz, by simpa using hx⟩⟩, fun b o hin e => ?_⟩ (fun i y p hy hpi => hd.q y p ?_)
      · cases e
        exact hnd.1 (List.mem_map.2 ⟨_, hin, rfl⟩)
      · refine List.mem_append_left _ (List.mem_of_getElem? (i := i) ?_)
        rw [List.getElem?_zip_eq_some]
        exact ⟨hy, hpi⟩
    refine ⟨hd.le, hd.blk, fun u q hm => ?_, hd.keep, hd.nd, hd.bel⟩
    rcases List.mem_cons.1 hm with e | hm
    · cases e; exact hp
    · exact hd.q u q (List.mem_append_right _ hm)
end
/-- 'list = append(list, piece)', at the operation: the piece lies in the block that was laid last. -/
theorem wpList_append_part {x : Cx} {Q Q' : List (Value × P)} {L L' : List (Nat × Obj)} {s : T} {w : World} {ops : Array Oper} {rest : List Oper} {o : Oper} {a : Act} {K : Exit → Act → World → Prop}
    (hg : o.guard = none) (l y : Operand) (hop : o.op = Op.call { callee := Callee.builtin Builtin.append, args := #[l, y], argTypes := #[42, 42] })
    (lv v : Value) (ps : List P) (p : P) (h : PT x ((v, p) :: (Q' ++ Q)) (L' ++ L) s w) (ho : Own lv ps Q' L') (hn : ps.length < 1048576)
    (hl : a.eval l = lv) (hy : a.eval y = .slice (some ⟨w.heap.size, 0, none⟩) 1 1)
    (hK : ∀ lv' w', Lst x Q L s lv' (ps ++ [p]) w' → wpList Tryz.prog ops K rest (a.put o.dst lv') w') :
    wpList Tryz.prog ops K (o :: rest) a (w.alloc (.cells #[v] 85)) := by
  refine wpList_plain hg fun K' hK' => ?_
  obtain ⟨i0, hi, hz0, hz1, hz2⟩ := info_parts info85
  have h1 := h.alloc (.cells #[v] 85)
  have hsh := h.top.shp
  obtain ⟨a0, cap, rfl, ho⟩ := ho
  have hrow : ∃ vs, (w.alloc (.cells #[v] 85)).ownsRow (x.B + 1) 85 1 (.slice a0 ps.length cap) ps.length vs ∧ vs.length = ps.length ∧ Q' = vs.zip ps := by
    rcases ho with ⟨rfl, rfl, rfl, rfl, rfl⟩ | ⟨g, cur, vs, rfl, rfl, rfl, hvl, hc, hm, hsz, hx⟩
    · exact ⟨[], ⟨rfl, .inl ⟨rfl, rfl⟩⟩, rfl, rfl⟩
    · have hk := h1.keep g _ (by simp : (g, Obj.cells cur 85) ∈ [(g, Obj.cells cur 85)] ++ L)
      exact ⟨vs, ⟨by simpa using hvl, .inr ⟨g, cap, cur, rfl, hk.1, hk.2, hc, hm, by simpa using hsz, by simpa using hx⟩⟩, hvl, rfl⟩
  obtain ⟨vs, hrow, hvl, hQ⟩ := hrow
  obtain ⟨v', w', hrun, r1, r2, _, r3⟩ := run_append_own_at (P := Tryz.prog) (w.alloc (.cells #[v] 85)) (x.B + 1) 42 o.type 85 i0 .nilIface 1 16 Tryz.underlying42 hi hz0 hz1 hz2 rfl (by decide) (.slice a0 ps.length cap) ps.length vs hrow ⟨w.heap.size, 0, none⟩ 1 1 [v] rfl
    (by intro j u hu; match j, hu with | 0, hu => (simp at hu; subst hu; exact cell_of (one_first _ _) rfl)) (by intro u hu; simp at hu; subst hu; rcases hsh with rfl | ⟨ty, z, rfl⟩ <;> rfl) (by unfold maxLen; omega) (by omega) (by have := h.size; simp; omega)
  have hfin : Lst x Q L s v' (ps ++ [p]) w' := by
    rcases r1.2 with ⟨_, e0⟩ | ⟨g', cap', cur', rfl, hb', hh', hc', hm', hsz', hx'⟩
    · omega
    have hP : PT x ((v, p) :: (Q' ++ Q)) ((g', .cells cur' 85) :: L) s w' := by
      rcases ho with ⟨rfl, rfl, rfl, rfl, rfl⟩ | ⟨g, cur, vs2, rfl, rfl, rfl, hvl2, hc, hm, hsz, hx⟩
      · exact PT.newrow (L := L) h1 r2 hh' (by rcases r3 with r3 | r3 <;> simp [Value.ownBlock] at r3; simpa using r3)
      · exact PT.regrow (L := L) h1 r2 hh' (by rcases r3 with r3 | r3 <;> simp [Value.ownBlock] at r3; (· exact .inl r3); (· exact .inr (by simpa using r3)))
    refine ⟨(vs ++ [v]).zip (ps ++ [p]), [(g', .cells cur' 85)], ?_, _, cap', by simp, .inr ⟨g', cur', vs ++ [v], rfl, rfl, rfl, by simp [hvl], by simpa using hc', hm', by simpa using hsz', by simpa using hx'⟩⟩
    refine ⟨hP.le, hP.blk, fun u q hm2 => hP.q u q ?_, hP.keep, hP.nd, hP.bel⟩
    rw [List.zip_append hvl] at hm2
    subst hQ
    simp at hm2 ⊢
    rcases hm2 with hm2 | hm2 | hm2
    · exact .inr (.inl hm2)
    · exact .inl hm2
    · exact .inr (.inr hm2)
  unfold Oper.wp
  simp [execOp, hop, resolve, invoke, builtin, hl, hy, hrun, Result.andThen]
  exact hK' _ _ (hK v' w' hfin)
end
def nNode : String := String.append (Rows.fnExactParseTreeRow.func.take 19).toString "impl.node"
def nBelow : String := String.append (Rows.fnExactParseTreeRow.func.take 19).toString "impl.below"
theorem mn130 {nm : String} (h : nm = nNode) (a0 a1 a2 a3 : Value) (w : World) : (method 386 130 (.agg #[a0, a1, a2, a3]) nm).run Tryz.prog w = .ok (211, .agg #[a0, a1, a2, a3]) w := by subst h; kernel_rfl
theorem mb130 {nm : String} (h : nm = nBelow) (a0 a1 a2 a3 : Value) (w : World) : (method 386 130 (.agg #[a0, a1, a2, a3]) nm).run Tryz.prog w = .ok (221, .agg #[a0, a1, a2, a3]) w := by subst h; kernel_rfl
theorem mn132 {nm : String} (h : nm = nNode) (a0 a1 a2 a3 : Value) (w : World) : (method 386 132 (.agg #[a0, a1, a2, a3]) nm).run Tryz.prog w = .ok (211, .agg #[a0, a1, a2, a3]) w := by subst h; kernel_rfl
theorem mb132 {nm : String} (h : nm = nBelow) (a0 a1 a2 a3 : Value) (w : World) : (method 386 132 (.agg #[a0, a1, a2, a3]) nm).run Tryz.prog w = .ok (221, .agg #[a0, a1, a2, a3]) w := by subst h; kernel_rfl
theorem mn133 {nm : String} (h : nm = nNode) (a0 a1 a2 a3 : Value) (w : World) : (method 386 133 (.agg #[a0, a1, a2, a3]) nm).run Tryz.prog w = .ok (211, .agg #[a0, a1, a2, a3]) w := by subst h; kernel_rfl
theorem mb133 {nm : String} (h : nm = nBelow) (a0 a1 a2 a3 : Value) (w : World) : (method 386 133 (.agg #[a0, a1, a2, a3]) nm).run Tryz.prog w = .ok (221, .agg #[a0, a1, a2, a3]) w := by subst h; kernel_rfl
theorem mn199 {nm : String} (h : nm = nNode) (a0 a1 a2 a3 : Value) (w : World) : (method 386 199 (.agg #[a0, a1, a2, a3]) nm).run Tryz.prog w = .ok (211, .agg #[a0, a1, a2, a3]) w := by subst h; kernel_rfl
theorem mb199 {nm : String} (h : nm = nBelow) (a0 a1 a2 a3 : Value) (w : World) : (method 386 199 (.agg #[a0, a1, a2, a3]) nm).run Tryz.prog w = .ok (221, .agg #[a0, a1, a2, a3]) w := by subst h; kernel_rfl
theorem mn208 {nm : String} (h : nm = nNode) (a0 a1 a2 a3 : Value) (w : World) : (method 386 208 (.agg #[a0, a1, a2, a3]) nm).run Tryz.prog w = .ok (211, .agg #[a0, a1, a2, a3]) w := by subst h; kernel_rfl
theorem mb208 {nm : String} (h : nm = nBelow) (a0 a1 a2 a3 : Value) (w : World) : (method 386 208 (.agg #[a0, a1, a2, a3]) nm).run Tryz.prog w = .ok (221, .agg #[a0, a1, a2, a3]) w := by subst h; kernel_rfl
theorem mn198 {nm : String} (h : nm = nNode) (a0 a1 a2 a3 : Value) (w : World) : (method 386 198 (.agg #[a0, a1, a2, a3]) nm).run Tryz.prog w = .ok (211, .agg #[a0, a1, a2, a3]) w := by subst h; kernel_rfl
theorem mb198 {nm : String} (h : nm = nBelow) (a0 a1 a2 a3 : Value) (w : World) : (method 386 198 (.agg #[a0, a1, a2, a3]) nm).run Tryz.prog w = .ok (221, .agg #[a0, a1, a2, a3]) w := by subst h; kernel_rfl
theorem mn200 {nm : String} (h : nm = nNode) (a0 a1 a2 a3 : Value) (w : World) : (method 386 200 (.agg #[a0, a1, a2, a3]) nm).run Tryz.prog w = .ok (211, .agg #[a0, a1, a2, a3]) w := by subst h; kernel_rfl
theorem mb200 {nm : String} (h : nm = nBelow) (a0 a1 a2 a3 : Value) (w : World) : (method 386 200 (.agg #[a0, a1, a2, a3]) nm).run Tryz.prog w = .ok (221, .agg #[a0, a1, a2, a3]) w := by subst h; kernel_rfl
theorem mn201 {nm : String} (h : nm = nNode) (a0 a1 a2 a3 : Value) (w : World) : (method 386 201 (.agg #[a0, a1, a2, a3]) nm).run Tryz.prog w = .ok (211, .agg #[a0, a1, a2, a3]) w := by subst h; kernel_rfl
theorem mb201 {nm : String} (h : nm = nBelow) (a0 a1 a2 a3 : Value) (w : World) : (method 386 201 (.agg #[a0, a1, a2, a3]) nm).run Tryz.prog w = .ok (221, .agg #[a0, a1, a2, a3]) w := by subst h; kernel_rfl
theorem mn203 {nm : String} (h : nm = nNode) (a0 a1 a2 a3 : Value) (w : World) : (method 386 203 (.agg #[a0, a1, a2, a3]) nm).run Tryz.prog w = .ok (211, .agg #[a0, a1, a2, a3]) w := by subst h; kernel_rfl
theorem mb203 {nm : String} (h : nm = nBelow) (a0 a1 a2 a3 : Value) (w : World) : (method 386 203 (.agg #[a0, a1, a2, a3]) nm).run Tryz.prog w = .ok (221, .agg #[a0, a1, a2, a3]) w := by subst h; kernel_rfl
theorem mn193 {nm : String} (h : nm = nNode) (a0 a1 a2 a3 : Value) (w : World) : (method 386 193 (.agg #[a0, a1, a2, a3]) nm).run Tryz.prog w = .ok (211, .agg #[a0, a1, a2, a3]) w := by subst h; kernel_rfl
theorem mb193 {nm : String} (h : nm = nBelow) (a0 a1 a2 a3 : Value) (w : World) : (method 386 193 (.agg #[a0, a1, a2, a3]) nm).run Tryz.prog w = .ok (221, .agg #[a0, a1, a2, a3]) w := by subst h; kernel_rfl
theorem mn216 {nm : String} (h : nm = nNode) (a0 a1 a2 a3 : Value) (w : World) : (method 386 216 (.agg #[a0, a1, a2, a3]) nm).run Tryz.prog w = .ok (211, .agg #[a0, a1, a2, a3]) w := by subst h; kernel_rfl
theorem mb216 {nm : String} (h : nm = nBelow) (a0 a1 a2 a3 : Value) (w : World) : (method 386 216 (.agg #[a0, a1, a2, a3]) nm).run Tryz.prog w = .ok (221, .agg #[a0, a1, a2, a3]) w := by subst h; kernel_rfl
theorem mn219 {nm : String} (h : nm = nNode) (a0 a1 a2 a3 : Value) (w : World) : (method 386 219 (.agg #[a0, a1, a2, a3]) nm).run Tryz.prog w = .ok (211, .agg #[a0, a1, a2, a3]) w := by subst h; kernel_rfl
theorem mb219 {nm : String} (h : nm = nBelow) (a0 a1 a2 a3 : Value) (w : World) : (method 386 219 (.agg #[a0, a1, a2, a3]) nm).run Tryz.prog w = .ok (221, .agg #[a0, a1, a2, a3]) w := by subst h; kernel_rfl
theorem mn202 {nm : String} (h : nm = nNode) (a0 a1 a2 a3 a4 : Value) (w : World) : (method 386 202 (.agg #[a0, a1, a2, a3, a4]) nm).run Tryz.prog w = .ok (211, .agg #[a0, a1, a2, a3]) w := by subst h; kernel_rfl
theorem mb202 {nm : String} (h : nm = nBelow) (a0 a1 a2 a3 a4 : Value) (w : World) : (method 386 202 (.agg #[a0, a1, a2, a3, a4]) nm).run Tryz.prog w = .ok (228, .agg #[a0, a1, a2, a3, a4]) w := by subst h; kernel_rfl
theorem mn164 {nm : String} (h : nm = nNode) (a0 a1 a2 a3 a4 : Value) (w : World) : (method 386 164 (.agg #[a0, a1, a2, a3, a4]) nm).run Tryz.prog w = .ok (211, .agg #[a0, a1, a2, a3]) w := by subst h; kernel_rfl
theorem mb164 {nm : String} (h : nm = nBelow) (a0 a1 a2 a3 a4 : Value) (w : World) : (method 386 164 (.agg #[a0, a1, a2, a3, a4]) nm).run Tryz.prog w = .ok (229, .agg #[a0, a1, a2, a3, a4]) w := by subst h; kernel_rfl
theorem mn194 {nm : String} (h : nm = nNode) (a0 a1 a2 a3 a4 : Value) (w : World) : (method 386 194 (.agg #[a0, a1, a2, a3, a4]) nm).run Tryz.prog w = .ok (211, .agg #[a0, a1, a2, a3]) w := by subst h; kernel_rfl
theorem mb194 {nm : String} (h : nm = nBelow) (a0 a1 a2 a3 a4 : Value) (w : World) : (method 386 194 (.agg #[a0, a1, a2, a3, a4]) nm).run Tryz.prog w = .ok (228, .agg #[a0, a1, a2, a3, a4]) w := by subst h; kernel_rfl
theorem mn207 {nm : String} (h : nm = nNode) (a0 a1 a2 a3 a4 : Value) (w : World) : (method 386 207 (.agg #[a0, a1, a2, a3, a4]) nm).run Tryz.prog w = .ok (211, .agg #[a0, a1, a2, a3]) w := by subst h; kernel_rfl
theorem mb207 {nm : String} (h : nm = nBelow) (a0 a1 a2 a3 a4 : Value) (w : World) : (method 386 207 (.agg #[a0, a1, a2, a3, a4]) nm).run Tryz.prog w = .ok (228, .agg #[a0, a1, a2, a3, a4]) w := by subst h; kernel_rfl
theorem mn213 {nm : String} (h : nm = nNode) (a0 a1 a2 a3 a4 : Value) (w : World) : (method 386 213 (.agg #[a0, a1, a2, a3, a4]) nm).run Tryz.prog w = .ok (211, .agg #[a0, a1, a2, a3]) w := by subst h; kernel_rfl
theorem mb213 {nm : String} (h : nm = nBelow) (a0 a1 a2 a3 a4 : Value) (w : World) : (method 386 213 (.agg #[a0, a1, a2, a3, a4]) nm).run Tryz.prog w = .ok (228, .agg #[a0, a1, a2, a3, a4]) w := by subst h; kernel_rfl
theorem mn215 {nm : String} (h : nm = nNode) (a0 a1 a2 a3 a4 : Value) (w : World) : (method 386 215 (.agg #[a0, a1, a2, a3, a4]) nm).run Tryz.prog w = .ok (211, .agg #[a0, a1, a2, a3]) w := by subst h; kernel_rfl
theorem mb215 {nm : String} (h : nm = nBelow) (a0 a1 a2 a3 a4 : Value) (w : World) : (method 386 215 (.agg #[a0, a1, a2, a3, a4]) nm).run Tryz.prog w = .ok (228, .agg #[a0, a1, a2, a3, a4]) w := by subst h; kernel_rfl
theorem mn217 {nm : String} (h : nm = nNode) (a0 a1 a2 a3 a4 : Value) (w : World) : (method 386 217 (.agg #[a0, a1, a2, a3, a4]) nm).run Tryz.prog w = .ok (211, .agg #[a0, a1, a2, a3]) w := by subst h; kernel_rfl
theorem mb217 {nm : String} (h : nm = nBelow) (a0 a1 a2 a3 a4 : Value) (w : World) : (method 386 217 (.agg #[a0, a1, a2, a3, a4]) nm).run Tryz.prog w = .ok (228, .agg #[a0, a1, a2, a3, a4]) w := by subst h; kernel_rfl
theorem mn218 {nm : String} (h : nm = nNode) (a0 a1 a2 a3 a4 : Value) (w : World) : (method 386 218 (.agg #[a0, a1, a2, a3, a4]) nm).run Tryz.prog w = .ok (211, .agg #[a0, a1, a2, a3]) w := by subst h; kernel_rfl
theorem mb218 {nm : String} (h : nm = nBelow) (a0 a1 a2 a3 a4 : Value) (w : World) : (method 386 218 (.agg #[a0, a1, a2, a3, a4]) nm).run Tryz.prog w = .ok (228, .agg #[a0, a1, a2, a3, a4]) w := by subst h; kernel_rfl
theorem mn220 {nm : String} (h : nm = nNode) (a0 a1 a2 a3 a4 : Value) (w : World) : (method 386 220 (.agg #[a0, a1, a2, a3, a4]) nm).run Tryz.prog w = .ok (211, .agg #[a0, a1, a2, a3]) w := by subst h; kernel_rfl
theorem mb220 {nm : String} (h : nm = nBelow) (a0 a1 a2 a3 a4 : Value) (w : World) : (method 386 220 (.agg #[a0, a1, a2, a3, a4]) nm).run Tryz.prog w = .ok (228, .agg #[a0, a1, a2, a3, a4]) w := by subst h; kernel_rfl
theorem mn169 {nm : String} (h : nm = nNode) (a0 a1 a2 a3 a4 a5 : Value) (w : World) : (method 386 169 (.agg #[a0, a1, a2, a3, a4, a5]) nm).run Tryz.prog w = .ok (211, .agg #[a0, a1, a2, a3]) w := by subst h; kernel_rfl
theorem mb169 {nm : String} (h : nm = nBelow) (a0 a1 a2 a3 a4 a5 : Value) (w : World) : (method 386 169 (.agg #[a0, a1, a2, a3, a4, a5]) nm).run Tryz.prog w = .ok (230, .agg #[a0, a1, a2, a3, a4, a5]) w := by subst h; kernel_rfl
theorem mn191 {nm : String} (h : nm = nNode) (a0 a1 a2 a3 a4 a5 : Value) (w : World) : (method 386 191 (.agg #[a0, a1, a2, a3, a4, a5]) nm).run Tryz.prog w = .ok (211, .agg #[a0, a1, a2, a3]) w := by subst h; kernel_rfl
theorem mb191 {nm : String} (h : nm = nBelow) (a0 a1 a2 a3 a4 a5 : Value) (w : World) : (method 386 191 (.agg #[a0, a1, a2, a3, a4, a5]) nm).run Tryz.prog w = .ok (230, .agg #[a0, a1, a2, a3, a4, a5]) w := by subst h; kernel_rfl
theorem mn196 {nm : String} (h : nm = nNode) (a0 a1 a2 a3 a4 a5 : Value) (w : World) : (method 386 196 (.agg #[a0, a1, a2, a3, a4, a5]) nm).run Tryz.prog w = .ok (211, .agg #[a0, a1, a2, a3]) w := by subst h; kernel_rfl
theorem mb196 {nm : String} (h : nm = nBelow) (a0 a1 a2 a3 a4 a5 : Value) (w : World) : (method 386 196 (.agg #[a0, a1, a2, a3, a4, a5]) nm).run Tryz.prog w = .ok (230, .agg #[a0, a1, a2, a3, a4, a5]) w := by subst h; kernel_rfl
theorem mn197 {nm : String} (h : nm = nNode) (a0 a1 a2 a3 a4 a5 : Value) (w : World) : (method 386 197 (.agg #[a0, a1, a2, a3, a4, a5]) nm).run Tryz.prog w = .ok (211, .agg #[a0, a1, a2, a3]) w := by subst h; kernel_rfl
theorem mb197 {nm : String} (h : nm = nBelow) (a0 a1 a2 a3 a4 a5 : Value) (w : World) : (method 386 197 (.agg #[a0, a1, a2, a3, a4, a5]) nm).run Tryz.prog w = .ok (230, .agg #[a0, a1, a2, a3, a4, a5]) w := by subst h; kernel_rfl
theorem mn214 {nm : String} (h : nm = nNode) (a0 a1 a2 a3 a4 a5 : Value) (w : World) : (method 386 214 (.agg #[a0, a1, a2, a3, a4, a5]) nm).run Tryz.prog w = .ok (211, .agg #[a0, a1, a2, a3]) w := by subst h; kernel_rfl
theorem mb214 {nm : String} (h : nm = nBelow) (a0 a1 a2 a3 a4 a5 : Value) (w : World) : (method 386 214 (.agg #[a0, a1, a2, a3, a4, a5]) nm).run Tryz.prog w = .ok (230, .agg #[a0, a1, a2, a3, a4, a5]) w := by subst h; kernel_rfl
theorem mn210 {nm : String} (h : nm = nNode) (a0 a1 a2 a3 a4 a5 a6 a7 a8 : Value) (w : World) : (method 386 210 (.agg #[a0, a1, a2, a3, a4, a5, a6, a7, a8]) nm).run Tryz.prog w = .ok (211, .agg #[a0, a1, a2, a3]) w := by subst h; kernel_rfl
theorem mb210 {nm : String} (h : nm = nBelow) (a0 a1 a2 a3 a4 a5 a6 a7 a8 : Value) (w : World) : (method 386 210 (.agg #[a0, a1, a2, a3, a4, a5, a6, a7, a8]) nm).run Tryz.prog w = .ok (242, .agg #[a0, a1, a2, a3, a4, a5, a6, a7, a8]) w := by subst h; kernel_rfl
theorem mn212 {nm : String} (h : nm = nNode) (a0 a1 a2 a3 a4 a5 a6 a7 a8 : Value) (w : World) : (method 386 212 (.agg #[a0, a1, a2, a3, a4, a5, a6, a7, a8]) nm).run Tryz.prog w = .ok (211, .agg #[a0, a1, a2, a3]) w := by subst h; kernel_rfl
theorem mb212 {nm : String} (h : nm = nBelow) (a0 a1 a2 a3 a4 a5 a6 a7 a8 : Value) (w : World) : (method 386 212 (.agg #[a0, a1, a2, a3, a4, a5, a6, a7, a8]) nm).run Tryz.prog w = .ok (243, .agg #[a0, a1, a2, a3, a4, a5, a6, a7, a8]) w := by subst h; kernel_rfl
theorem mn144 {nm : String} (h : nm = nNode) (a0 a1 a2 a3 a4 a5 a6 a7 a8 a9 : Value) (w : World) : (method 386 144 (.agg #[a0, a1, a2, a3, a4, a5, a6, a7, a8, a9]) nm).run Tryz.prog w = .ok (211, .agg #[a0, a1, a2, a3]) w := by subst h; kernel_rfl
theorem mb144 {nm : String} (h : nm = nBelow) (a0 a1 a2 a3 a4 a5 a6 a7 a8 a9 : Value) (w : World) : (method 386 144 (.agg #[a0, a1, a2, a3, a4, a5, a6, a7, a8, a9]) nm).run Tryz.prog w = .ok (226, .agg #[a0, a1, a2, a3, a4, a5, a6, a7, a8, a9]) w := by subst h; kernel_rfl
theorem mn146 {nm : String} (h : nm = nNode) (a0 a1 a2 a3 a4 a5 a6 a7 a8 a9 a10 : Value) (w : World) : (method 386 146 (.agg #[a0, a1, a2, a3, a4, a5, a6, a7, a8, a9, a10]) nm).run Tryz.prog w = .ok (211, .agg #[a0, a1, a2, a3]) w := by subst h; kernel_rfl
theorem mb146 {nm : String} (h : nm = nBelow) (a0 a1 a2 a3 a4 a5 a6 a7 a8 a9 a10 : Value) (w : World) : (method 386 146 (.agg #[a0, a1, a2, a3, a4, a5, a6, a7, a8, a9, a10]) nm).run Tryz.prog w = .ok (227, .agg #[a0, a1, a2, a3, a4, a5, a6, a7, a8, a9, a10]) w := by subst h; kernel_rfl
theorem mn141 {nm : String} (h : nm = nNode) (a0 a1 a2 a3 a4 a5 : Value) (w : World) : (method 386 141 (.agg #[a0, a1, a2, a3, a4, a5]) nm).run Tryz.prog w = .ok (211, .agg #[a0, a1, a2, a3]) w := by subst h; kernel_rfl
theorem mb141 {nm : String} (h : nm = nBelow) (a0 a1 a2 a3 a4 a5 : Value) (w : World) : (method 386 141 (.agg #[a0, a1, a2, a3, a4, a5]) nm).run Tryz.prog w = .ok (225, .agg #[a0, a1, a2, a3, a4, a5]) w := by subst h; kernel_rfl
theorem mn136 {nm : String} (h : nm = nNode) (a0 a1 a2 a3 a4 a5 a6 a7 a8 a9 a10 : Value) (w : World) : (method 386 136 (.agg #[a0, a1, a2, a3, a4, a5, a6, a7, a8, a9, a10]) nm).run Tryz.prog w = .ok (211, .agg #[a0, a1, a2, a3]) w := by subst h; kernel_rfl
theorem mb136 {nm : String} (h : nm = nBelow) (a0 a1 a2 a3 a4 a5 a6 a7 a8 a9 a10 : Value) (w : World) : (method 386 136 (.agg #[a0, a1, a2, a3, a4, a5, a6, a7, a8, a9, a10]) nm).run Tryz.prog w = .ok (222, .agg #[a0, a1, a2, a3, a4, a5, a6, a7, a8, a9, a10]) w := by subst h; kernel_rfl
theorem mn134 {nm : String} (h : nm = nNode) (a0 a1 a2 a3 a4 : Value) (w : World) : (method 386 134 (.agg #[a0, a1, a2, a3, a4]) nm).run Tryz.prog w = .ok (211, .agg #[a0, a1, a2, a3]) w := by subst h; kernel_rfl
theorem mb134 {nm : String} (h : nm = nBelow) (a0 a1 a2 a3 a4 : Value) (w : World) : (method 386 134 (.agg #[a0, a1, a2, a3, a4]) nm).run Tryz.prog w = .ok (212, .agg #[a0, a1, a2, a3, a4]) w := by subst h; kernel_rfl
theorem mn46 {nm : String} (h : nm = nNode) (a0 a1 a2 a3 a4 : Value) (w : World) : (method 386 46 (.agg #[a0, a1, a2, a3, a4]) nm).run Tryz.prog w = .ok (211, .agg #[a0, a1, a2, a3]) w := by subst h; kernel_rfl
theorem mb46 {nm : String} (h : nm = nBelow) (a0 a1 a2 a3 a4 : Value) (w : World) : (method 386 46 (.agg #[a0, a1, a2, a3, a4]) nm).run Tryz.prog w = .ok (212, .agg #[a0, a1, a2, a3, a4]) w := by subst h; kernel_rfl
theorem at_new1 (w : World) (a b : Obj) : ((w.alloc a).alloc b).heap[w.heap.size + 1]? = some b := by
  have := one_first (w.alloc a) b
  simpa using this
theorem at_new2 (w : World) (a b c : Obj) : (((w.alloc a).alloc b).alloc c).heap[w.heap.size + 2]? = some c := by
  have := one_first ((w.alloc a).alloc b) c
  simpa using this
theorem below1 (w : World) (a : Obj) : Below w.heap.size w (w.alloc a) := (Below.refl _ _).alloc (Nat.le_refl _) _
theorem below2 (w : World) (a b : Obj) : Below w.heap.size w ((w.alloc a).alloc b) := ((Below.refl _ _).alloc (Nat.le_refl _) _).alloc (by simp) _
theorem below3 (w : World) (a b c : Obj) : Below w.heap.size w (((w.alloc a).alloc b).alloc c) := (((Below.refl _ _).alloc (Nat.le_refl _) _).alloc (by simp) _).alloc (by simp; omega) _
set_option maxRecDepth 100000 in
theorem node_any (k p n : Int) (m : ByteArray) (w : World) : Calls Tryz.prog 211 #[.agg #[.int .i64 k, .int .i64 p, .int .i64 n, .string m]] w fun e w' => e = .returned (.agg #[.int .i64 k, .int .i64 p, .int .i64 n, .string m, .slice none 0 0]) ∧ Below w.heap.size w w' := by
  go_enter Tryz.func211, Tryz.ntmps211
  go_wp2
  refine bodyPost_ret (results_cell1 rfl _ _ (w.heap.size + 1) 33 _ (0, 0) _ rfl (at_new1 _ _ _) Tryz.underlying33 rfl (by kernel_rfl)) rfl ?_
  exact ⟨rfl, below2 _ _ _⟩
/-- Pieces in a row. -/
def BRow (w : World) (v : Value) (vs : List Value) : Prop := w.ownsRow 0 85 1 v vs.length vs
theorem BRow.nil (w : World) : BRow w (.slice none 0 0) [] := ⟨rfl, .inl ⟨rfl, rfl⟩⟩
theorem BRow.new {w : World} {g : Nat} {cs : Array Value} (h : w.heap[g]? = some (.cells cs 85)) (hn : cs.size ≤ maxLen) : BRow w (.slice (some ⟨g, 0, none⟩) cs.size cs.size) cs.toList := by
  refine ⟨by simp, .inr ⟨g, cs.size, cs, by simp, Nat.zero_le _, h, by simp, hn, by simp, ?_⟩⟩
  rw [List.take_of_length_le (by simp)]
set_option maxRecDepth 100000 in
theorem leafB_any (a0 a1 a2 a3 : Value) (w : World) : Calls Tryz.prog 221 #[.agg #[a0, a1, a2, a3]] w fun e w' => ∃ v, e = .returned v ∧ BRow w' v [] ∧ Below w.heap.size w w' := by
  go_enter Tryz.func221, Tryz.ntmps221
  go_wp2
  go_ret
  exact ⟨_, rfl, BRow.nil _, below1 _ _⟩
set_option maxRecDepth 100000 in
theorem oneB_any (t4 : Nat) (a0 a1 a2 a3 u4 : Value) (w : World) : Calls Tryz.prog 228 #[.agg #[a0, a1, a2, a3, .iface t4 u4]] w fun e w' => ∃ v, e = .returned v ∧ BRow w' v [.iface t4 u4] ∧ Below w.heap.size w w' := by
  go_enter Tryz.func228, Tryz.ntmps228
  go_wp2
  go_ret
  exact ⟨_, rfl, BRow.new (cs := #[.iface t4 u4]) (at_new1 _ _ _) (by unfold maxLen; simp), below2 _ _ _⟩
set_option maxRecDepth 100000 in
theorem twoB_any (t4 : Nat) (t5 : Nat) (a0 a1 a2 a3 u4 u5 : Value) (w : World) : Calls Tryz.prog 230 #[.agg #[a0, a1, a2, a3, .iface t4 u4, .iface t5 u5]] w fun e w' => ∃ v, e = .returned v ∧ BRow w' v [.iface t4 u4, .iface t5 u5] ∧ Below w.heap.size w w' := by
  go_enter Tryz.func230, Tryz.ntmps230
  go_wp2
  go_ret
  exact ⟨_, rfl, BRow.new (cs := #[.iface t4 u4, .iface t5 u5]) (at_new1 _ _ _) (by unfold maxLen; simp), below2 _ _ _⟩
set_option maxRecDepth 100000 in
theorem addrB_any (t8 : Nat) (a0 a1 a2 a3 a4 a5 a6 a7 u8 : Value) (w : World) : Calls Tryz.prog 242 #[.agg #[a0, a1, a2, a3, a4, a5, a6, a7, .iface t8 u8]] w fun e w' => ∃ v, e = .returned v ∧ BRow w' v [.iface 208 (.agg #[a4, a5, a6, a7]), .iface t8 u8] ∧ Below w.heap.size w w' := by
  go_enter Tryz.func242, Tryz.ntmps242
  go_wp2
  go_ret
  exact ⟨_, rfl, BRow.new (cs := #[.iface 208 (.agg #[a4, a5, a6, a7]), .iface t8 u8]) (at_new1 _ _ _) (by unfold maxLen; simp), below2 _ _ _⟩
set_option maxRecDepth 100000 in
theorem whlB_any (t4 : Nat) (a0 a1 a2 a3 u4 a5 a6 a7 a8 a9 : Value) (w : World) : Calls Tryz.prog 226 #[.agg #[a0, a1, a2, a3, .iface t4 u4, a5, a6, a7, a8, a9]] w fun e w' => ∃ v, e = .returned v ∧ BRow w' v [.iface t4 u4, .iface 134 (.agg #[a5, a6, a7, a8, a9])] ∧ Below w.heap.size w w' := by
  go_enter Tryz.func226, Tryz.ntmps226
  go_wp2
  go_ret
  exact ⟨_, rfl, BRow.new (cs := #[.iface t4 u4, .iface 134 (.agg #[a5, a6, a7, a8, a9])]) (at_new1 _ _ _) (by unfold maxLen; simp), below2 _ _ _⟩
set_option maxRecDepth 100000 in
theorem forB_any (t4 : Nat) (t5 : Nat) (a0 a1 a2 a3 u4 u5 a6 a7 a8 a9 a10 : Value) (w : World) : Calls Tryz.prog 227 #[.agg #[a0, a1, a2, a3, .iface t4 u4, .iface t5 u5, a6, a7, a8, a9, a10]] w fun e w' => ∃ v, e = .returned v ∧ BRow w' v [.iface t4 u4, .iface t5 u5, .iface 134 (.agg #[a6, a7, a8, a9, a10])] ∧ Below w.heap.size w w' := by
  go_enter Tryz.func227, Tryz.ntmps227
  go_wp2
  go_ret
  exact ⟨_, rfl, BRow.new (cs := #[.iface t4 u4, .iface t5 u5, .iface 134 (.agg #[a6, a7, a8, a9, a10])]) (at_new1 _ _ _) (by unfold maxLen; simp), below2 _ _ _⟩
set_option maxRecDepth 100000 in
theorem minusB_any (t4 : Nat) (a0 : Value) (p : Int) (a2 a3 u4 : Value) (w : World) : Calls Tryz.prog 229 #[.agg #[a0, .int .i64 p, a2, a3, .iface t4 u4]] w fun e w' => ∃ v, e = .returned v ∧ BRow w' v [.iface 200 (.agg #[.int .i64 24, .int .i64 p, .int .i64 0, .string ⟨#[]⟩]), .iface t4 u4] ∧ Below w.heap.size w w' := by
  go_enter Tryz.func229, Tryz.ntmps229
  go_wp2
  go_ret
  exact ⟨_, rfl, BRow.new (cs := #[.iface 200 (.agg #[.int .i64 24, .int .i64 p, .int .i64 0, .string ⟨#[]⟩]), .iface t4 u4]) (at_new2 _ _ _ _) (by unfold maxLen; simp), below3 _ _ _ _⟩
set_option maxRecDepth 100000 in
theorem listB_any (a0 a1 a2 a3 a4 : Value) (w : World) : Calls Tryz.prog 212 #[.agg #[a0, a1, a2, a3, a4]] w fun e w' => e = .returned a4 ∧ Below w.heap.size w w' := by
  go_enter Tryz.func212, Tryz.ntmps212
  go_wp2
  go_ret
  exact ⟨rfl, below1 _ _⟩
end Go.Proofs.YtjikjejfobnfnaaGreatDoor.imp
