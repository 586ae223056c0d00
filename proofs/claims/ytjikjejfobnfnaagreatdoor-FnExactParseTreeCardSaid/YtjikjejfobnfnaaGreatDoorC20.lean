/-
  The program's terms and conditions: the short ones.
-/
import Derived.Test.YtjikjejfobnfnaaGreatDoorC19
namespace Go.Proofs.YtjikjejfobnfnaaGreatDoor.imp
open Go.RowKit Go.Proofs.YtjikjejfobnfnaaGreatDoor.num Go.Proofs.YtjikjejfobnfnaaGreatDoor.lex Go.Proofs.YtjikjejfobnfnaaGreatDoor.par
set_option linter.unusedVariables false
section
def lastTermI (ts : List Tok) (fin : Int) (R : RecI) (s : T) : Option (P × T) :=
  match R (.level 1) s with
  | none => none
  | some (p, s1) => some (p, upT (mustT ts fin s1 ⟨#[59]⟩))
/-- Behind a term: the reader that stands at a comparison, or has failed. -/
def cmpT (ts : List Tok) (fin : Int) (s : T) : T := if cmpP (tokT ts fin s).text = 0 then failT ts fin s 6 else s
def comparisonI (ts : List Tok) (fin : Int) (R : RecI) (s : T) : Option (P × T) :=
  match R (.level 1) s with
  | none => none
  | some (p, s1) =>
    match R (.level 1) (upT (cmpT ts fin s1)) with
    | none => none
    | some (q, s2) => some (.node 191 ⟨30, (tokT ts fin (cmpT ts fin s1)).pos, cmpP (tokT ts fin s1).text, ⟨#[]⟩⟩ [p, q], s2)
def lastI (ts : List Tok) (fin : Int) (R : RecI) (s : T) : Option (P × T) :=
  if seesT ts fin s ⟨#[110, 111, 116]⟩ then
    match R .last (deeperT ts fin (upT s)) with
    | none => none
    | some (p, s1) => some (.node 194 ⟨33, (tokT ts fin s).pos, 0, ⟨#[]⟩⟩ [p], lessT s1)
  else if seesT ts fin s ⟨#[91]⟩ then
    match R .cond (deeperT ts fin (upT s)) with
    | none => none
    | some (p, s1) => some (p, lessT (upT (mustT ts fin s1 ⟨#[93]⟩)))
  else if seesT ts fin s ⟨#[110, 117, 108, 108]⟩ then some (.node 193 ⟨34, (tokT ts fin s).pos, 0, (tokT ts fin (mustK ts fin (upT s) 1)).text⟩ [], upT (mustK ts fin (upT s) 1))
  else comparisonI ts fin R s
/-- What the rules of conditions must do. -/
structure GoodC (x : Cx) (R : RecI) : Prop where
  last : ∀ {Q L s w p s'}, PT x Q L s w → R .last s = some (p, s') → Calls Tryz.prog 190 #[.pointer (some ⟨x.B, 0, none⟩)] w fun e w' => ∃ v, e = .returned v ∧ PT x ((v, p) :: Q) L s' w'
  both : ∀ {Q L s w p s'}, PT x Q L s w → R .both s = some (p, s') → Calls Tryz.prog 185 #[.pointer (some ⟨x.B, 0, none⟩)] w fun e w' => ∃ v, e = .returned v ∧ PT x ((v, p) :: Q) L s' w'
  cond : ∀ {Q L s w p s'}, PT x Q L s w → R .cond s = some (p, s') → Calls Tryz.prog 174 #[.pointer (some ⟨x.B, 0, none⟩)] w fun e w' => ∃ v, e = .returned v ∧ PT x ((v, p) :: Q) L s' w'
section
variable {x : Cx} {Q : List (Value × P)} {L : List (Nat × Obj)} {s s' : T} {w w' : World} {R : RecI} {p : P}
theorem PT.tb (h : PT x Q L s w) (tb : Tb x.W) (hB : 2 < x.B) : Tb w := by
  obtain ⟨t1, f1, e1⟩ := tb.ops
  obtain ⟨t2, f2, e2⟩ := tb.cmps
  exact ⟨⟨t1, f1, at_below h.bel e1 hB⟩, ⟨t2, f2, at_below h.bel e2 (by omega)⟩⟩
theorem IsPart.nil_eq {v : Value} (h : IsPart x L w v .nil) : v = .nilIface := by cases h; rfl
theorem IsPart.node_eq {v : Value} {ty : Nat} {hd : Hd} {ks : List P} (h : IsPart x L w v (.node ty hd ks)) : ∃ u, v = .iface ty u := by
  generalize e : P.node ty hd ks = q at h
  cases h <;> cases e <;> exact ⟨_, rfl⟩
theorem PT.c6 (h : PT x Q L s w) : w.cell? ⟨x.B, 6, none⟩ = some (lvl x.B 6) := cell_of h.blk rfl
set_option maxHeartbeats 1000000 in
set_option maxRecDepth 100000 in
theorem term_walk (G : GoodI x R) (h : PT x Q L s w) (hr : R (.level 1) s = some (p, s')) : Calls Tryz.prog 136 #[.pointer (some ⟨x.B, 0, none⟩)] w fun e w' => ∃ v, e = .returned v ∧ PT x ((v, p) :: Q) L s' w' := by
  have hsz := h.size
  have c6 := h.c6
  rw [lvl] at c6
  have hL := fun (w : World) (h : PT x Q L s w) => G.level (k := 5) (by omega) h hr
  go_enter Tryz.func136, Tryz.ntmps136
  go_wp2_with (first | (go_at_call 59; refine (hL _ h).mono ?_; rintro e w' ⟨v, rfl, h⟩; rcases h.top.shp with rfl | ⟨ty, u, rfl⟩))
  all_goals go_ret
  all_goals exact ⟨_, rfl, h⟩
set_option maxHeartbeats 1000000 in
set_option maxRecDepth 100000 in
theorem lastTerm_walk (ok : x.Ok) (G : GoodI x R) (h : PT x Q L s w) (hr : lastTermI x.ts x.fin R s = some (p, s')) : Calls Tryz.prog 177 #[.pointer (some ⟨x.B, 0, none⟩)] w fun e w' => ∃ v, e = .returned v ∧ PT x ((v, p) :: Q) L s' w' := by
  have hsz := h.size
  unfold lastTermI at hr
  split at hr
  · cases hr
  · cases hr
    go_enter Tryz.func177, Tryz.ntmps177
    go_wp2_with (first | (go_at_call 136; refine (G.term (by first | exact h | exact h.drewN _ | exact h.hold _ | exact (h.hold _).drew | exact (h.hold _).drewN _ | exact h.drew | exact h.alloc _ | exact h.less | exact (h.alloc _).drewN _ | exact (h.less).alloc _) (by assumption)).mono ?_; rintro e w' ⟨v, rfl, h⟩; have c3 := h.c3; have f3 := h.fz 3; have hsz := h.size; rcases h.top.shp with rfl | ⟨ty, u, rfl⟩) | (go_at_call 107; refine (must_any ok _ (by decide) (by first | exact h | exact h.drewN _ | exact h.hold _ | exact (h.hold _).drew | exact (h.hold _).drewN _ | exact h.drew | exact h.alloc _ | exact h.less | exact (h.alloc _).drewN _ | exact (h.less).alloc _)).mono ?_; rintro e w' ⟨rfl, h⟩; have c3 := h.c3; have f3 := h.fz 3; have hsz := h.size))
    all_goals go_ret
    all_goals exact ⟨_, rfl, h⟩
set_option maxHeartbeats 4000000 in
set_option maxRecDepth 100000 in
theorem comparison_walk (ok : x.Ok) (G : GoodI x R) (tb : Tb x.W) (hB : 2 < x.B) (h : PT x Q L s w) (hr : comparisonI x.ts x.fin R s = some (p, s')) : Calls Tryz.prog 192 #[.pointer (some ⟨x.B, 0, none⟩)] w fun e w' => ∃ v, e = .returned v ∧ PT x ((v, p) :: Q) L s' w' := by
  have hsz := h.size
  have g1 := fTok1
  unfold comparisonI at hr
  split at hr
  · cases hr
  · rename_i p1 s1 e1
    split at hr
    · cases hr
    · rename_i q s2 e2
      cases hr
      have hC := fun (w : World) (Q : List (Value × P)) (L : List (Nat × Obj)) (h : PT x Q L s1 w) => comparisonOf_any (tokT x.ts x.fin s1) w (h.tb tb hB)
      have hT := fun (w : World) (Q : List (Value × P)) (L : List (Nat × Obj)) (h : PT x Q L s1 w) => token_any ok h
      by_cases hc : cmpP (tokT x.ts x.fin s1).text = 0
      · have e3 : cmpT x.ts x.fin s1 = failT x.ts x.fin s1 6 := by simp [cmpT, hc]
        rw [e3] at e2 ⊢
        have hne : ¬ (failT x.ts x.fin s1 6).c = 0 := failT_c (by decide)
        have hP := fun (w : World) (Q : List (Value × P)) (L : List (Nat × Obj)) (h : PT x Q L (failT x.ts x.fin s1 6) w) => pass_any ok h (fun hc => absurd hc hne)
        rw [hc] at hC ⊢
        generalize tokT x.ts x.fin (failT x.ts x.fin s1 6) = t2 at *
        generalize tokT x.ts x.fin s1 = t at *
        obtain ⟨tk, tp, tx, tn⟩ := t
        obtain ⟨tk2, tp2, tx2, tn2⟩ := t2
        simp only [Tok.val] at hT hP hC
        clear hc
        cases q
        all_goals go_enter Tryz.func192, Tryz.ntmps192
        all_goals go_wp2_with (first | (go_at_call 136; refine (G.term (by first | exact h | exact h.drewN _ | exact h.hold _ | exact (h.hold _).drew | exact (h.hold _).drewN _ | exact h.drew | exact h.alloc _ | exact h.less | exact (h.alloc _).drewN _ | exact (h.less).alloc _) (by assumption)).mono ?_; rintro e w' ⟨v, rfl, h⟩; have c3 := h.c3; have f3 := h.fz 3; have hsz := h.size; rcases h.top.shp with rfl | ⟨ty, u, rfl⟩) | (go_at_call 60; refine (hT _ _ _ (by first | exact h | exact h.drewN _ | exact h.hold _ | exact (h.hold _).drew | exact (h.hold _).drewN _ | exact h.drew | exact h.alloc _ | exact h.less | exact (h.alloc _).drewN _ | exact (h.less).alloc _)).mono ?_; rintro e w' ⟨rfl, h⟩; have c3 := h.c3; have f3 := h.fz 3; have hsz := h.size) | (go_at_call 100; refine (hP _ _ _ (by first | exact h | exact h.drewN _ | exact h.hold _ | exact (h.hold _).drew | exact (h.hold _).drewN _ | exact h.drew | exact h.alloc _ | exact h.less | exact (h.alloc _).drewN _ | exact (h.less).alloc _)).mono ?_; rintro e w' ⟨rfl, h⟩; have c3 := h.c3; have f3 := h.fz 3; have hsz := h.size) | (go_at_call 109; refine (fail_any ok _ (by decide) (by first | exact h | exact h.drewN _ | exact h.hold _ | exact (h.hold _).drew | exact (h.hold _).drewN _ | exact h.drew | exact h.alloc _ | exact h.less | exact (h.alloc _).drewN _ | exact (h.less).alloc _)).mono ?_; rintro e w' ⟨rfl, h⟩; have c3 := h.c3; have f3 := h.fz 3; have hsz := h.size) | (go_at_call 193; refine (hC _ _ _ (by first | exact h | exact h.drewN _ | exact h.hold _ | exact (h.hold _).drew | exact (h.hold _).drewN _ | exact h.drew | exact h.alloc _ | exact h.less | exact (h.alloc _).drewN _ | exact (h.less).alloc _)).mono ?_; rintro e w' ⟨rfl, hb⟩; have h := h.grow hb; have hsz := h.size))
        all_goals go_region_with (first | (go_at_call 136; refine (G.term (h.hold _).drew e2).mono ?_; rintro e w' ⟨v, rfl, h⟩; obtain rfl := h.top.nil_eq; obtain ⟨y0, y1, y2, y3, _, _, _, _⟩ := h.four) | (go_at_call 136; refine (G.term (h.hold _).drew e2).mono ?_; rintro e w' ⟨v, rfl, h⟩; obtain ⟨u2, rfl⟩ := h.top.node_eq; obtain ⟨y0, y1, y2, y3, _, _, _, _⟩ := h.four) | fail)
        all_goals go_wp2
        all_goals go_ret
        all_goals exact ⟨_, rfl, h.drop.lose.lose.push (.two 191 ⟨30, tp2, 0, ⟨#[]⟩⟩ h.drop.lose.top h.drop.top)⟩
      · have e3 : cmpT x.ts x.fin s1 = s1 := by simp [cmpT, hc]
        rw [e3] at e2 ⊢
        have ho' := beq_some hc
        have hP := fun (w : World) (Q : List (Value × P)) (L : List (Nat × Obj)) (h : PT x Q L s1 w) => pass_any ok h (fun _ => (tok_at (s := s1) (ts := x.ts) (fin := x.fin) (.inr (fun e => hc (by rw [e]; rfl))) (fun hc => (h.le hc).1)).2)
        generalize tokT x.ts x.fin s1 = t at *
        obtain ⟨tk, tp, tx, tn⟩ := t
        simp only [Tok.val] at hT hP hC ho' hc ⊢
        generalize cmpP tx = cm at *
        cases q
        all_goals go_enter Tryz.func192, Tryz.ntmps192
        all_goals go_wp2_with (first | (go_at_call 136; refine (G.term (by first | exact h | exact h.drewN _ | exact h.hold _ | exact (h.hold _).drew | exact (h.hold _).drewN _ | exact h.drew | exact h.alloc _ | exact h.less | exact (h.alloc _).drewN _ | exact (h.less).alloc _) (by assumption)).mono ?_; rintro e w' ⟨v, rfl, h⟩; have c3 := h.c3; have f3 := h.fz 3; have hsz := h.size; rcases h.top.shp with rfl | ⟨ty, u, rfl⟩) | (go_at_call 60; refine (hT _ _ _ (by first | exact h | exact h.drewN _ | exact h.hold _ | exact (h.hold _).drew | exact (h.hold _).drewN _ | exact h.drew | exact h.alloc _ | exact h.less | exact (h.alloc _).drewN _ | exact (h.less).alloc _)).mono ?_; rintro e w' ⟨rfl, h⟩; have c3 := h.c3; have f3 := h.fz 3; have hsz := h.size) | (go_at_call 100; refine (hP _ _ _ (by first | exact h | exact h.drewN _ | exact h.hold _ | exact (h.hold _).drew | exact (h.hold _).drewN _ | exact h.drew | exact h.alloc _ | exact h.less | exact (h.alloc _).drewN _ | exact (h.less).alloc _)).mono ?_; rintro e w' ⟨rfl, h⟩; have c3 := h.c3; have f3 := h.fz 3; have hsz := h.size) | (go_at_call 109; refine (fail_any ok _ (by decide) (by first | exact h | exact h.drewN _ | exact h.hold _ | exact (h.hold _).drew | exact (h.hold _).drewN _ | exact h.drew | exact h.alloc _ | exact h.less | exact (h.alloc _).drewN _ | exact (h.less).alloc _)).mono ?_; rintro e w' ⟨rfl, h⟩; have c3 := h.c3; have f3 := h.fz 3; have hsz := h.size) | (go_at_call 193; refine (hC _ _ _ (by first | exact h | exact h.drewN _ | exact h.hold _ | exact (h.hold _).drew | exact (h.hold _).drewN _ | exact h.drew | exact h.alloc _ | exact h.less | exact (h.alloc _).drewN _ | exact (h.less).alloc _)).mono ?_; rintro e w' ⟨rfl, hb⟩; have h := h.grow hb; have hsz := h.size))
        all_goals go_region_with (first | (go_at_call 136; refine (G.term (h.hold _).drew e2).mono ?_; rintro e w' ⟨v, rfl, h⟩; obtain rfl := h.top.nil_eq; obtain ⟨y0, y1, y2, y3, _, _, _, _⟩ := h.four) | (go_at_call 136; refine (G.term (h.hold _).drew e2).mono ?_; rintro e w' ⟨v, rfl, h⟩; obtain ⟨u2, rfl⟩ := h.top.node_eq; obtain ⟨y0, y1, y2, y3, _, _, _, _⟩ := h.four) | fail)
        all_goals go_wp2
        all_goals go_ret
        all_goals exact ⟨_, rfl, h.drop.lose.lose.push (.two 191 ⟨30, tp, cm, ⟨#[]⟩⟩ h.drop.lose.top h.drop.top)⟩
end
end
end Go.Proofs.YtjikjejfobnfnaaGreatDoor.imp
