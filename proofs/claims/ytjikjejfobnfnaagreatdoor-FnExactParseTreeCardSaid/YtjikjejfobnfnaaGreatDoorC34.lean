/-
  The program's conditions: or.
-/
import Derived.Test.YtjikjejfobnfnaaGreatDoorC21
namespace Go.Proofs.YtjikjejfobnfnaaGreatDoor.imp
open Go.RowKit Go.Proofs.YtjikjejfobnfnaaGreatDoor.num Go.Proofs.YtjikjejfobnfnaaGreatDoor.lex Go.Proofs.YtjikjejfobnfnaaGreatDoor.par
set_option linter.unusedVariables false
section
def condLI (ts : List Tok) (fin : Int) (R : RecI) : Nat → P → T → Option (P × T)
  | 0, _, _ => none
  | f + 1, p, s =>
    if seesT ts fin s ⟨#[111, 114]⟩ then
      match R .both (upT s) with
      | none => none
      | some (q, s1) => condLI ts fin R f (.node 197 ⟨32, (tokT ts fin s).pos, 0, ⟨#[]⟩⟩ [p, q]) s1
    else some (p, s)
def condI (ts : List Tok) (fin : Int) (R : RecI) (s : T) : Option (P × T) :=
  match R .both s with
  | none => none
  | some (p, s1) => condLI ts fin R 1000 p s1
section
variable {x : Cx} {Q : List (Value × P)} {L : List (Nat × Obj)} {s s' : T} {w w' : World} {R : RecI} {p : P}
def CoI (x : Cx) (Q : List (Value × P)) (L : List (Nat × Obj)) (R : RecI) (p : P) (s' : T) (v : Value) (wr : World) (f : Nat) : Prop := ∃ (p1 : P) (s1 : T), PT x ((v, p1) :: Q) L s1 wr ∧ condLI x.ts x.fin R f p1 s1 = some (p, s')
set_option maxHeartbeats 16000000 in
set_option maxRecDepth 100000 in
theorem cond_walk (ok : x.Ok) (C : GoodC x R) (h : PT x Q L s w) (hr : condI x.ts x.fin R s = some (p, s')) : Calls Tryz.prog 174 #[.pointer (some ⟨x.B, 0, none⟩)] w fun e w' => ∃ v, e = .returned v ∧ PT x ((v, p) :: Q) L s' w' := by
  have hsz := h.size
  unfold condI at hr
  split at hr
  · cases hr
  · go_enter Tryz.func174, Tryz.ntmps174
    go_wp2_with (first | (go_at_call 185; refine (C.both (by first | exact h | exact h.drewN _ | exact h.hold _ | exact (h.hold _).drew | exact (h.hold _).drewN _ | exact h.drew | exact h.alloc _ | exact h.less | exact (h.alloc _).drewN _ | exact (h.less).alloc _) (by assumption)).mono ?_; rintro e w' ⟨v, rfl, h⟩; have hsz := h.size))
    go_loopw [3] (fun v wr => ∃ f, CoI x Q L R p s' v wr f) (fun v wr => least (CoI x Q L R p s' v wr))
    case atStart => exact ⟨1000, _, _, h, hr⟩
    case round =>
      clear h hr
      have hr := least_is hrel
      generalize hF : least (CoI x Q L R p s' _ wr) = F at hr
      obtain ⟨p1, s1, h, hl⟩ := hr
      cases F with
      | zero => simp [condLI] at hl
      | succ f =>
        rw [condLI] at hl
        have hM := hide (Nat.lt_of_lt_of_eq (Nat.lt_succ_self f) hF.symm)
        have hsz := h.size
        cases hi : seesT x.ts x.fin s1 ⟨#[111, 114]⟩ with
        | false =>
          rw [hi] at hl
          simp only [Bool.false_eq_true, if_false] at hl
          cases hl
          go_wp2_with (first | (go_at_call 98; refine (sees_yes ok _ (by first | exact h | exact h.drewN _ | exact h.hold _ | exact (h.hold _).drew | exact (h.hold _).drewN _ | exact h.drew | exact h.alloc _ | exact h.less | exact (h.alloc _).drewN _ | exact (h.less).alloc _) (by assumption)).mono ?_; rintro e w' ⟨rfl, h⟩; have hsz := h.size) | (go_at_call 98; refine (sees_no ok _ (by first | exact h | exact h.drewN _ | exact h.hold _ | exact (h.hold _).drew | exact (h.hold _).drewN _ | exact h.drew | exact h.alloc _ | exact h.less | exact (h.alloc _).drewN _ | exact (h.less).alloc _) (by first | assumption | exact eq_false_of_ne_true (by assumption))).mono ?_; rintro e w' ⟨rfl, h⟩; have hsz := h.size) | (go_at_call 100; refine (hP _ _ _ (by first | exact h | exact h.drewN _ | exact h.hold _ | exact (h.hold _).drew | exact (h.hold _).drewN _ | exact h.drew | exact h.alloc _ | exact h.less | exact (h.alloc _).drewN _ | exact (h.less).alloc _)).mono ?_; rintro e w' ⟨rfl, h⟩; have hsz := h.size))
          go_ret
          exact ⟨_, rfl, h⟩
        | true =>
          rw [hi] at hl
          simp only [if_true] at hl
          have hlt := sees_lt (X := ⟨#[111, 114]⟩) (by decide) (fun hc => (h.le hc).1) hi
          have hP := fun (w : World) (Q : List (Value × P)) (L : List (Nat × Obj)) (h : PT x Q L s1 w) => pass_any ok h (fun _ => hlt.2)
          have g1 := fTok1
          split at hl
          · cases hl
          · rename_i q s2 eq
            have hsp := h.top.shp
            generalize tokT x.ts x.fin s1 = t at *
            obtain ⟨tk, tp, tx, tn⟩ := t
            simp only [Tok.val] at hP hl
            rcases hsp with rfl | ⟨ty1, u1, rfl⟩
            all_goals go_wp2_with (first | (go_at_call 98; refine (sees_yes ok _ (by first | exact h | exact h.drewN _ | exact h.hold _ | exact (h.hold _).drew | exact (h.hold _).drewN _ | exact h.drew | exact h.alloc _ | exact h.less | exact (h.alloc _).drewN _ | exact (h.less).alloc _) (by assumption)).mono ?_; rintro e w' ⟨rfl, h⟩; have hsz := h.size) | (go_at_call 98; refine (sees_no ok _ (by first | exact h | exact h.drewN _ | exact h.hold _ | exact (h.hold _).drew | exact (h.hold _).drewN _ | exact h.drew | exact h.alloc _ | exact h.less | exact (h.alloc _).drewN _ | exact (h.less).alloc _) (by first | assumption | exact eq_false_of_ne_true (by assumption))).mono ?_; rintro e w' ⟨rfl, h⟩; have hsz := h.size) | (go_at_call 100; refine (hP _ _ _ (by first | exact h | exact h.drewN _ | exact h.hold _ | exact (h.hold _).drew | exact (h.hold _).drewN _ | exact h.drew | exact h.alloc _ | exact h.less | exact (h.alloc _).drewN _ | exact (h.less).alloc _)).mono ?_; rintro e w' ⟨rfl, h⟩; have hsz := h.size))
            all_goals cases q
            all_goals go_region_with (first | (go_at_call 185; refine (C.both (h.hold _).drew eq).mono ?_; rintro e w' ⟨v, rfl, h⟩; obtain rfl := h.top.nil_eq; obtain ⟨y0, y1, y2, y3, _, _, _, _⟩ := h.four) | (go_at_call 185; refine (C.both (h.hold _).drew eq).mono ?_; rintro e w' ⟨v, rfl, h⟩; obtain ⟨u2, rfl⟩ := h.top.node_eq; obtain ⟨y0, y1, y2, y3, _, _, _, _⟩ := h.four) | fail)
            all_goals go_wp2
            all_goals go_roundw
            all_goals first | exact ⟨f, _, _, h.drop.lose.lose.push (.two 197 ⟨32, tp, 0, ⟨#[]⟩⟩ h.drop.lose.top h.drop.top), hl⟩ | ((iterate 15 apply Exists.intro); exact ⟨⟨f, _, _, h.drop.lose.lose.push (.two 197 ⟨32, tp, 0, ⟨#[]⟩⟩ h.drop.lose.top h.drop.top), hl⟩, rfl⟩) | exact ⟨f, _, _, h.drop.lose.lose.push (.two 197 ⟨32, tp, 0, ⟨#[]⟩⟩ h.drop.lose.top h.drop.top), hl⟩ | exact Nat.lt_of_le_of_lt (least_le (show CoI x Q L R p s' _ _ f from ⟨_, _, h.drop.lose.lose.push (.two 197 ⟨32, tp, 0, ⟨#[]⟩⟩ h.drop.lose.top h.drop.top), hl⟩)) (unhide hM)
end
end
end Go.Proofs.YtjikjejfobnfnaaGreatDoor.imp
