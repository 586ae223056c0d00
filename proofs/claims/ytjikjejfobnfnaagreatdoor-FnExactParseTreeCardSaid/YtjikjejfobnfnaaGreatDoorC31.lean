/-
  The program's levels of terms.
-/
import Derived.Test.YtjikjejfobnfnaaGreatDoorC20
namespace Go.Proofs.YtjikjejfobnfnaaGreatDoor.imp
open Go.RowKit Go.Proofs.YtjikjejfobnfnaaGreatDoor.num Go.Proofs.YtjikjejfobnfnaaGreatDoor.lex Go.Proofs.YtjikjejfobnfnaaGreatDoor.par
set_option linter.unusedVariables false
section
section
variable {x : Cx} {Q : List (Value × P)} {L : List (Nat × Obj)} {s s' : T} {w w' : World} {R : RecI} {p : P}
theorem PT.three {b : Nat} {a0 a1 a2 : Value} {t : TypeId} (h : PT x Q ((b, .cells #[a0, a1, a2] t) :: L) s w) : w.cell? ⟨b, 0, none⟩ = some a0 ∧ w.cell? ⟨b, 1, none⟩ = some a1 ∧ w.cell? ⟨b, 2, none⟩ = some a2 :=
  have k := h.head
  ⟨cell_of k rfl, cell_of k rfl, cell_of k rfl⟩
def LvI (x : Cx) (Q : List (Value × P)) (L : List (Nat × Obj)) (R : RecI) (n : Nat) (p : P) (s' : T) (v : Value) (wr : World) (f : Nat) : Prop := ∃ (p1 : P) (s1 : T), PT x ((v, p1) :: Q) L s1 wr ∧ levelLI x.ts x.fin R n f p1 s1 = some (p, s')
set_option maxHeartbeats 16000000 in
set_option maxRecDepth 100000 in
theorem level_six (ok : x.Ok) (G : GoodI x R) (tb : Tb x.W) (hB : 2 < x.B) (h : PT x Q L s w) (hr : levelI x.ts x.fin R 6 s = some (p, s')) : Calls Tryz.prog 59 #[.agg #[.pointer (some ⟨x.B, 0, none⟩), .int .i64 6, lvl x.B 0]] w fun e w' => ∃ v, e = .returned v ∧ PT x ((v, p) :: Q) L s' w' := by
  have hsz := h.size
  have h := h.hold (.cells #[.pointer (some ⟨x.B, 0, none⟩), .int .i64 6, lvl x.B 0] 110)
  rw [lvl] at h ⊢
  unfold levelI nextI at hr
  rw [if_pos rfl] at hr
  split at hr
  · cases hr
  · go_enter Tryz.func59, Tryz.ntmps59
    go_wp2_with (first | (go_at_call 58; refine (G.unary (by first | exact h | exact h.drewN _ | exact h.hold _ | exact (h.hold _).drew | exact (h.hold _).drewN _ | exact h.drew | exact h.alloc _ | exact h.less | exact (h.alloc _).drewN _ | exact (h.less).alloc _) (by assumption)).mono ?_; rintro e w' ⟨v, rfl, h⟩; have hsz := h.size; obtain ⟨r0, r1, r2⟩ := h.three))
    all_goals go_loopw [3] (fun v wr => ∃ f, LvI x Q ((w.heap.size, .cells #[.pointer (some ⟨x.B, 0, none⟩), .int .i64 6, .func (Fn.func 58) #[.pointer (some ⟨x.B, 0, none⟩)] #[]] 110) :: L) R 6 p s' v wr f) (fun v wr => least (LvI x Q ((w.heap.size, .cells #[.pointer (some ⟨x.B, 0, none⟩), .int .i64 6, .func (Fn.func 58) #[.pointer (some ⟨x.B, 0, none⟩)] #[]] 110) :: L) R 6 p s' v wr))
    case atStart => exact ⟨1000, _, _, h, hr⟩
    case round =>
      clear h hr
      have hr := least_is hrel
      generalize hF : least (LvI x Q _ R 6 p s' _ wr) = F at hr
      obtain ⟨p1, s1, h, hl⟩ := hr
      cases F with
      | zero => simp [levelLI] at hl
      | succ f =>
        rw [levelLI] at hl
        have hM := hide (Nat.lt_of_lt_of_eq (Nat.lt_succ_self f) hF.symm)
        have hsz := h.size
        obtain ⟨r0, r1, r2⟩ := h.three
        have hO := fun (w : World) (Q : List (Value × P)) (L : List (Nat × Obj)) (h : PT x Q L s1 w) => operatorOf_any (tokT x.ts x.fin s1) 6 w (by omega) (by omega) (h.tb tb hB)
        have hT := fun (w : World) (Q : List (Value × P)) (L : List (Nat × Obj)) (h : PT x Q L s1 w) => token_any ok h
        by_cases ho : opP (tokT x.ts x.fin s1).text 6 = 0
        · rw [if_pos ho] at hl
          cases hl
          generalize tokT x.ts x.fin s' = t at *
          rw [ho] at hO
          go_wp2
          go_region_with (first | (go_at_call 60; refine (hT _ _ _ (by first | exact h | exact h.drewN _ | exact h.hold _ | exact (h.hold _).drew | exact (h.hold _).drewN _ | exact h.drew | exact h.alloc _ | exact h.less | exact (h.alloc _).drewN _ | exact (h.less).alloc _)).mono ?_; rintro e w' ⟨rfl, h⟩; have hsz := h.size; obtain ⟨r0, r1, r2⟩ := h.three) | (go_at_call 102; refine (hO _ _ _ (by first | exact h | exact h.drewN _ | exact h.hold _ | exact (h.hold _).drew | exact (h.hold _).drewN _ | exact h.drew | exact h.alloc _ | exact h.less | exact (h.alloc _).drewN _ | exact (h.less).alloc _)).mono ?_; rintro e w' ⟨rfl, hb⟩; have h := h.grow hb; have hsz := h.size; obtain ⟨r0, r1, r2⟩ := h.three) | fail)
          all_goals go_wp2
          all_goals go_ret
          all_goals exact ⟨_, rfl, h.drop⟩
        · rw [if_neg ho] at hl
          have ho' := beq_some ho
          have hlt := tok_at (s := s1) (ts := x.ts) (fin := x.fin) (.inr (fun e => ho (by rw [e]; rfl))) (fun hc => (h.le hc).1)
          have hP := fun (w : World) (Q : List (Value × P)) (L : List (Nat × Obj)) (h : PT x Q L s1 w) => pass_any ok h (fun _ => hlt.2)
          have g1 := fTok1
          unfold nextI at hl
          rw [if_pos rfl] at hl
          split at hl
          · cases hl
          · rename_i q s2 eq
            have hsp := h.top.shp
            generalize tokT x.ts x.fin s1 = t at *
            obtain ⟨tk, tp, tx, tn⟩ := t
            simp only [Tok.val] at hP hT hO ho ho' hl
            generalize opP tx 6 = o at *
            rcases hsp with rfl | ⟨ty1, u1, rfl⟩
            all_goals go_wp2
            all_goals go_region_with (first | (go_at_call 60; refine (hT _ _ _ (by first | exact h | exact h.drewN _ | exact h.hold _ | exact (h.hold _).drew | exact (h.hold _).drewN _ | exact h.drew | exact h.alloc _ | exact h.less | exact (h.alloc _).drewN _ | exact (h.less).alloc _)).mono ?_; rintro e w' ⟨rfl, h⟩; have hsz := h.size; obtain ⟨r0, r1, r2⟩ := h.three) | (go_at_call 102; refine (hO _ _ _ (by first | exact h | exact h.drewN _ | exact h.hold _ | exact (h.hold _).drew | exact (h.hold _).drewN _ | exact h.drew | exact h.alloc _ | exact h.less | exact (h.alloc _).drewN _ | exact (h.less).alloc _)).mono ?_; rintro e w' ⟨rfl, hb⟩; have h := h.grow hb; have hsz := h.size; obtain ⟨r0, r1, r2⟩ := h.three) | fail)
            all_goals go_wp2_with (first | (go_at_call 100; refine (hP _ _ _ (by first | exact h | exact h.drewN _ | exact h.hold _ | exact (h.hold _).drew | exact (h.hold _).drewN _ | exact h.drew | exact h.alloc _ | exact h.less | exact (h.alloc _).drewN _ | exact (h.less).alloc _)).mono ?_; rintro e w' ⟨rfl, h⟩; have hsz := h.size; obtain ⟨r0, r1, r2⟩ := h.three; have hsh := (Array.getElem?_eq_some_iff.1 h.head).1))
            all_goals cases q
            all_goals go_region_with (first | (go_at_call 58; refine (G.unary (h.hold _).drew eq).mono ?_; rintro e w' ⟨v, rfl, h⟩; obtain rfl := h.top.nil_eq; obtain ⟨y0, y1, y2, y3, _, _, _, _⟩ := h.four) | (go_at_call 58; refine (G.unary (h.hold _).drew eq).mono ?_; rintro e w' ⟨v, rfl, h⟩; obtain ⟨u2, rfl⟩ := h.top.node_eq; obtain ⟨y0, y1, y2, y3, _, _, _, _⟩ := h.four) | fail)
            all_goals go_wp2
            all_goals go_roundw
            all_goals first | exact ⟨f, _, _, h.drop.lose.lose.push (.two 169 ⟨28, tp, o, ⟨#[]⟩⟩ h.drop.lose.top h.drop.top), hl⟩ | ((repeat apply Exists.intro); exact ⟨⟨f, _, _, h.drop.lose.lose.push (.two 169 ⟨28, tp, o, ⟨#[]⟩⟩ h.drop.lose.top h.drop.top), hl⟩, rfl⟩) | exact Nat.lt_of_le_of_lt (least_le (show LvI x Q _ R 6 p s' _ _ f from ⟨_, _, h.drop.lose.lose.push (.two 169 ⟨28, tp, o, ⟨#[]⟩⟩ h.drop.lose.top h.drop.top), hl⟩)) (unhide hM)
end
end
end Go.Proofs.YtjikjejfobnfnaaGreatDoor.imp
