/-
  The program's levels of terms, the lesser ones.
-/
import Derived.Test.YtjikjejfobnfnaaGreatDoorC31
namespace Go.Proofs.YtjikjejfobnfnaaGreatDoor.imp
open Go.RowKit Go.Proofs.YtjikjejfobnfnaaGreatDoor.num Go.Proofs.YtjikjejfobnfnaaGreatDoor.lex Go.Proofs.YtjikjejfobnfnaaGreatDoor.par
set_option linter.unusedVariables false
section
section
variable {x : Cx} {Q : List (Value × P)} {L : List (Nat × Obj)} {s s' : T} {w w' : World} {R : RecI} {p : P}
theorem opP_no (N : Nat) (h1 : 1 ≤ N) (h5 : N ≤ 5) : opP ⟨#[]⟩ N = 0 := by
  rcases (show N = 1 ∨ N = 2 ∨ N = 3 ∨ N = 4 ∨ N = 5 by omega) with rfl | rfl | rfl | rfl | rfl <;> rfl
set_option maxHeartbeats 16000000 in
set_option maxRecDepth 100000 in
theorem level_low {k : Nat} (hk : k < 5) (ok : x.Ok) (G : GoodI x R) (tb : Tb x.W) (hB : 2 < x.B) (h : PT x Q L s w) (hr : levelI x.ts x.fin R (5 - k) s = some (p, s')) : Calls Tryz.prog 59 #[.agg #[.pointer (some ⟨x.B, 0, none⟩), .int .i64 (6 - ((k + 1 : Nat) : Int)), lvl x.B (k + 1)]] w fun e w' => ∃ v, e = .returned v ∧ PT x ((v, p) :: Q) L s' w' := by
  obtain ⟨N, hN⟩ : ∃ N : Nat, N = 5 - k := ⟨_, rfl⟩
  have hNi : (6 - ((k + 1 : Nat) : Int)) = (N : Int) := by omega
  rw [← hN] at hr
  rw [hNi]
  have hN6 : ¬ N = 6 := by omega
  have hsz := h.size
  have h := h.hold (.cells #[.pointer (some ⟨x.B, 0, none⟩), .int .i64 (N : Int), lvl x.B (k + 1)] 110)
  rw [lvl] at h ⊢
  have hG : ∀ (Q : List (Value × P)) (L : List (Nat × Obj)) (s : T) (w : World) (p : P) (s' : T), PT x Q L s w → R (.level (N + 1)) s = some (p, s') → Calls Tryz.prog 59 #[.agg #[.pointer (some ⟨x.B, 0, none⟩), .int .i64 (6 - k : Int), lvl x.B k]] w fun e w' => ∃ v, e = .returned v ∧ PT x ((v, p) :: Q) L s' w' := fun Q L s w p s' h hr => G.level (k := k) (by omega) h (by rw [show 6 - k = N + 1 by omega]; exact hr)
  have hNa : 1 ≤ N := by omega
  have hNb : N ≤ 5 := by omega
  clear hN hNi
  unfold levelI nextI at hr
  rw [if_neg hN6] at hr
  split at hr
  · cases hr
  · go_enter Tryz.func59, Tryz.ntmps59
    go_wp2_with (first | (go_at_call 59; refine (hG _ _ _ _ _ _ (by first | exact h | exact h.drewN _ | exact h.hold _ | exact (h.hold _).drew | exact (h.hold _).drewN _ | exact h.drew | exact h.alloc _ | exact h.less | exact (h.alloc _).drewN _ | exact (h.less).alloc _) (by assumption)).mono ?_; rintro e w' ⟨v, rfl, h⟩; have hsz := h.size; obtain ⟨r0, r1, r2⟩ := h.three))
    all_goals go_loopw [3] (fun v wr => ∃ f, LvI x Q ((w.heap.size, .cells #[.pointer (some ⟨x.B, 0, none⟩), .int .i64 (N : Int), .func (Fn.func 59) #[.agg #[.pointer (some ⟨x.B, 0, none⟩), .int .i64 (6 - k : Int), lvl x.B k]] #[]] 110) :: L) R N p s' v wr f) (fun v wr => least (LvI x Q ((w.heap.size, .cells #[.pointer (some ⟨x.B, 0, none⟩), .int .i64 (N : Int), .func (Fn.func 59) #[.agg #[.pointer (some ⟨x.B, 0, none⟩), .int .i64 (6 - k : Int), lvl x.B k]] #[]] 110) :: L) R N p s' v wr))
    case atStart => exact ⟨1000, _, _, h, hr⟩
    case round =>
      clear h hr
      have hr := least_is hrel
      generalize hF : least (LvI x Q _ R N p s' _ wr) = F at hr
      obtain ⟨p1, s1, h, hl⟩ := hr
      cases F with
      | zero => simp [levelLI] at hl
      | succ f =>
        rw [levelLI] at hl
        have hM := hide (Nat.lt_of_lt_of_eq (Nat.lt_succ_self f) hF.symm)
        have hsz := h.size
        obtain ⟨r0, r1, r2⟩ := h.three
        have hO := fun (w : World) (Q : List (Value × P)) (L : List (Nat × Obj)) (h : PT x Q L s1 w) => operatorOf_any (tokT x.ts x.fin s1) N w (by omega) (by omega) (h.tb tb hB)
        have hT := fun (w : World) (Q : List (Value × P)) (L : List (Nat × Obj)) (h : PT x Q L s1 w) => token_any ok h
        by_cases ho : opP (tokT x.ts x.fin s1).text N = 0
        · rw [if_pos ho] at hl
          cases hl
          generalize tokT x.ts x.fin s' = t at *
          rw [ho] at hO
          go_wp2
          go_region_with (first | (go_at_call 60; refine (hT _ _ _ (by first | exact h | exact h.drewN _ | exact h.hold _ | exact (h.hold _).drew | exact (h.hold _).drewN _ | exact h.drew | exact h.alloc _ | exact h.less | exact (h.alloc _).drewN _ | exact (h.less).alloc _)).mono ?_; rintro e w' ⟨rfl, h⟩; have hsz := h.size; obtain ⟨r0, r1, r2⟩ := h.three) | (go_at_call 102; refine (hO _ _ _ (by first | exact h | exact h.drewN _ | exact h.hold _ | exact (h.hold _).drew | exact (h.hold _).drewN _ | exact h.drew | exact h.alloc _ | exact h.less | exact (h.alloc _).drewN _ | exact (h.less).alloc _)).mono ?_; rintro e w' ⟨rfl, hb⟩; have h := h.grow hb; have hsz := h.size; obtain ⟨r0, r1, r2⟩ := h.three) | fail)
          all_goals go_wp2
          all_goals go_ret
          all_goals exact ⟨_, rfl, h.drop⟩
        · rw [if_neg ho] at hl
          have ho' := beq_some ho
          have hlt := tok_at (s := s1) (ts := x.ts) (fin := x.fin) (.inr (fun e => ho (by rw [e]; exact opP_no N hNa hNb))) (fun hc => (h.le hc).1)
          have hP := fun (w : World) (Q : List (Value × P)) (L : List (Nat × Obj)) (h : PT x Q L s1 w) => pass_any ok h (fun _ => hlt.2)
          have g1 := fTok1
          unfold nextI at hl
          rw [if_neg hN6] at hl
          split at hl
          · cases hl
          · rename_i q s2 eq
            have hsp := h.top.shp
            generalize tokT x.ts x.fin s1 = t at *
            obtain ⟨tk, tp, tx, tn⟩ := t
            simp only [Tok.val] at hP hT hO ho ho' hl
            generalize opP tx N = o at *
            rcases hsp with rfl | ⟨ty1, u1, rfl⟩
            all_goals go_wp2
            all_goals go_region_with (first | (go_at_call 60; refine (hT _ _ _ (by first | exact h | exact h.drewN _ | exact h.hold _ | exact (h.hold _).drew | exact (h.hold _).drewN _ | exact h.drew | exact h.alloc _ | exact h.less | exact (h.alloc _).drewN _ | exact (h.less).alloc _)).mono ?_; rintro e w' ⟨rfl, h⟩; have hsz := h.size; obtain ⟨r0, r1, r2⟩ := h.three) | (go_at_call 102; refine (hO _ _ _ (by first | exact h | exact h.drewN _ | exact h.hold _ | exact (h.hold _).drew | exact (h.hold _).drewN _ | exact h.drew | exact h.alloc _ | exact h.less | exact (h.alloc _).drewN _ | exact (h.less).alloc _)).mono ?_; rintro e w' ⟨rfl, hb⟩; have h := h.grow hb; have hsz := h.size; obtain ⟨r0, r1, r2⟩ := h.three) | fail)
            all_goals go_wp2_with (first | (go_at_call 100; refine (hP _ _ _ (by first | exact h | exact h.drewN _ | exact h.hold _ | exact (h.hold _).drew | exact (h.hold _).drewN _ | exact h.drew | exact h.alloc _ | exact h.less | exact (h.alloc _).drewN _ | exact (h.less).alloc _)).mono ?_; rintro e w' ⟨rfl, h⟩; have hsz := h.size; obtain ⟨r0, r1, r2⟩ := h.three; have hsh := (Array.getElem?_eq_some_iff.1 h.head).1))
            all_goals cases q
            all_goals go_region_with (first | (go_at_call 59; refine (hG _ _ _ _ _ _ (h.hold _).drew eq).mono ?_; rintro e w' ⟨v, rfl, h⟩; obtain rfl := h.top.nil_eq; obtain ⟨y0, y1, y2, y3, _, _, _, _⟩ := h.four) | (go_at_call 59; refine (hG _ _ _ _ _ _ (h.hold _).drew eq).mono ?_; rintro e w' ⟨v, rfl, h⟩; obtain ⟨u2, rfl⟩ := h.top.node_eq; obtain ⟨y0, y1, y2, y3, _, _, _, _⟩ := h.four) | fail)
            all_goals go_wp2
            all_goals go_roundw
            all_goals first | exact ⟨f, _, _, h.drop.lose.lose.push (.two 169 ⟨28, tp, o, ⟨#[]⟩⟩ h.drop.lose.top h.drop.top), hl⟩ | ((repeat apply Exists.intro); exact ⟨⟨f, _, _, h.drop.lose.lose.push (.two 169 ⟨28, tp, o, ⟨#[]⟩⟩ h.drop.lose.top h.drop.top), hl⟩, rfl⟩) | exact Nat.lt_of_le_of_lt (least_le (show LvI x Q _ R N p s' _ _ f from ⟨_, _, h.drop.lose.lose.push (.two 169 ⟨28, tp, o, ⟨#[]⟩⟩ h.drop.lose.top h.drop.top), hl⟩)) (unhide hM)
end
end
end Go.Proofs.YtjikjejfobnfnaaGreatDoor.imp
