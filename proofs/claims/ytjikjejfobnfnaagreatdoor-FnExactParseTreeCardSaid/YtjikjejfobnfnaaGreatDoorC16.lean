/-
  Programs; all rules together.
  The model's tree of a text.
-/
import Derived.Test.YtjikjejfobnfnaaGreatDoorC12
import Derived.Test.YtjikjejfobnfnaaGreatDoorC14
import Derived.Test.YtjikjejfobnfnaaGreatDoorC15
namespace Go.Proofs.YtjikjejfobnfnaaGreatDoor.par
open Go.RowKit Go.Proofs.YtjikjejfobnfnaaGreatDoor.num Go.Proofs.YtjikjejfobnfnaaGreatDoor.lex
set_option linter.unusedVariables false
section
section
variable {x : Cx} {L : List (Nat × Obj)} {s : S} {w : World} {R : Rec} {r : Nat} {s' : S}
/-- One declaration of a program. -/
def declS (ts : List Tok) (fin : Int) (R : Rec) (s : S) : Option (Nat × S) :=
  if isP ts s ⟨#[97, 114, 114, 97, 121]⟩ then
    nodeP (mustP ts fin (mustP ts fin (numberP ts fin (mustP ts fin (nameP ts fin (up s)) ⟨#[91]⟩)) ⟨#[93]⟩) ⟨#[59]⟩)
      ⟨2, atP ts fin (up s), numberT ts (mustP ts fin (nameP ts fin (up s)) ⟨#[91]⟩), nameT ts (up s), []⟩
  else if isP ts s ⟨#[118, 97, 114]⟩ then nodeP (mustP ts fin (nameP ts fin (up s)) ⟨#[59]⟩) ⟨3, atP ts fin (up s), 0, nameT ts (up s), []⟩
  else R .function (mustP ts fin s ⟨#[102, 117, 110, 99]⟩)
/-- The declarations of a program. -/
def progL (ts : List Tok) (fin : Int) (R : Rec) : Nat → List Nat → S → Option (List Nat × S)
  | 0, _, _ => none
  | f + 1, l, s =>
    if s.c = 0 ∧ s.p < ts.length then
      match declS ts fin R s with
      | none => none
      | some (x, s1) => progL ts fin R f (l ++ [x]) s1
    else some (l, s)
def progF (ts : List Tok) (fin : Int) (R : Rec) (s : S) : Option S :=
  match progL ts fin R 1000 [] s with
  | none => none
  | some (l, s1) =>
    match nodeP s1 ⟨1, 0, 0, ⟨#[]⟩, l⟩ with
    | none => none
    | some (_, s2) => some s2
theorem good_run (ok : x.Ok) : ∀ f, Good x (run x.ts x.fin f) := by
  intro f
  induction f with
  | zero => constructor <;> (intros; simp_all [run])
  | succ f G =>
    exact ⟨fun h hr => primary_walk ok G h hr, fun h hr => unary_walk ok G h hr, fun a b h hr => level_walk ok G a b h hr, fun h hr => last_walk ok G h hr, fun h hr => both_walk ok G h hr, fun h hr => cond_walk ok G h hr, fun h hr => block_walk ok G h hr, fun h hr => named_walk ok G h hr, fun h hr => branch_walk ok G h hr, fun h hr => statement_walk ok G h hr, fun h hr => function_walk ok G h hr⟩
def PgP (x : Cx) (L : List (Nat × Obj)) (R : Rec) (Z : List Nat × S) (v : Value) (wr : World) (f : Nat) : Prop := ∃ (l : List Nat) (g cap : Nat) (cur : Array Value) (s1 : S), v = .slice (some ⟨g, 0, none⟩) l.length cap ∧ PS x ((g, .cells cur 3) :: L) s1 wr ∧ Kd l cap cur ∧ l.length + f ≤ 1000 ∧ progL x.ts x.fin R f l s1 = some Z
set_option maxHeartbeats 8000000 in
set_option maxRecDepth 100000 in
theorem program_walk (ok : x.Ok) (G : Good x R) (h : PS x L s w) (hr : progF x.ts x.fin R s = some s') : Calls Tryz.prog 27 #[.pointer (some ⟨x.B, 0, none⟩)] w fun e w' => e = .returned (.tuple #[]) ∧ PS x L s' w' := by
  have l1 := ok.len
  have l2 := ok.cap
  obtain ⟨i0, hi0, hz0, hz1, hz2⟩ := info_parts infoInt
  unfold progF at hr
  split at hr
  · cases hr
  rename_i lf sf ep
  split at hr
  · cases hr
  rename_i rr s9 en
  cases hr
  go_enter Tryz.func27, Tryz.ntmps27
  go_wp2_with fail
  go_loopw [2] (fun v wr => ∃ q, PgP x L R (lf, sf) v wr q) (fun v wr => least (PgP x L R (lf, sf) v wr))
  case atStart => exact ⟨1000, [], _, 0, #[], _, rfl, h.hold _, Kd.none, by simp, ep⟩
  case round =>
    clear h ep
    obtain ⟨l, g, cap, cur, s2, rfl, h, hK, hlen, hl⟩ := least_is hrel
    generalize hF : least (PgP x L R (lf, sf) (Value.slice (some ⟨g, 0, none⟩) l.length cap) wr) = F at hl hlen
    cases F with
    | zero => simp [progL] at hl
    | succ f =>
      rw [progL] at hl
      have c0 := h.c0
      have c1 := h.c1
      have c5 := h.c5
      by_cases hx : s2.c = 0 ∧ s2.p < x.ts.length
      · rw [if_pos hx] at hl
        obtain ⟨hc, hp⟩ := hx
        rw [hc] at c5
        cases h1 : isP x.ts s2 ⟨#[97, 114, 114, 97, 121]⟩ with
        | true =>
          split at hl
          · cases hl
          · rename_i ed
            unfold declS at ed
            rw [h1, if_pos rfl] at ed
            go_wp2_with (first | (go_at_call 46; refine (take_yes ok _ (by first | exact h | exact h.drewN _ | exact h.alloc _ | exact (h.drewN _).alloc _ | exact (h.alloc _).drewN _ | exact h.less | exact (h.less).drewN _ | exact (h.less).alloc _ | exact ((h.less).drewN _).alloc _ | exact ((h.less).alloc _).drewN _ | exact h.up (by first | assumption | exact isP_lt (by assumption) | exact kindP_lt (by assumption))) (by assumption)).mono ?_; rintro e w' ⟨rfl, h⟩; have c0 := h.c0; have c1 := h.c1; have f1 := h.fz 1; have c4 := h.c4; have f4 := h.fz 4; have c5 := h.c5) | (go_at_call 46; refine (take_no ok _ (by first | exact h | exact h.drewN _ | exact h.alloc _ | exact (h.drewN _).alloc _ | exact (h.alloc _).drewN _ | exact h.less | exact (h.less).drewN _ | exact (h.less).alloc _ | exact ((h.less).drewN _).alloc _ | exact ((h.less).alloc _).drewN _ | exact h.up (by first | assumption | exact isP_lt (by assumption) | exact kindP_lt (by assumption))) (by first | assumption | exact eq_false_of_ne_true (by assumption))).mono ?_; rintro e w' ⟨rfl, h⟩; have c0 := h.c0; have c1 := h.c1; have f1 := h.fz 1; have c4 := h.c4; have f4 := h.fz 4; have c5 := h.c5) | (go_at_call 47; refine (at_any ok (by first | exact h | exact h.drewN _ | exact h.alloc _ | exact (h.drewN _).alloc _ | exact (h.alloc _).drewN _ | exact h.less | exact (h.less).drewN _ | exact (h.less).alloc _ | exact ((h.less).drewN _).alloc _ | exact ((h.less).alloc _).drewN _ | exact h.up (by first | assumption | exact isP_lt (by assumption) | exact kindP_lt (by assumption)))).mono ?_; rintro e w' ⟨rfl, h⟩; have c0 := h.c0; have c1 := h.c1; have f1 := h.fz 1; have c4 := h.c4; have f4 := h.fz 4; have c5 := h.c5) | (go_at_call 48; refine (name_any ok (by first | exact h | exact h.drewN _ | exact h.alloc _ | exact (h.drewN _).alloc _ | exact (h.alloc _).drewN _ | exact h.less | exact (h.less).drewN _ | exact (h.less).alloc _ | exact ((h.less).drewN _).alloc _ | exact ((h.less).alloc _).drewN _ | exact h.up (by first | assumption | exact isP_lt (by assumption) | exact kindP_lt (by assumption)))).mono ?_; rintro e w' ⟨rfl, h⟩; have c0 := h.c0; have c1 := h.c1; have f1 := h.fz 1; have c4 := h.c4; have f4 := h.fz 4; have c5 := h.c5) | (go_at_call 49; refine (must_any ok _ (by first | exact h | exact h.drewN _ | exact h.alloc _ | exact (h.drewN _).alloc _ | exact (h.alloc _).drewN _ | exact h.less | exact (h.less).drewN _ | exact (h.less).alloc _ | exact ((h.less).drewN _).alloc _ | exact ((h.less).alloc _).drewN _ | exact h.up (by first | assumption | exact isP_lt (by assumption) | exact kindP_lt (by assumption)))).mono ?_; rintro e w' ⟨rfl, h⟩; have c0 := h.c0; have c1 := h.c1; have f1 := h.fz 1; have c4 := h.c4; have f4 := h.fz 4; have c5 := h.c5) | (go_at_call 50; refine (number_any ok (by first | exact h | exact h.drewN _ | exact h.alloc _ | exact (h.drewN _).alloc _ | exact (h.alloc _).drewN _ | exact h.less | exact (h.less).drewN _ | exact (h.less).alloc _ | exact ((h.less).drewN _).alloc _ | exact ((h.less).alloc _).drewN _ | exact h.up (by first | assumption | exact isP_lt (by assumption) | exact kindP_lt (by assumption)))).mono ?_; rintro e w' ⟨rfl, h⟩; have c0 := h.c0; have c1 := h.c1; have f1 := h.fz 1; have c4 := h.c4; have f4 := h.fz 4; have c5 := h.c5) | (go_at_call 51; refine (node_any ok (by first | exact h | exact h.drewN _ | exact h.alloc _ | exact (h.drewN _).alloc _ | exact (h.alloc _).drewN _ | exact h.less | exact (h.less).drewN _ | exact (h.less).alloc _ | exact ((h.less).drewN _).alloc _ | exact ((h.less).alloc _).drewN _ | exact h.up (by first | assumption | exact isP_lt (by assumption) | exact kindP_lt (by assumption))) (by assumption) (by first | exact nil_row _ _ _ | exact new_row h [_] (by simp) | exact new_row h [_, _] (by simp) | exact new_row h [_, _, _] (by simp) | exact krow_drewN (new_row h [_] (by simp)) | exact new_at (h.drewN _) [_] _ (by simp) (by simp) | exact new_at h.less [_] _ (by simp) (by simp) | exact new_at ((h.less).drewN _) [_] _ (by simp) (by simp) | exact krow_drewN (new_row h [_, _] (by simp)) | exact new_at (h.drewN _) [_, _] _ (by simp) (by simp) | exact new_at h.less [_, _] _ (by simp) (by simp) | exact new_at ((h.less).drewN _) [_, _] _ (by simp) (by simp) | exact krow_drewN (new_row h [_, _, _] (by simp)) | exact new_at (h.drewN _) [_, _, _] _ (by simp) (by simp) | exact new_at h.less [_, _, _] _ (by simp) (by simp) | exact new_at ((h.less).drewN _) [_, _, _] _ (by simp) (by simp))).mono ?_; rintro e w' ⟨rfl, h⟩; have c0 := h.c0; have c1 := h.c1; have f1 := h.fz 1; have c4 := h.c4; have f4 := h.fz 4; have c5 := h.c5) | (at_builtin; refine wpList_append_own_at _ rfl _ _ 31 rfl (x.B + 1) 3 i0 (.int .i64 0) 1 8 Tryz.underlying31 hi0 hz0 hz1 hz2 rfl (by decide) _ _ _ rfl ((h.alloc _).kd hK).row ⟨_, 0, none⟩ 1 1 [.int .i64 (_ : Nat)] rfl rfl (cell_one_new _ _ _) (one_int _) (by (try simp only [List.length_cons, List.length_nil, List.length_append]); unfold maxLen; omega) (by (try simp only [List.length_cons, List.length_nil, List.length_append]); omega) (by have := h.size; simp; omega) ?_; intro v' w2 hown hgrow hnil hat; obtain ⟨g, cap, cur, rfl, h, hK⟩ := kids_push (h.alloc _) _ hown hgrow hat hnil; have c0 := h.c0; have c1 := h.c1; have f1 := h.fz 1; have c4 := h.c4; have f4 := h.fz 4; have c5 := h.c5))
            repeat (go_quiet (fail); go_wp2_with (first | (go_at_call 46; refine (take_yes ok _ (by first | exact h | exact h.drewN _ | exact h.alloc _ | exact (h.drewN _).alloc _ | exact (h.alloc _).drewN _ | exact h.less | exact (h.less).drewN _ | exact (h.less).alloc _ | exact ((h.less).drewN _).alloc _ | exact ((h.less).alloc _).drewN _ | exact h.up (by first | assumption | exact isP_lt (by assumption) | exact kindP_lt (by assumption))) (by assumption)).mono ?_; rintro e w' ⟨rfl, h⟩; have c0 := h.c0; have c1 := h.c1; have f1 := h.fz 1; have c4 := h.c4; have f4 := h.fz 4; have c5 := h.c5) | (go_at_call 46; refine (take_no ok _ (by first | exact h | exact h.drewN _ | exact h.alloc _ | exact (h.drewN _).alloc _ | exact (h.alloc _).drewN _ | exact h.less | exact (h.less).drewN _ | exact (h.less).alloc _ | exact ((h.less).drewN _).alloc _ | exact ((h.less).alloc _).drewN _ | exact h.up (by first | assumption | exact isP_lt (by assumption) | exact kindP_lt (by assumption))) (by first | assumption | exact eq_false_of_ne_true (by assumption))).mono ?_; rintro e w' ⟨rfl, h⟩; have c0 := h.c0; have c1 := h.c1; have f1 := h.fz 1; have c4 := h.c4; have f4 := h.fz 4; have c5 := h.c5) | (go_at_call 47; refine (at_any ok (by first | exact h | exact h.drewN _ | exact h.alloc _ | exact (h.drewN _).alloc _ | exact (h.alloc _).drewN _ | exact h.less | exact (h.less).drewN _ | exact (h.less).alloc _ | exact ((h.less).drewN _).alloc _ | exact ((h.less).alloc _).drewN _ | exact h.up (by first | assumption | exact isP_lt (by assumption) | exact kindP_lt (by assumption)))).mono ?_; rintro e w' ⟨rfl, h⟩; have c0 := h.c0; have c1 := h.c1; have f1 := h.fz 1; have c4 := h.c4; have f4 := h.fz 4; have c5 := h.c5) | (go_at_call 48; refine (name_any ok (by first | exact h | exact h.drewN _ | exact h.alloc _ | exact (h.drewN _).alloc _ | exact (h.alloc _).drewN _ | exact h.less | exact (h.less).drewN _ | exact (h.less).alloc _ | exact ((h.less).drewN _).alloc _ | exact ((h.less).alloc _).drewN _ | exact h.up (by first | assumption | exact isP_lt (by assumption) | exact kindP_lt (by assumption)))).mono ?_; rintro e w' ⟨rfl, h⟩; have c0 := h.c0; have c1 := h.c1; have f1 := h.fz 1; have c4 := h.c4; have f4 := h.fz 4; have c5 := h.c5) | (go_at_call 49; refine (must_any ok _ (by first | exact h | exact h.drewN _ | exact h.alloc _ | exact (h.drewN _).alloc _ | exact (h.alloc _).drewN _ | exact h.less | exact (h.less).drewN _ | exact (h.less).alloc _ | exact ((h.less).drewN _).alloc _ | exact ((h.less).alloc _).drewN _ | exact h.up (by first | assumption | exact isP_lt (by assumption) | exact kindP_lt (by assumption)))).mono ?_; rintro e w' ⟨rfl, h⟩; have c0 := h.c0; have c1 := h.c1; have f1 := h.fz 1; have c4 := h.c4; have f4 := h.fz 4; have c5 := h.c5) | (go_at_call 50; refine (number_any ok (by first | exact h | exact h.drewN _ | exact h.alloc _ | exact (h.drewN _).alloc _ | exact (h.alloc _).drewN _ | exact h.less | exact (h.less).drewN _ | exact (h.less).alloc _ | exact ((h.less).drewN _).alloc _ | exact ((h.less).alloc _).drewN _ | exact h.up (by first | assumption | exact isP_lt (by assumption) | exact kindP_lt (by assumption)))).mono ?_; rintro e w' ⟨rfl, h⟩; have c0 := h.c0; have c1 := h.c1; have f1 := h.fz 1; have c4 := h.c4; have f4 := h.fz 4; have c5 := h.c5) | (go_at_call 51; refine (node_any ok (by first | exact h | exact h.drewN _ | exact h.alloc _ | exact (h.drewN _).alloc _ | exact (h.alloc _).drewN _ | exact h.less | exact (h.less).drewN _ | exact (h.less).alloc _ | exact ((h.less).drewN _).alloc _ | exact ((h.less).alloc _).drewN _ | exact h.up (by first | assumption | exact isP_lt (by assumption) | exact kindP_lt (by assumption))) (by assumption) (by first | exact nil_row _ _ _ | exact new_row h [_] (by simp) | exact new_row h [_, _] (by simp) | exact new_row h [_, _, _] (by simp) | exact krow_drewN (new_row h [_] (by simp)) | exact new_at (h.drewN _) [_] _ (by simp) (by simp) | exact new_at h.less [_] _ (by simp) (by simp) | exact new_at ((h.less).drewN _) [_] _ (by simp) (by simp) | exact krow_drewN (new_row h [_, _] (by simp)) | exact new_at (h.drewN _) [_, _] _ (by simp) (by simp) | exact new_at h.less [_, _] _ (by simp) (by simp) | exact new_at ((h.less).drewN _) [_, _] _ (by simp) (by simp) | exact krow_drewN (new_row h [_, _, _] (by simp)) | exact new_at (h.drewN _) [_, _, _] _ (by simp) (by simp) | exact new_at h.less [_, _, _] _ (by simp) (by simp) | exact new_at ((h.less).drewN _) [_, _, _] _ (by simp) (by simp))).mono ?_; rintro e w' ⟨rfl, h⟩; have c0 := h.c0; have c1 := h.c1; have f1 := h.fz 1; have c4 := h.c4; have f4 := h.fz 4; have c5 := h.c5) | (at_builtin; refine wpList_append_own_at _ rfl _ _ 31 rfl (x.B + 1) 3 i0 (.int .i64 0) 1 8 Tryz.underlying31 hi0 hz0 hz1 hz2 rfl (by decide) _ _ _ rfl ((h.alloc _).kd hK).row ⟨_, 0, none⟩ 1 1 [.int .i64 (_ : Nat)] rfl rfl (cell_one_new _ _ _) (one_int _) (by (try simp only [List.length_cons, List.length_nil, List.length_append]); unfold maxLen; omega) (by (try simp only [List.length_cons, List.length_nil, List.length_append]); omega) (by have := h.size; simp; omega) ?_; intro v' w2 hown hgrow hnil hat; obtain ⟨g, cap, cur, rfl, h, hK⟩ := kids_push (h.alloc _) _ hown hgrow hat hnil; have c0 := h.c0; have c1 := h.c1; have f1 := h.fz 1; have c4 := h.c4; have f4 := h.fz 4; have c5 := h.c5)))
            go_roundw
            case rel => exact ⟨f, l ++ [_], g, cap, cur, _, by simp, h, hK, by simp; omega, hl⟩
            case measure => have := least_le (P := PgP x L R (lf, sf) (.slice (some ⟨g, 0, none⟩) (l.length + 1) cap) w2) ⟨l ++ [_], g, cap, cur, _, by simp, h, hK, by simp; omega, hl⟩; omega
        | false =>
        cases h2 : isP x.ts s2 ⟨#[118, 97, 114]⟩ with
        | true =>
          split at hl
          · cases hl
          · rename_i ed
            unfold declS at ed
            rw [h1, if_neg Bool.false_ne_true, h2, if_pos rfl] at ed
            go_wp2_with (first | (go_at_call 46; refine (take_yes ok _ (by first | exact h | exact h.drewN _ | exact h.alloc _ | exact (h.drewN _).alloc _ | exact (h.alloc _).drewN _ | exact h.less | exact (h.less).drewN _ | exact (h.less).alloc _ | exact ((h.less).drewN _).alloc _ | exact ((h.less).alloc _).drewN _ | exact h.up (by first | assumption | exact isP_lt (by assumption) | exact kindP_lt (by assumption))) (by assumption)).mono ?_; rintro e w' ⟨rfl, h⟩; have c0 := h.c0; have c1 := h.c1; have f1 := h.fz 1; have c4 := h.c4; have f4 := h.fz 4; have c5 := h.c5) | (go_at_call 46; refine (take_no ok _ (by first | exact h | exact h.drewN _ | exact h.alloc _ | exact (h.drewN _).alloc _ | exact (h.alloc _).drewN _ | exact h.less | exact (h.less).drewN _ | exact (h.less).alloc _ | exact ((h.less).drewN _).alloc _ | exact ((h.less).alloc _).drewN _ | exact h.up (by first | assumption | exact isP_lt (by assumption) | exact kindP_lt (by assumption))) (by first | assumption | exact eq_false_of_ne_true (by assumption))).mono ?_; rintro e w' ⟨rfl, h⟩; have c0 := h.c0; have c1 := h.c1; have f1 := h.fz 1; have c4 := h.c4; have f4 := h.fz 4; have c5 := h.c5) | (go_at_call 47; refine (at_any ok (by first | exact h | exact h.drewN _ | exact h.alloc _ | exact (h.drewN _).alloc _ | exact (h.alloc _).drewN _ | exact h.less | exact (h.less).drewN _ | exact (h.less).alloc _ | exact ((h.less).drewN _).alloc _ | exact ((h.less).alloc _).drewN _ | exact h.up (by first | assumption | exact isP_lt (by assumption) | exact kindP_lt (by assumption)))).mono ?_; rintro e w' ⟨rfl, h⟩; have c0 := h.c0; have c1 := h.c1; have f1 := h.fz 1; have c4 := h.c4; have f4 := h.fz 4; have c5 := h.c5) | (go_at_call 48; refine (name_any ok (by first | exact h | exact h.drewN _ | exact h.alloc _ | exact (h.drewN _).alloc _ | exact (h.alloc _).drewN _ | exact h.less | exact (h.less).drewN _ | exact (h.less).alloc _ | exact ((h.less).drewN _).alloc _ | exact ((h.less).alloc _).drewN _ | exact h.up (by first | assumption | exact isP_lt (by assumption) | exact kindP_lt (by assumption)))).mono ?_; rintro e w' ⟨rfl, h⟩; have c0 := h.c0; have c1 := h.c1; have f1 := h.fz 1; have c4 := h.c4; have f4 := h.fz 4; have c5 := h.c5) | (go_at_call 49; refine (must_any ok _ (by first | exact h | exact h.drewN _ | exact h.alloc _ | exact (h.drewN _).alloc _ | exact (h.alloc _).drewN _ | exact h.less | exact (h.less).drewN _ | exact (h.less).alloc _ | exact ((h.less).drewN _).alloc _ | exact ((h.less).alloc _).drewN _ | exact h.up (by first | assumption | exact isP_lt (by assumption) | exact kindP_lt (by assumption)))).mono ?_; rintro e w' ⟨rfl, h⟩; have c0 := h.c0; have c1 := h.c1; have f1 := h.fz 1; have c4 := h.c4; have f4 := h.fz 4; have c5 := h.c5) | (go_at_call 50; refine (number_any ok (by first | exact h | exact h.drewN _ | exact h.alloc _ | exact (h.drewN _).alloc _ | exact (h.alloc _).drewN _ | exact h.less | exact (h.less).drewN _ | exact (h.less).alloc _ | exact ((h.less).drewN _).alloc _ | exact ((h.less).alloc _).drewN _ | exact h.up (by first | assumption | exact isP_lt (by assumption) | exact kindP_lt (by assumption)))).mono ?_; rintro e w' ⟨rfl, h⟩; have c0 := h.c0; have c1 := h.c1; have f1 := h.fz 1; have c4 := h.c4; have f4 := h.fz 4; have c5 := h.c5) | (go_at_call 51; refine (node_any ok (by first | exact h | exact h.drewN _ | exact h.alloc _ | exact (h.drewN _).alloc _ | exact (h.alloc _).drewN _ | exact h.less | exact (h.less).drewN _ | exact (h.less).alloc _ | exact ((h.less).drewN _).alloc _ | exact ((h.less).alloc _).drewN _ | exact h.up (by first | assumption | exact isP_lt (by assumption) | exact kindP_lt (by assumption))) (by assumption) (by first | exact nil_row _ _ _ | exact new_row h [_] (by simp) | exact new_row h [_, _] (by simp) | exact new_row h [_, _, _] (by simp) | exact krow_drewN (new_row h [_] (by simp)) | exact new_at (h.drewN _) [_] _ (by simp) (by simp) | exact new_at h.less [_] _ (by simp) (by simp) | exact new_at ((h.less).drewN _) [_] _ (by simp) (by simp) | exact krow_drewN (new_row h [_, _] (by simp)) | exact new_at (h.drewN _) [_, _] _ (by simp) (by simp) | exact new_at h.less [_, _] _ (by simp) (by simp) | exact new_at ((h.less).drewN _) [_, _] _ (by simp) (by simp) | exact krow_drewN (new_row h [_, _, _] (by simp)) | exact new_at (h.drewN _) [_, _, _] _ (by simp) (by simp) | exact new_at h.less [_, _, _] _ (by simp) (by simp) | exact new_at ((h.less).drewN _) [_, _, _] _ (by simp) (by simp))).mono ?_; rintro e w' ⟨rfl, h⟩; have c0 := h.c0; have c1 := h.c1; have f1 := h.fz 1; have c4 := h.c4; have f4 := h.fz 4; have c5 := h.c5) | (at_builtin; refine wpList_append_own_at _ rfl _ _ 31 rfl (x.B + 1) 3 i0 (.int .i64 0) 1 8 Tryz.underlying31 hi0 hz0 hz1 hz2 rfl (by decide) _ _ _ rfl ((h.alloc _).kd hK).row ⟨_, 0, none⟩ 1 1 [.int .i64 (_ : Nat)] rfl rfl (cell_one_new _ _ _) (one_int _) (by (try simp only [List.length_cons, List.length_nil, List.length_append]); unfold maxLen; omega) (by (try simp only [List.length_cons, List.length_nil, List.length_append]); omega) (by have := h.size; simp; omega) ?_; intro v' w2 hown hgrow hnil hat; obtain ⟨g, cap, cur, rfl, h, hK⟩ := kids_push (h.alloc _) _ hown hgrow hat hnil; have c0 := h.c0; have c1 := h.c1; have f1 := h.fz 1; have c4 := h.c4; have f4 := h.fz 4; have c5 := h.c5))
            repeat (go_quiet (fail); go_wp2_with (first | (go_at_call 46; refine (take_yes ok _ (by first | exact h | exact h.drewN _ | exact h.alloc _ | exact (h.drewN _).alloc _ | exact (h.alloc _).drewN _ | exact h.less | exact (h.less).drewN _ | exact (h.less).alloc _ | exact ((h.less).drewN _).alloc _ | exact ((h.less).alloc _).drewN _ | exact h.up (by first | assumption | exact isP_lt (by assumption) | exact kindP_lt (by assumption))) (by assumption)).mono ?_; rintro e w' ⟨rfl, h⟩; have c0 := h.c0; have c1 := h.c1; have f1 := h.fz 1; have c4 := h.c4; have f4 := h.fz 4; have c5 := h.c5) | (go_at_call 46; refine (take_no ok _ (by first | exact h | exact h.drewN _ | exact h.alloc _ | exact (h.drewN _).alloc _ | exact (h.alloc _).drewN _ | exact h.less | exact (h.less).drewN _ | exact (h.less).alloc _ | exact ((h.less).drewN _).alloc _ | exact ((h.less).alloc _).drewN _ | exact h.up (by first | assumption | exact isP_lt (by assumption) | exact kindP_lt (by assumption))) (by first | assumption | exact eq_false_of_ne_true (by assumption))).mono ?_; rintro e w' ⟨rfl, h⟩; have c0 := h.c0; have c1 := h.c1; have f1 := h.fz 1; have c4 := h.c4; have f4 := h.fz 4; have c5 := h.c5) | (go_at_call 47; refine (at_any ok (by first | exact h | exact h.drewN _ | exact h.alloc _ | exact (h.drewN _).alloc _ | exact (h.alloc _).drewN _ | exact h.less | exact (h.less).drewN _ | exact (h.less).alloc _ | exact ((h.less).drewN _).alloc _ | exact ((h.less).alloc _).drewN _ | exact h.up (by first | assumption | exact isP_lt (by assumption) | exact kindP_lt (by assumption)))).mono ?_; rintro e w' ⟨rfl, h⟩; have c0 := h.c0; have c1 := h.c1; have f1 := h.fz 1; have c4 := h.c4; have f4 := h.fz 4; have c5 := h.c5) | (go_at_call 48; refine (name_any ok (by first | exact h | exact h.drewN _ | exact h.alloc _ | exact (h.drewN _).alloc _ | exact (h.alloc _).drewN _ | exact h.less | exact (h.less).drewN _ | exact (h.less).alloc _ | exact ((h.less).drewN _).alloc _ | exact ((h.less).alloc _).drewN _ | exact h.up (by first | assumption | exact isP_lt (by assumption) | exact kindP_lt (by assumption)))).mono ?_; rintro e w' ⟨rfl, h⟩; have c0 := h.c0; have c1 := h.c1; have f1 := h.fz 1; have c4 := h.c4; have f4 := h.fz 4; have c5 := h.c5) | (go_at_call 49; refine (must_any ok _ (by first | exact h | exact h.drewN _ | exact h.alloc _ | exact (h.drewN _).alloc _ | exact (h.alloc _).drewN _ | exact h.less | exact (h.less).drewN _ | exact (h.less).alloc _ | exact ((h.less).drewN _).alloc _ | exact ((h.less).alloc _).drewN _ | exact h.up (by first | assumption | exact isP_lt (by assumption) | exact kindP_lt (by assumption)))).mono ?_; rintro e w' ⟨rfl, h⟩; have c0 := h.c0; have c1 := h.c1; have f1 := h.fz 1; have c4 := h.c4; have f4 := h.fz 4; have c5 := h.c5) | (go_at_call 50; refine (number_any ok (by first | exact h | exact h.drewN _ | exact h.alloc _ | exact (h.drewN _).alloc _ | exact (h.alloc _).drewN _ | exact h.less | exact (h.less).drewN _ | exact (h.less).alloc _ | exact ((h.less).drewN _).alloc _ | exact ((h.less).alloc _).drewN _ | exact h.up (by first | assumption | exact isP_lt (by assumption) | exact kindP_lt (by assumption)))).mono ?_; rintro e w' ⟨rfl, h⟩; have c0 := h.c0; have c1 := h.c1; have f1 := h.fz 1; have c4 := h.c4; have f4 := h.fz 4; have c5 := h.c5) | (go_at_call 51; refine (node_any ok (by first | exact h | exact h.drewN _ | exact h.alloc _ | exact (h.drewN _).alloc _ | exact (h.alloc _).drewN _ | exact h.less | exact (h.less).drewN _ | exact (h.less).alloc _ | exact ((h.less).drewN _).alloc _ | exact ((h.less).alloc _).drewN _ | exact h.up (by first | assumption | exact isP_lt (by assumption) | exact kindP_lt (by assumption))) (by assumption) (by first | exact nil_row _ _ _ | exact new_row h [_] (by simp) | exact new_row h [_, _] (by simp) | exact new_row h [_, _, _] (by simp) | exact krow_drewN (new_row h [_] (by simp)) | exact new_at (h.drewN _) [_] _ (by simp) (by simp) | exact new_at h.less [_] _ (by simp) (by simp) | exact new_at ((h.less).drewN _) [_] _ (by simp) (by simp) | exact krow_drewN (new_row h [_, _] (by simp)) | exact new_at (h.drewN _) [_, _] _ (by simp) (by simp) | exact new_at h.less [_, _] _ (by simp) (by simp) | exact new_at ((h.less).drewN _) [_, _] _ (by simp) (by simp) | exact krow_drewN (new_row h [_, _, _] (by simp)) | exact new_at (h.drewN _) [_, _, _] _ (by simp) (by simp) | exact new_at h.less [_, _, _] _ (by simp) (by simp) | exact new_at ((h.less).drewN _) [_, _, _] _ (by simp) (by simp))).mono ?_; rintro e w' ⟨rfl, h⟩; have c0 := h.c0; have c1 := h.c1; have f1 := h.fz 1; have c4 := h.c4; have f4 := h.fz 4; have c5 := h.c5) | (at_builtin; refine wpList_append_own_at _ rfl _ _ 31 rfl (x.B + 1) 3 i0 (.int .i64 0) 1 8 Tryz.underlying31 hi0 hz0 hz1 hz2 rfl (by decide) _ _ _ rfl ((h.alloc _).kd hK).row ⟨_, 0, none⟩ 1 1 [.int .i64 (_ : Nat)] rfl rfl (cell_one_new _ _ _) (one_int _) (by (try simp only [List.length_cons, List.length_nil, List.length_append]); unfold maxLen; omega) (by (try simp only [List.length_cons, List.length_nil, List.length_append]); omega) (by have := h.size; simp; omega) ?_; intro v' w2 hown hgrow hnil hat; obtain ⟨g, cap, cur, rfl, h, hK⟩ := kids_push (h.alloc _) _ hown hgrow hat hnil; have c0 := h.c0; have c1 := h.c1; have f1 := h.fz 1; have c4 := h.c4; have f4 := h.fz 4; have c5 := h.c5)))
            go_roundw
            case rel => exact ⟨f, l ++ [_], g, cap, cur, _, by simp, h, hK, by simp; omega, hl⟩
            case measure => have := least_le (P := PgP x L R (lf, sf) (.slice (some ⟨g, 0, none⟩) (l.length + 1) cap) w2) ⟨l ++ [_], g, cap, cur, _, by simp, h, hK, by simp; omega, hl⟩; omega
        | false =>
          split at hl
          · cases hl
          · rename_i ed
            unfold declS at ed
            rw [h1, if_neg Bool.false_ne_true, h2, if_neg Bool.false_ne_true] at ed
            go_wp2_with (first | (go_at_call 46; refine (take_yes ok _ (by first | exact h | exact h.drewN _ | exact h.alloc _ | exact (h.drewN _).alloc _ | exact (h.alloc _).drewN _ | exact h.less | exact (h.less).drewN _ | exact (h.less).alloc _ | exact ((h.less).drewN _).alloc _ | exact ((h.less).alloc _).drewN _ | exact h.up (by first | assumption | exact isP_lt (by assumption) | exact kindP_lt (by assumption))) (by assumption)).mono ?_; rintro e w' ⟨rfl, h⟩; have c0 := h.c0; have c1 := h.c1; have f1 := h.fz 1; have c4 := h.c4; have f4 := h.fz 4; have c5 := h.c5) | (go_at_call 46; refine (take_no ok _ (by first | exact h | exact h.drewN _ | exact h.alloc _ | exact (h.drewN _).alloc _ | exact (h.alloc _).drewN _ | exact h.less | exact (h.less).drewN _ | exact (h.less).alloc _ | exact ((h.less).drewN _).alloc _ | exact ((h.less).alloc _).drewN _ | exact h.up (by first | assumption | exact isP_lt (by assumption) | exact kindP_lt (by assumption))) (by first | assumption | exact eq_false_of_ne_true (by assumption))).mono ?_; rintro e w' ⟨rfl, h⟩; have c0 := h.c0; have c1 := h.c1; have f1 := h.fz 1; have c4 := h.c4; have f4 := h.fz 4; have c5 := h.c5) | (go_at_call 47; refine (at_any ok (by first | exact h | exact h.drewN _ | exact h.alloc _ | exact (h.drewN _).alloc _ | exact (h.alloc _).drewN _ | exact h.less | exact (h.less).drewN _ | exact (h.less).alloc _ | exact ((h.less).drewN _).alloc _ | exact ((h.less).alloc _).drewN _ | exact h.up (by first | assumption | exact isP_lt (by assumption) | exact kindP_lt (by assumption)))).mono ?_; rintro e w' ⟨rfl, h⟩; have c0 := h.c0; have c1 := h.c1; have f1 := h.fz 1; have c4 := h.c4; have f4 := h.fz 4; have c5 := h.c5) | (go_at_call 48; refine (name_any ok (by first | exact h | exact h.drewN _ | exact h.alloc _ | exact (h.drewN _).alloc _ | exact (h.alloc _).drewN _ | exact h.less | exact (h.less).drewN _ | exact (h.less).alloc _ | exact ((h.less).drewN _).alloc _ | exact ((h.less).alloc _).drewN _ | exact h.up (by first | assumption | exact isP_lt (by assumption) | exact kindP_lt (by assumption)))).mono ?_; rintro e w' ⟨rfl, h⟩; have c0 := h.c0; have c1 := h.c1; have f1 := h.fz 1; have c4 := h.c4; have f4 := h.fz 4; have c5 := h.c5) | (go_at_call 49; refine (must_any ok _ (by first | exact h | exact h.drewN _ | exact h.alloc _ | exact (h.drewN _).alloc _ | exact (h.alloc _).drewN _ | exact h.less | exact (h.less).drewN _ | exact (h.less).alloc _ | exact ((h.less).drewN _).alloc _ | exact ((h.less).alloc _).drewN _ | exact h.up (by first | assumption | exact isP_lt (by assumption) | exact kindP_lt (by assumption)))).mono ?_; rintro e w' ⟨rfl, h⟩; have c0 := h.c0; have c1 := h.c1; have f1 := h.fz 1; have c4 := h.c4; have f4 := h.fz 4; have c5 := h.c5) | (go_at_call 50; refine (number_any ok (by first | exact h | exact h.drewN _ | exact h.alloc _ | exact (h.drewN _).alloc _ | exact (h.alloc _).drewN _ | exact h.less | exact (h.less).drewN _ | exact (h.less).alloc _ | exact ((h.less).drewN _).alloc _ | exact ((h.less).alloc _).drewN _ | exact h.up (by first | assumption | exact isP_lt (by assumption) | exact kindP_lt (by assumption)))).mono ?_; rintro e w' ⟨rfl, h⟩; have c0 := h.c0; have c1 := h.c1; have f1 := h.fz 1; have c4 := h.c4; have f4 := h.fz 4; have c5 := h.c5) | (go_at_call 51; refine (node_any ok (by first | exact h | exact h.drewN _ | exact h.alloc _ | exact (h.drewN _).alloc _ | exact (h.alloc _).drewN _ | exact h.less | exact (h.less).drewN _ | exact (h.less).alloc _ | exact ((h.less).drewN _).alloc _ | exact ((h.less).alloc _).drewN _ | exact h.up (by first | assumption | exact isP_lt (by assumption) | exact kindP_lt (by assumption))) (by assumption) (by first | exact nil_row _ _ _ | exact new_row h [_] (by simp) | exact new_row h [_, _] (by simp) | exact new_row h [_, _, _] (by simp) | exact krow_drewN (new_row h [_] (by simp)) | exact new_at (h.drewN _) [_] _ (by simp) (by simp) | exact new_at h.less [_] _ (by simp) (by simp) | exact new_at ((h.less).drewN _) [_] _ (by simp) (by simp) | exact krow_drewN (new_row h [_, _] (by simp)) | exact new_at (h.drewN _) [_, _] _ (by simp) (by simp) | exact new_at h.less [_, _] _ (by simp) (by simp) | exact new_at ((h.less).drewN _) [_, _] _ (by simp) (by simp) | exact krow_drewN (new_row h [_, _, _] (by simp)) | exact new_at (h.drewN _) [_, _, _] _ (by simp) (by simp) | exact new_at h.less [_, _, _] _ (by simp) (by simp) | exact new_at ((h.less).drewN _) [_, _, _] _ (by simp) (by simp))).mono ?_; rintro e w' ⟨rfl, h⟩; have c0 := h.c0; have c1 := h.c1; have f1 := h.fz 1; have c4 := h.c4; have f4 := h.fz 4; have c5 := h.c5) | (go_at_call 52; refine (G.function h (by assumption)).mono ?_; rintro e w' ⟨rfl, h⟩; have c0 := h.c0; have c1 := h.c1; have f1 := h.fz 1; have c4 := h.c4; have f4 := h.fz 4; have c5 := h.c5) | (at_builtin; refine wpList_append_own_at _ rfl _ _ 31 rfl (x.B + 1) 3 i0 (.int .i64 0) 1 8 Tryz.underlying31 hi0 hz0 hz1 hz2 rfl (by decide) _ _ _ rfl ((h.alloc _).kd hK).row ⟨_, 0, none⟩ 1 1 [.int .i64 (_ : Nat)] rfl rfl (cell_one_new _ _ _) (one_int _) (by (try simp only [List.length_cons, List.length_nil, List.length_append]); unfold maxLen; omega) (by (try simp only [List.length_cons, List.length_nil, List.length_append]); omega) (by have := h.size; simp; omega) ?_; intro v' w2 hown hgrow hnil hat; obtain ⟨g, cap, cur, rfl, h, hK⟩ := kids_push (h.alloc _) _ hown hgrow hat hnil; have c0 := h.c0; have c1 := h.c1; have f1 := h.fz 1; have c4 := h.c4; have f4 := h.fz 4; have c5 := h.c5))
            repeat (go_quiet (fail); go_wp2_with (first | (go_at_call 46; refine (take_yes ok _ (by first | exact h | exact h.drewN _ | exact h.alloc _ | exact (h.drewN _).alloc _ | exact (h.alloc _).drewN _ | exact h.less | exact (h.less).drewN _ | exact (h.less).alloc _ | exact ((h.less).drewN _).alloc _ | exact ((h.less).alloc _).drewN _ | exact h.up (by first | assumption | exact isP_lt (by assumption) | exact kindP_lt (by assumption))) (by assumption)).mono ?_; rintro e w' ⟨rfl, h⟩; have c0 := h.c0; have c1 := h.c1; have f1 := h.fz 1; have c4 := h.c4; have f4 := h.fz 4; have c5 := h.c5) | (go_at_call 46; refine (take_no ok _ (by first | exact h | exact h.drewN _ | exact h.alloc _ | exact (h.drewN _).alloc _ | exact (h.alloc _).drewN _ | exact h.less | exact (h.less).drewN _ | exact (h.less).alloc _ | exact ((h.less).drewN _).alloc _ | exact ((h.less).alloc _).drewN _ | exact h.up (by first | assumption | exact isP_lt (by assumption) | exact kindP_lt (by assumption))) (by first | assumption | exact eq_false_of_ne_true (by assumption))).mono ?_; rintro e w' ⟨rfl, h⟩; have c0 := h.c0; have c1 := h.c1; have f1 := h.fz 1; have c4 := h.c4; have f4 := h.fz 4; have c5 := h.c5) | (go_at_call 47; refine (at_any ok (by first | exact h | exact h.drewN _ | exact h.alloc _ | exact (h.drewN _).alloc _ | exact (h.alloc _).drewN _ | exact h.less | exact (h.less).drewN _ | exact (h.less).alloc _ | exact ((h.less).drewN _).alloc _ | exact ((h.less).alloc _).drewN _ | exact h.up (by first | assumption | exact isP_lt (by assumption) | exact kindP_lt (by assumption)))).mono ?_; rintro e w' ⟨rfl, h⟩; have c0 := h.c0; have c1 := h.c1; have f1 := h.fz 1; have c4 := h.c4; have f4 := h.fz 4; have c5 := h.c5) | (go_at_call 48; refine (name_any ok (by first | exact h | exact h.drewN _ | exact h.alloc _ | exact (h.drewN _).alloc _ | exact (h.alloc _).drewN _ | exact h.less | exact (h.less).drewN _ | exact (h.less).alloc _ | exact ((h.less).drewN _).alloc _ | exact ((h.less).alloc _).drewN _ | exact h.up (by first | assumption | exact isP_lt (by assumption) | exact kindP_lt (by assumption)))).mono ?_; rintro e w' ⟨rfl, h⟩; have c0 := h.c0; have c1 := h.c1; have f1 := h.fz 1; have c4 := h.c4; have f4 := h.fz 4; have c5 := h.c5) | (go_at_call 49; refine (must_any ok _ (by first | exact h | exact h.drewN _ | exact h.alloc _ | exact (h.drewN _).alloc _ | exact (h.alloc _).drewN _ | exact h.less | exact (h.less).drewN _ | exact (h.less).alloc _ | exact ((h.less).drewN _).alloc _ | exact ((h.less).alloc _).drewN _ | exact h.up (by first | assumption | exact isP_lt (by assumption) | exact kindP_lt (by assumption)))).mono ?_; rintro e w' ⟨rfl, h⟩; have c0 := h.c0; have c1 := h.c1; have f1 := h.fz 1; have c4 := h.c4; have f4 := h.fz 4; have c5 := h.c5) | (go_at_call 50; refine (number_any ok (by first | exact h | exact h.drewN _ | exact h.alloc _ | exact (h.drewN _).alloc _ | exact (h.alloc _).drewN _ | exact h.less | exact (h.less).drewN _ | exact (h.less).alloc _ | exact ((h.less).drewN _).alloc _ | exact ((h.less).alloc _).drewN _ | exact h.up (by first | assumption | exact isP_lt (by assumption) | exact kindP_lt (by assumption)))).mono ?_; rintro e w' ⟨rfl, h⟩; have c0 := h.c0; have c1 := h.c1; have f1 := h.fz 1; have c4 := h.c4; have f4 := h.fz 4; have c5 := h.c5) | (go_at_call 51; refine (node_any ok (by first | exact h | exact h.drewN _ | exact h.alloc _ | exact (h.drewN _).alloc _ | exact (h.alloc _).drewN _ | exact h.less | exact (h.less).drewN _ | exact (h.less).alloc _ | exact ((h.less).drewN _).alloc _ | exact ((h.less).alloc _).drewN _ | exact h.up (by first | assumption | exact isP_lt (by assumption) | exact kindP_lt (by assumption))) (by assumption) (by first | exact nil_row _ _ _ | exact new_row h [_] (by simp) | exact new_row h [_, _] (by simp) | exact new_row h [_, _, _] (by simp) | exact krow_drewN (new_row h [_] (by simp)) | exact new_at (h.drewN _) [_] _ (by simp) (by simp) | exact new_at h.less [_] _ (by simp) (by simp) | exact new_at ((h.less).drewN _) [_] _ (by simp) (by simp) | exact krow_drewN (new_row h [_, _] (by simp)) | exact new_at (h.drewN _) [_, _] _ (by simp) (by simp) | exact new_at h.less [_, _] _ (by simp) (by simp) | exact new_at ((h.less).drewN _) [_, _] _ (by simp) (by simp) | exact krow_drewN (new_row h [_, _, _] (by simp)) | exact new_at (h.drewN _) [_, _, _] _ (by simp) (by simp) | exact new_at h.less [_, _, _] _ (by simp) (by simp) | exact new_at ((h.less).drewN _) [_, _, _] _ (by simp) (by simp))).mono ?_; rintro e w' ⟨rfl, h⟩; have c0 := h.c0; have c1 := h.c1; have f1 := h.fz 1; have c4 := h.c4; have f4 := h.fz 4; have c5 := h.c5) | (go_at_call 52; refine (G.function h (by assumption)).mono ?_; rintro e w' ⟨rfl, h⟩; have c0 := h.c0; have c1 := h.c1; have f1 := h.fz 1; have c4 := h.c4; have f4 := h.fz 4; have c5 := h.c5) | (at_builtin; refine wpList_append_own_at _ rfl _ _ 31 rfl (x.B + 1) 3 i0 (.int .i64 0) 1 8 Tryz.underlying31 hi0 hz0 hz1 hz2 rfl (by decide) _ _ _ rfl ((h.alloc _).kd hK).row ⟨_, 0, none⟩ 1 1 [.int .i64 (_ : Nat)] rfl rfl (cell_one_new _ _ _) (one_int _) (by (try simp only [List.length_cons, List.length_nil, List.length_append]); unfold maxLen; omega) (by (try simp only [List.length_cons, List.length_nil, List.length_append]); omega) (by have := h.size; simp; omega) ?_; intro v' w2 hown hgrow hnil hat; obtain ⟨g, cap, cur, rfl, h, hK⟩ := kids_push (h.alloc _) _ hown hgrow hat hnil; have c0 := h.c0; have c1 := h.c1; have f1 := h.fz 1; have c4 := h.c4; have f4 := h.fz 4; have c5 := h.c5)))
            go_roundw
            case rel => exact ⟨f, l ++ [_], g, cap, cur, _, by simp, h, hK, by simp; omega, hl⟩
            case measure => have := least_le (P := PgP x L R (lf, sf) (.slice (some ⟨g, 0, none⟩) (l.length + 1) cap) w2) ⟨l ++ [_], g, cap, cur, _, by simp, h, hK, by simp; omega, hl⟩; omega
      · rw [if_neg hx] at hl
        cases hl
        by_cases hc : sf.c = 0
        · rw [hc] at c5
          have hp : sf.p = x.ts.length := by
            have := h.le
            have : ¬ sf.p < x.ts.length := fun hn => hx ⟨hc, hn⟩
            omega
          go_wp2_with (first | (go_at_call 51; refine (node_any ok (by first | exact h.drop | exact (h.drewN _).drop) (by assumption) (by first | exact h.kd hK | exact h.kd' hK (by simp) | exact (h.drewN _).kd hK)).mono ?_; rintro e w' ⟨rfl, h⟩; have c0 := h.c0; have c1 := h.c1; have f1 := h.fz 1; have c4 := h.c4; have f4 := h.fz 4; have c5 := h.c5))
          repeat (go_quiet (fail); go_wp2_with (first | (go_at_call 51; refine (node_any ok (by first | exact h.drop | exact (h.drewN _).drop) (by assumption) (by first | exact h.kd hK | exact h.kd' hK (by simp) | exact (h.drewN _).kd hK)).mono ?_; rintro e w' ⟨rfl, h⟩; have c0 := h.c0; have c1 := h.c1; have f1 := h.fz 1; have c4 := h.c4; have f4 := h.fz 4; have c5 := h.c5)))
          go_end0
          exact ⟨rfl, h⟩
        · have e3 : (sf.c == 0) = false := by simpa using hc
          go_wp2_with (first | (go_at_call 51; refine (node_any ok (by first | exact h.drop | exact (h.drewN _).drop) (by assumption) (by first | exact h.kd hK | exact h.kd' hK (by simp) | exact (h.drewN _).kd hK)).mono ?_; rintro e w' ⟨rfl, h⟩; have c0 := h.c0; have c1 := h.c1; have f1 := h.fz 1; have c4 := h.c4; have f4 := h.fz 4; have c5 := h.c5))
          repeat (go_quiet (fail); go_wp2_with (first | (go_at_call 51; refine (node_any ok (by first | exact h.drop | exact (h.drewN _).drop) (by assumption) (by first | exact h.kd hK | exact h.kd' hK (by simp) | exact (h.drewN _).kd hK)).mono ?_; rintro e w' ⟨rfl, h⟩; have c0 := h.c0; have c1 := h.c1; have f1 := h.fz 1; have c4 := h.c4; have f4 := h.fz 4; have c5 := h.c5)))
          go_end0
          exact ⟨rfl, h⟩
end
end
/-- The tree of a text as a plain function: its nodes, the fault, its place. -/
def treeS (t : ByteArray) : Option (List Nd × Int × Int) :=
  if (lexAll t).2.1 = 0 then
    match progF (lexAll t).1 t.size (run (lexAll t).1 t.size 20000) ⟨0, [], 0, 0, 0⟩ with
    | none => none
    | some s => if s.c = 0 then some (s.N, 0, 0) else some ([], s.c, s.a)
  else some ([], (lexAll t).2.1, (lexAll t).2.2)
/-- Nodes lie in rows of the call's own. -/
def NodeRow (base : Nat) (v : Value) (N : List Nd) (w : World) : Prop :=
  ∃ M : List (Nd × Value), M.map (·.1) = N ∧ w.ownsRow base 33 5 v M.length (flatN M) ∧ ∀ m ∈ M, w.ownsRow base 3 1 m.2 m.1.kids.length (ints m.1.kids)
theorem lexFrom_len (s : ByteArray) : ∀ (n k : Nat) (acc : List Tok), s.size - k ≤ n → acc.length ≤ 700 → (lexFrom s k acc).1.length ≤ 700 := by
  intro n
  induction n with
  | zero =>
    intro k acc hn ha
    have hk : s.size ≤ k := by omega
    have := le_skip s k
    rw [lexFrom_end s k acc (by omega)]
    exact ha
  | succ n ih =>
    intro k acc hn ha
    have hk0 := le_skip s k
    by_cases hlt : skip s k < s.size
    · by_cases hC : tokCode s (skip s k) = 0
      · by_cases hm : 700 ≤ acc.length
        · rw [lexFrom_many s k acc hlt hC hm]; simp
        · rw [lexFrom_go s k acc hlt hC hm]
          have := lt_tokEnd s _ hlt hC
          exact ih _ _ (by omega) (by simp; omega)
      · rw [lexFrom_bad s k acc hlt hC]; simp
    · rw [lexFrom_end s k acc hlt]; exact ha
theorem lexAll_len (s : ByteArray) : (lexAll s).1.length ≤ 700 := by
  unfold lexAll
  split
  · simp
  · exact lexFrom_len s _ 0 [] (Nat.le_refl _) (by simp)
theorem PS.start (x : Cx) (hB : x.B = x.W.heap.size) : PS x [] ⟨0, [], 0, 0, 0⟩ (x.W.alloc (.cells (rdCells x (.slice none 0 0) ⟨0, [], 0, 0, 0⟩) 67)) := by
  refine ⟨Nat.zero_le _, ⟨.slice none 0 0, ?_, ⟨[], rfl, World.ownsRow_nil _ _ _ _, fun m hm => (by cases hm)⟩, fun b o hm => (by cases hm)⟩, fun b o hm => (by cases hm), List.nodup_nil, ?_⟩
  · rw [hB]; exact one_first _ _
  · rw [hB]; exact (Below.refl _ _).alloc (Nat.le_refl _) _
theorem PS.c3 {x : Cx} {L : List (Nat × Obj)} {s : S} {w : World} (h : PS x L s w) : ∃ nv, w.cell? ⟨x.B, 3, none⟩ = some nv ∧ NodeRow (x.B + 1) nv s.N w := by
  obtain ⟨nv, h1, h2, _⟩ := h.blk
  obtain ⟨M, hM, hr, hk⟩ := h2.rows
  exact ⟨nv, cell_of h1 rfl, M, hM, hr, fun m hm => (hk m hm).row⟩
theorem below_drew {B : Nat} {a b : World} (h : Below B a b) : Below B a b.drew := ⟨h.os, h.tape, h.output, h.size, h.block⟩
theorem NodeRow.mono {base base' : Nat} {v : Value} {N : List Nd} {w : World} (h : NodeRow base v N w) (hb : base' ≤ base) : NodeRow base' v N w := by
  obtain ⟨M, hM, hr, hk⟩ := h
  exact ⟨M, hM, row_mono hr hb, fun m hm => row_mono (hk m hm) hb⟩
theorem NodeRow.set {base : Nat} {v : Value} {N : List Nd} {w : World} (h : NodeRow base v N w) {p : Addr} (hp : p.block < base) (u : Value) : NodeRow base v N (w.setCell p u) := by
  obtain ⟨M, hM, hr, hk⟩ := h
  exact ⟨M, hM, row_set hr hp u, fun m hm => row_set (hk m hm) hp u⟩
theorem NodeRow.drew {base : Nat} {v : Value} {N : List Nd} {w : World} (h : NodeRow base v N w) : NodeRow base v N w.drew := h
theorem NodeRow.slice {base : Nat} {v : Value} {N : List Nd} {w : World} (h : NodeRow base v N w) : ∃ a c, v = .slice a N.length c := by
  obtain ⟨M, hM, hr, hk⟩ := h
  obtain ⟨a, c, e⟩ := row_slice hr
  exact ⟨a, c, by rw [e, ← hM]; simp⟩
theorem NodeRow.empty {w : World} {base g : Nat} (h : w.heap[g]? = some (.cells #[] 33)) (hb : base ≤ g) : NodeRow base (.slice (some ⟨g, 0, none⟩) 0 0) [] w := ⟨[], rfl, row_empty h hb, fun m hm => by cases hm⟩
set_option maxHeartbeats 4000000 in
set_option maxRecDepth 100000 in
theorem specTree_bad (t : ByteArray) (w : World) (hs : t.size ≤ 1048576) (hc : ¬ (lexAll t).2.1 = 0) : Calls Tryz.prog 13 #[.string t] w fun e w' => ∃ v, e = .returned (.tuple #[v, .agg #[.int .i64 (lexAll t).2.1, .int .i64 (lexAll t).2.2]]) ∧ NodeRow w.heap.size v [] w' ∧ Below w.heap.size w w' := by
  have hx := fun w => specLex_any t w hs
  have e3 : ((lexAll t).2.1 != 0) = true := by simpa using hc
  generalize lexAll t = Q at *
  go_enter Tryz.func13, Tryz.ntmps13
  go_wp2_with (go_at_call 26; refine (hx _).mono ?_; rintro e w1 ⟨v, rfl, hrow, hb⟩; have hsz : w.heap.size < w1.heap.size := (by have := hb.size; simp at this; omega); have q0 : w1.heap[w.heap.size]? = some (.cells #[.int .i64 0, .int .i64 0] 25) := at_below hb (one_first _ _) (by simp); have c0 := cell_of (i := 0) q0 rfl; have c1 := cell_of (i := 1) q0 rfl; have f0 := frozen_of (i := 0) q0; have f1 := frozen_of (i := 1) q0; obtain ⟨ta, tc, rfl⟩ := row_slice hrow)
  have hB1 : Below w.heap.size w w1 := ((Below.refl _ _).alloc (Nat.le_refl _) _).trans (hb.mono (by simp))
  go_region_law (fail)
  all_goals go_wp2
  all_goals (try simp only [Exit.inBlock, Exit.then])
  all_goals refine bodyPost_ret (results_tmp_cell rfl _ _ w.heap.size 25 _ (0, 0) _ rfl (at_drew (at_alloc (at_alloc (at_same (at_same q0))))) Tryz.underlying25 rfl (by kernel_rfl)) rfl ?_
  all_goals refine ⟨_, rfl, NodeRow.empty (at_drew (by have := one_first ((((w1.setCell ⟨w.heap.size, 0, none⟩ (.int .i64 Q.2.1)).setCell ⟨w.heap.size, 1, none⟩ (.int .i64 Q.2.2)).alloc (.cells #[.int .i64 Q.2.1, .int .i64 Q.2.2] 25))) (.cells #[] 33); simpa using this)) (by omega), ?_⟩
  all_goals exact below_drew ((((hB1.setCell (p := ⟨w.heap.size, 0, none⟩) (Nat.le_refl _) _).setCell (p := ⟨w.heap.size, 1, none⟩) (Nat.le_refl _) _).alloc (by simp; omega) _).alloc (by simp; omega) _)
set_option maxHeartbeats 4000000 in
set_option maxRecDepth 100000 in
theorem specTree_ok (t : ByteArray) (w : World) (hs : t.size ≤ 1048576) (hc : (lexAll t).2.1 = 0) {s' : S} (hp : progF (lexAll t).1 t.size (run (lexAll t).1 t.size 20000) ⟨0, [], 0, 0, 0⟩ = some s') : Calls Tryz.prog 13 #[.string t] w fun e w' => ∃ v, e = .returned (.tuple #[v, .agg #[.int .i64 s'.c, .int .i64 (if s'.c = 0 then 0 else s'.a)]]) ∧ NodeRow w.heap.size v (if s'.c = 0 then s'.N else []) w' ∧ Below w.heap.size w w' := by
  have hx := fun w => specLex_any t w hs
  simp only [hc] at hx
  have ll := lexAll_len t
  generalize lexAll t = Q at *
  go_enter Tryz.func13, Tryz.ntmps13
  go_wp2_with (go_at_call 26; refine (hx _).mono ?_; rintro e w1 ⟨v, rfl, hrow, hb⟩; have hsz : w.heap.size < w1.heap.size := (by have := hb.size; simp at this; omega); have q0 : w1.heap[w.heap.size]? = some (.cells #[.int .i64 0, .int .i64 0] 25) := at_below hb (one_first _ _) (by simp); have c0 := cell_of (i := 0) q0 rfl; have c1 := cell_of (i := 1) q0 rfl; have f0 := frozen_of (i := 0) q0; have f1 := frozen_of (i := 1) q0; obtain ⟨ta, tc, rfl⟩ := row_slice hrow)
  have hB1 : Below w.heap.size w w1 := ((Below.refl _ _).alloc (Nat.le_refl _) _).trans (hb.mono (by simp))
  have tk : Cx.Ok ⟨w1.alloc (.cells #[.int .i64 0, .int .i64 Q.2.2] 25), w1.heap.size + 1, ta, tc, Q.1, t.size⟩ := by
    refine ⟨ll, ?_, by simp, ?_⟩
    · rcases hrow.2 with ⟨e, e0⟩ | ⟨g, cap, cur, e, _, _, hle, _⟩
      · injection e with e1 e2 e3
        show Q.1.length ≤ tc
        rw [e2]
        exact Nat.zero_le _
      · injection e with e1 e2 e3
        show Q.1.length ≤ tc
        rw [e3]
        exact hle
    · intro j tt hj
      have hj0 : 0 < Q.1.length := by have := (List.getElem?_eq_some_iff.1 hj).1; simp at this; omega
      obtain ⟨g, cap, e, _, _, hg, hr⟩ := row_read hrow hj0
      cases e
      obtain ⟨a0, a1, a2, a3⟩ := hr j tt hj
      have lift : ∀ i, (w1.alloc (.cells #[.int .i64 0, .int .i64 Q.2.2] 25)).cell? ⟨g, i, none⟩ = w1.cell? ⟨g, i, none⟩ := fun i => World.cell?_of_block (Below.heap_alloc _ _ _ hg)
      exact ⟨g, rfl, by simp; omega, (lift _).trans a0, (lift _).trans a1, (lift _).trans a2, (lift _).trans a3⟩
  have st := PS.start ⟨w1.alloc (.cells #[.int .i64 0, .int .i64 Q.2.2] 25), w1.heap.size + 1, ta, tc, Q.1, t.size⟩ (by simp)
  refine (program_walk tk (good_run tk 20000) st hp).mono ?_
  rintro e w2 ⟨rfl, h⟩
  have d0 : w2.heap[w.heap.size]? = some (.cells #[.int .i64 0, .int .i64 0] 25) := at_below h.bel (at_alloc q0) (by simp; omega)
  have g0 := cell_of (i := 0) d0 rfl
  have g1 := cell_of (i := 1) d0 rfl
  have k0 := frozen_of (i := 0) d0
  have k1 := frozen_of (i := 1) d0
  have c5 : w2.cell? ⟨w1.heap.size + 1, 5, none⟩ = some (.int .i64 s'.c) := h.c5
  have c6 : w2.cell? ⟨w1.heap.size + 1, 6, none⟩ = some (.int .i64 s'.a) := h.c6
  obtain ⟨nv, c3, hN⟩ := h.c3
  simp only at c3
  have hB2 : Below w.heap.size w w2 := (hB1.alloc hB1.size _).trans (h.bel.mono (by simp; omega))
  have hs2 : w1.heap.size + 1 < w2.heap.size := h.size
  have hs3 : w.heap.size < w2.heap.size := by omega
  by_cases hz : s'.c = 0
  · rw [hz] at c5
    go_wp2
    (try simp only [Exit.inBlock, Exit.then])
    refine bodyPost_ret (results_tmp_cell rfl _ _ w.heap.size 25 _ (0, 0) _ rfl (at_same (at_same d0)) Tryz.underlying25 rfl (by kernel_rfl)) rfl ?_
    (try rw [if_pos hz])
    (try rw [if_pos hz])
    (try rw [hz])
    exact ⟨_, rfl, ((hN.set (p := ⟨w.heap.size, 0, none⟩) (by simp; omega) _).set (p := ⟨w.heap.size, 1, none⟩) (by simp; omega) _).mono (by omega), (hB2.setCell (p := ⟨w.heap.size, 0, none⟩) (Nat.le_refl _) _).setCell (p := ⟨w.heap.size, 1, none⟩) (Nat.le_refl _) _⟩
  · have hz' : (s'.c != 0) = true := by simpa using hz
    go_wp2
    go_region_law (fail)
    all_goals go_wp2
    all_goals (try simp only [Exit.inBlock, Exit.then])
    all_goals refine bodyPost_ret (results_tmp_cell rfl _ _ w.heap.size 25 _ (0, 0) _ rfl (at_drew (at_alloc (at_same (at_same d0)))) Tryz.underlying25 rfl (by kernel_rfl)) rfl ?_
    all_goals (try rw [if_neg hz])
    all_goals (try rw [if_neg hz])
    all_goals refine ⟨_, rfl, NodeRow.empty (at_drew (by have := one_first ((w2.setCell ⟨w.heap.size, 0, none⟩ (.int .i64 s'.c)).setCell ⟨w.heap.size, 1, none⟩ (.int .i64 s'.a)) (.cells #[] 33); simpa using this)) (by omega), ?_⟩
    all_goals exact below_drew (((hB2.setCell (p := ⟨w.heap.size, 0, none⟩) (Nat.le_refl _) _).setCell (p := ⟨w.heap.size, 1, none⟩) (Nat.le_refl _) _).alloc (by simp; omega) _)
/-- The model's tree of a text. -/
theorem specTree_any (t : ByteArray) (w : World) (hs : t.size ≤ 1048576) {Z : List Nd × Int × Int} (hZ : treeS t = some Z) : Calls Tryz.prog 13 #[.string t] w fun e w' => ∃ v, e = .returned (.tuple #[v, .agg #[.int .i64 Z.2.1, .int .i64 Z.2.2]]) ∧ NodeRow w.heap.size v Z.1 w' ∧ Below w.heap.size w w' := by
  unfold treeS at hZ
  split at hZ
  · rename_i hc
    split at hZ
    · cases hZ
    · rename_i s' hp
      have := specTree_ok t w hs hc hp
      split at hZ
      · rename_i hz
        cases hZ
        rw [if_pos hz, if_pos hz, hz] at this
        exact this
      · rename_i hz
        cases hZ
        rw [if_neg hz, if_neg hz] at this
        exact this
  · rename_i hc
    cases hZ
    exact specTree_bad t w hs hc
end Go.Proofs.YtjikjejfobnfnaaGreatDoor.par
