/-
  Branches, walked.
  Statements, walked.
-/
import Derived.Test.YtjikjejfobnfnaaGreatDoorC25
import Derived.Deep.Cut
namespace Go.Proofs.YtjikjejfobnfnaaGreatDoor.imp
open Go.RowKit Go.Proofs.YtjikjejfobnfnaaGreatDoor.num Go.Proofs.YtjikjejfobnfnaaGreatDoor.lex Go.Proofs.YtjikjejfobnfnaaGreatDoor.par
set_option linter.unusedVariables false
section
section
variable {x : Cx} {Q : List (Value × P)} {L : List (Nat × Obj)} {s s' : T} {w w' : World} {R : RecI} {p : P}
theorem PT.six {b : Nat} {a0 a1 a2 a3 a4 a5 : Value} {t : TypeId} (h : PT x Q ((b, .cells #[a0, a1, a2, a3, a4, a5] t) :: L) s w) : w.cell? ⟨b, 0, none⟩ = some a0 ∧ w.cell? ⟨b, 1, none⟩ = some a1 ∧ w.cell? ⟨b, 2, none⟩ = some a2 ∧ w.cell? ⟨b, 3, none⟩ = some a3 ∧ w.cell? ⟨b, 4, none⟩ = some a4 ∧ w.cell? ⟨b, 5, none⟩ = some a5 ∧ w.frozen? ⟨b, 0, none⟩ = false ∧ w.frozen? ⟨b, 1, none⟩ = false ∧ w.frozen? ⟨b, 2, none⟩ = false ∧ w.frozen? ⟨b, 3, none⟩ = false ∧ w.frozen? ⟨b, 4, none⟩ = false ∧ w.frozen? ⟨b, 5, none⟩ = false ∧ b < w.heap.size :=
  have k := h.head
  ⟨cell_of k rfl, cell_of k rfl, cell_of k rfl, cell_of k rfl, cell_of k rfl, cell_of k rfl, frozen_of k, frozen_of k, frozen_of k, frozen_of k, frozen_of k, frozen_of k, (Array.getElem?_eq_some_iff.1 k).1⟩
theorem PT.fill6 {b : Nat} {a0 a1 a2 a3 a4 a5 : Value} {t : TypeId} (h : PT x Q ((b, .cells #[a0, a1, a2, a3, a4, a5] t) :: L) s w) (v0 v1 v2 v3 v4 v5 : Value) :
    PT x Q ((b, .cells #[v0, v1, v2, v3, v4, v5] t) :: L) s ((((((w.setCell ⟨b, 0, none⟩ v0).setCell ⟨b, 1, none⟩ v1).setCell ⟨b, 2, none⟩ v2).setCell ⟨b, 3, none⟩ v3).setCell ⟨b, 4, none⟩ v4).setCell ⟨b, 5, none⟩ v5) := by
  have := (((((h.turn 0 v0).turn 1 v1).turn 2 v2).turn 3 v3).turn 4 v4).turn 5 v5
  simpa using this
theorem PT.turnIn {L' : List (Nat × Obj)} {b : Nat} {cs : Array Value} {t : TypeId} (h : PT x Q (L' ++ (b, .cells cs t) :: L) s w) (i : Nat) (v : Value) : PT x Q (L' ++ (b, .cells (cs.setIfInBounds i v) t) :: L) s (w.setCell ⟨b, i, none⟩ v) :=
  ((h.perm List.perm_middle).turn i v).perm List.perm_middle.symm
set_option maxHeartbeats 8000000 in
set_option maxRecDepth 100000 in
theorem branch_walk (ok : x.Ok) (C : GoodC x R) (S : GoodS x R) (t : Tok) (h : PT x Q L s w) (hr : branchI x.ts x.fin R t s = some (p, s')) : Calls Tryz.prog 173 #[.pointer (some ⟨x.B, 0, none⟩), t.val] w fun e w' => ∃ v, e = .returned v ∧ PT x ((v, p) :: Q) L s' w' := by
  obtain ⟨tk, tp, tx, tn⟩ := t
  have hsz := h.size
  simp only [Tok.val]
  have h := h.hold (.cells #[.int .i64 tk, .int .i64 tp, .string tx, .int .i64 tn] 93)
  obtain ⟨r0, r1, r2, r3, z0, z1, z2, z3⟩ := h.four
  have hB := h.hold (.cells #[.int .i64 0, .int .i64 0, .int .i64 0, .string ⟨#[]⟩, .nilIface, .slice none 0 0] 141)
  rw [size1] at hB
  unfold branchI at hr
  split at hr
  · cases hr
  · rename_i p0 s1 eq1
    split at hr
    · cases hr
    · rename_i p1 b1 s2 eq2
      go_enter Tryz.func173, Tryz.ntmps173
      go_wp2
      go_cut [5] from 6 (fun t5 wc => ∃ b2 v, t5 = .pointer (some ⟨b2, 0, none⟩) ∧ PT x ((v, p0) :: Q) ((b2, .cells #[.int .i64 14, .int .i64 tp, .int .i64 0, .string ⟨#[]⟩, v, .slice none 0 0] 141) :: (w.heap.size, .cells #[.int .i64 tk, .int .i64 tp, .string tx, .int .i64 tn] 93) :: L) s1 wc)
      case first =>
        cases p0
        all_goals go_region_with (first | (go_at_call 174; refine (C.cond hB.drew eq1).mono ?_; rintro e w' ⟨v, rfl, h⟩; obtain rfl := h.top.nil_eq; obtain ⟨r0, r1, r2, r3, z0, z1, z2, z3⟩ := h.drop.four; have hsz := h.size; have hs4 := (Array.getElem?_eq_some_iff.1 h.drop.head).1; obtain ⟨s0, s1', s2', s3', s4', s5', t0, t1, t2, t3, t4, t5, hb6⟩ := h.six) | (go_at_call 174; refine (C.cond hB.drew eq1).mono ?_; rintro e w' ⟨v, rfl, h⟩; obtain ⟨u0, rfl⟩ := h.top.node_eq; obtain ⟨r0, r1, r2, r3, z0, z1, z2, z3⟩ := h.drop.four; have hsz := h.size; have hs4 := (Array.getElem?_eq_some_iff.1 h.drop.head).1; obtain ⟨s0, s1', s2', s3', s4', s5', t0, t1, t2, t3, t4, t5, hb6⟩ := h.six) |  (go_at_call 174; refine (C.cond h.drew eq1).mono ?_; rintro e w' ⟨v, rfl, h⟩; obtain rfl := h.top.nil_eq; obtain ⟨r0, r1, r2, r3, z0, z1, z2, z3⟩ := h.four; have hsz := h.size; have hs4 := (Array.getElem?_eq_some_iff.1 h.head).1) | (go_at_call 174; refine (C.cond h.drew eq1).mono ?_; rintro e w' ⟨v, rfl, h⟩; obtain ⟨u0, rfl⟩ := h.top.node_eq; obtain ⟨r0, r1, r2, r3, z0, z1, z2, z3⟩ := h.four; have hsz := h.size; have hs4 := (Array.getElem?_eq_some_iff.1 h.head).1) | fail)
        all_goals go_wp2_with fail
        all_goals go_meet
        all_goals first
          | exact ⟨_, _, rfl, h.hold _⟩
          | exact ⟨_, _, rfl, h.fill6 _ _ _ _ _ _⟩
      case rest =>
        obtain ⟨b2, v, rfl, h⟩ := hcut
        clear hB
        have hsz := h.size
        obtain ⟨s0, s1', s2', s3', s4', s5', t0, t1, t2, t3, t4, t5', hb6⟩ := (h).six
        go_wp2
        go_cut [5] from 6 (fun t5 wc => ∃ (L2 : List (Nat × Obj)) (lv u1 : Value), t5 = .pointer (some ⟨b2, 0, none⟩) ∧ OwnB lv 1 [.int .i64 8, .int .i64 p1, .int .i64 0, .string ⟨#[]⟩, u1] L2 ∧ PT x ((rowV u1, rowP b1) :: (v, p0) :: Q) (L2 ++ (b2, .cells #[.int .i64 14, .int .i64 tp, .int .i64 0, .string ⟨#[]⟩, v, lv] 141) :: (w.heap.size, .cells #[.int .i64 tk, .int .i64 tp, .string tx, .int .i64 tn] 93) :: L) s2 wc)
        case first =>
          go_region_law (first | (go_simp; go_at_call 175; refine (block_walk ok S h.drew eq2).mono ?_; rintro e w2 ⟨v1, rfl, h⟩; obtain ⟨ya, yc, rfl⟩ := row_shape h.top; have hsz := h.size; obtain ⟨s0, s1', s2', s3', s4', s5', t0, t1, t2, t3, t4, t5', hb6⟩ := (h).six) | (refine step_append_blk rfl (.tmp 13) (.tmp 16) rfl _ 0 _ _ _ _ _ _ _ _ (by simpa using h) OwnB.nil (by omega) (by simp [Act.eval]) (by simp [Act.eval]) ?_; intro lv' w3 L2 hp ho2; obtain ⟨xa, xc, rfl⟩ := ho2.shape; obtain ⟨s0, s1', s2', s3', s4', s5', t0, t1, t2, t3, t4, t5', hb6⟩ := (hp.perm List.perm_middle).six))
          all_goals go_wp2_with fail
          all_goals go_meet
          all_goals exact ⟨_, _, _, rfl, ho2, by simpa using hp.turnIn 5 _⟩
        case rest =>
          clear h
          obtain ⟨L2, lv, u1, rfl, ho, h⟩ := hcut
          have hsz := h.size
          obtain ⟨la, lc, rfl⟩ := ho.shape
          obtain ⟨s0, s1', s2', s3', s4', s5', t0, t1, t2, t3, t4, t5', hb6⟩ := (h.perm List.perm_middle).six
          cases hi : seesT x.ts x.fin s2 ⟨#[101, 108, 115, 101]⟩ with
          | false =>
            rw [hi] at hr
            simp only [Bool.false_eq_true, if_false] at hr
            cases hr
            go_wp2_with fail
            refine (accept_no ok ⟨#[101, 108, 115, 101]⟩ h hi).mono ?_
            rintro e w' ⟨rfl, h⟩
            have hsz := h.size
            obtain ⟨s0, s1', s2', s3', s4', s5', t0, t1, t2, t3, t4, t5', hb6⟩ := (h.perm List.perm_middle).six
            go_wp2
            go_ret
            have k := ((h.perm List.perm_middle).drop.perm List.perm_middle).drop
            have k' := OwnB.drop k ho
            exact ⟨_, rfl, k'.lose.lose.push (.mkIf1 ⟨14, tp, 0, ⟨#[]⟩⟩ p1 k'.lose.top k'.top (ho.orow k))⟩
          | true =>
            rw [hi] at hr
            simp only [if_true] at hr
            split at hr
            · cases hr
            · rename_i p2 bb2 s3 eq3
              cases hr
              go_wp2_with fail
              refine (accept_yes ok ⟨#[101, 108, 115, 101]⟩ (by decide) h hi).mono ?_
              rintro e w' ⟨rfl, h⟩
              have hsz := h.size
              obtain ⟨s0, s1', s2', s3', s4', s5', t0, t1, t2, t3, t4, t5', hb6⟩ := (h.perm List.perm_middle).six
              go_wp2
              go_cut [5] from 6 (fun t5 wc => ∃ (L2 : List (Nat × Obj)) (lv u2 : Value), t5 = .pointer (some ⟨b2, 0, none⟩) ∧ OwnB lv 2 [.int .i64 8, .int .i64 p1, .int .i64 0, .string ⟨#[]⟩, u1, .int .i64 8, .int .i64 p2, .int .i64 0, .string ⟨#[]⟩, u2] L2 ∧ PT x ((rowV u2, rowP bb2) :: (rowV u1, rowP b1) :: (v, p0) :: Q) (L2 ++ (b2, .cells #[.int .i64 14, .int .i64 tp, .int .i64 0, .string ⟨#[]⟩, v, lv] 141) :: (w.heap.size, .cells #[.int .i64 tk, .int .i64 tp, .string tx, .int .i64 tn] 93) :: L) s' wc)
              case first =>
                go_region_law (first | (go_simp; go_at_call 175; refine (block_walk ok S h.drew eq3).mono ?_; rintro e w2 ⟨v1, rfl, h⟩; obtain ⟨ya, yc, rfl⟩ := row_shape h.top; have hsz := h.size; obtain ⟨s0, s1', s2', s3', s4', s5', t0, t1, t2, t3, t4, t5', hb6⟩ := (h.perm List.perm_middle).six) | (refine step_append_blk rfl (.tmp 22) (.tmp 25) rfl _ 1 _ _ _ _ _ _ _ _ h ho (by omega) (by simp [Act.eval]) (by simp [Act.eval]) ?_; intro lv' w3 L2 hp ho2; obtain ⟨xa, xc, rfl⟩ := ho2.shape; obtain ⟨s0, s1', s2', s3', s4', s5', t0, t1, t2, t3, t4, t5', hb6⟩ := (hp.perm List.perm_middle).six))
                all_goals go_wp2_with fail
                all_goals go_meet
                all_goals exact ⟨_, _, _, rfl, by simpa using ho2, by simpa using hp.turnIn 5 _⟩
              case rest =>
                clear h ho
                obtain ⟨L3, lv, u2, rfl, ho, h⟩ := hcut
                have hsz := h.size
                obtain ⟨la2, lc2, rfl⟩ := ho.shape
                obtain ⟨s0, s1', s2', s3', s4', s5', t0, t1, t2, t3, t4, t5', hb6⟩ := (h.perm List.perm_middle).six
                go_wp2
                go_ret
                have k := ((h.perm List.perm_middle).drop.perm List.perm_middle).drop
                have k' := OwnB.drop k ho
                exact ⟨_, rfl, k'.lose.lose.lose.push (.mkIf2 ⟨14, tp, 0, ⟨#[]⟩⟩ p1 p2 k'.lose.lose.top k'.lose.top k'.top (ho.orow k))⟩
end
end
section
def whileI (ts : List Tok) (fin : Int) (R : RecI) (po : Int) (s : T) : Option (P × T) :=
  match R .cond s with
  | none => none
  | some (p, s1) =>
    match blockI ts fin R s1 with
    | none => none
    | some (pb, bs, s2) => some (.node 144 ⟨15, po, 0, ⟨#[]⟩⟩ [p, .node 134 ⟨8, pb, 0, ⟨#[]⟩⟩ bs], s2)
def endI (ts : List Tok) (fin : Int) (R : RecI) (ty : Nat) (k po : Int) (s : T) : Option (P × T) :=
  match lastTermI ts fin R s with
  | none => none
  | some (p, s1) => some (.node ty ⟨k, po, 0, ⟨#[]⟩⟩ [p], s1)
def assertI (ts : List Tok) (fin : Int) (R : RecI) (po : Int) (s : T) : Option (P × T) :=
  match R .cond s with
  | none => none
  | some (p, s1) => some (.node 218 ⟨19, po, 0, ⟨#[]⟩⟩ [p], upT (mustT ts fin s1 ⟨#[59]⟩))
def statementI (ts : List Tok) (fin : Int) (R : RecI) (s : T) : Option (P × T) :=
  if (tokT ts fin s).kind = 1 then nameStatementI ts fin R (tokT ts fin s) (upT s)
  else if seesT ts fin s ⟨#[42]⟩ then putI ts fin R (tokT ts fin s) (upT s)
  else if seesT ts fin s ⟨#[105, 102]⟩ then branchI ts fin R (tokT ts fin s) (upT s)
  else if seesT ts fin s ⟨#[119, 104, 105, 108, 101]⟩ then whileI ts fin R (tokT ts fin s).pos (upT s)
  else if seesT ts fin s ⟨#[102, 111, 114]⟩ then loopI ts fin R (upT s)
  else if seesT ts fin s ⟨#[114, 101, 97, 100]⟩ then some (.node 216 (nmH ts fin 17 (upT s)) [], upT (mustT ts fin (nmT ts fin (upT s)) ⟨#[59]⟩))
  else if seesT ts fin s ⟨#[112, 114, 105, 110, 116]⟩ then endI ts fin R 217 18 (tokT ts fin s).pos (upT s)
  else if seesT ts fin s ⟨#[97, 115, 115, 101, 114, 116]⟩ then assertI ts fin R (tokT ts fin s).pos (upT s)
  else if seesT ts fin s ⟨#[115, 116, 111, 112]⟩ then some (.node 219 ⟨20, (tokT ts fin s).pos, 0, ⟨#[]⟩⟩ [], upT (mustT ts fin (upT s) ⟨#[59]⟩))
  else if seesT ts fin s ⟨#[114, 101, 116, 117, 114, 110]⟩ then endI ts fin R 220 21 (tokT ts fin s).pos (upT s)
  else some (.nil, failT ts fin s 6)
section
variable {x : Cx} {Q : List (Value × P)} {L : List (Nat × Obj)} {s s' : T} {w w' : World} {R : RecI} {p : P}
set_option maxHeartbeats 8000000 in
set_option maxRecDepth 100000 in
theorem statement_name (ok : x.Ok) (G : GoodI x R) (h : PT x Q L s w) (hk : (tokT x.ts x.fin s).kind = 1) (hr : nameStatementI x.ts x.fin R (tokT x.ts x.fin s) (upT s) = some (p, s')) : Calls Tryz.prog 161 #[.pointer (some ⟨x.B, 0, none⟩)] w fun e w' => ∃ v, e = .returned v ∧ PT x ((v, p) :: Q) L s' w' := by
  have hsz := h.size
  have g0 := fTok0
  have hT := fun (w : World) (Q : List (Value × P)) (L : List (Nat × Obj)) (h : PT x Q L s w) => token_any ok h
  have hlt := tok_at (s := s) (ts := x.ts) (fin := x.fin) (.inl (by rw [hk]; decide)) (fun hc => (h.le hc).1)
  have hP := fun (w : World) (Q : List (Value × P)) (L : List (Nat × Obj)) (h : PT x Q L s w) => pass_any ok h (fun _ => hlt.2)
  have hNs := fun (w : World) (Q : List (Value × P)) (L : List (Nat × Obj)) (h : PT x Q L (upT s) w) => nameStatement_walk ok G (tokT x.ts x.fin s) h hr
  generalize tokT x.ts x.fin s = t at *
  obtain ⟨tk, tp, tx, tn⟩ := t
  simp only at hk
  subst hk
  simp only [Tok.val] at hT hP hNs
  go_enter Tryz.func161, Tryz.ntmps161
  go_wp2_with fail
  refine (hT _ _ _ h).mono ?_
  rintro e w' ⟨rfl, h⟩
  go_wp2_with fail
  refine (hP _ _ _ h).mono ?_
  rintro e w' ⟨rfl, h⟩
  go_wp2_with fail
  refine (hNs _ _ _ h).mono ?_
  rintro e w' ⟨v, rfl, h⟩
  rcases h.top.shp with rfl | ⟨ty, u, rfl⟩
  all_goals go_wp2
  all_goals go_ret
  all_goals exact ⟨_, rfl, h⟩
set_option maxHeartbeats 8000000 in
set_option maxRecDepth 100000 in
theorem statement_put (ok : x.Ok) (G : GoodI x R) (C : GoodC x R) (S : GoodS x R) (h : PT x Q L s w) (hk : ¬ (tokT x.ts x.fin s).kind = 1) (h0 : seesT x.ts x.fin s ⟨#[42]⟩ = true) (hr : putI x.ts x.fin R (tokT x.ts x.fin s) (upT s) = some (p, s')) : Calls Tryz.prog 161 #[.pointer (some ⟨x.B, 0, none⟩)] w fun e w' => ∃ v, e = .returned v ∧ PT x ((v, p) :: Q) L s' w' := by
  have hsz := h.size
  have g0 := fTok0
  have g1 := fTok1
  have hT := fun (w : World) (Q : List (Value × P)) (L : List (Nat × Obj)) (h : PT x Q L s w) => token_any ok h
  have e1 : ((tokT x.ts x.fin s).kind == 1) = false := by simpa using hk
  have hPu := fun (w : World) (Q : List (Value × P)) (L : List (Nat × Obj)) (h : PT x Q L (upT s) w) => put_walk ok G (tokT x.ts x.fin s) h hr
  clear hk
  generalize tokT x.ts x.fin s = t at *
  obtain ⟨tk, tp, tx, tn⟩ := t
  simp only [Tok.val] at hT hPu e1
  go_enter Tryz.func161, Tryz.ntmps161
  go_wp2_with (first | (go_at_call 60; refine (hT _ _ _ (by first | exact h | exact h.drewN _ | exact h.hold _ | exact (h.hold _).drew | exact (h.hold _).drewN _ | exact h.drew | exact h.alloc _ | exact h.less | exact (h.alloc _).drewN _ | exact (h.less).alloc _)).mono ?_; rintro e w' ⟨rfl, h⟩; have hsz := h.size; (try (obtain ⟨r0, r1, r2, r3, z0, z1, z2, z3⟩ := h.four; have hs4 := (Array.getElem?_eq_some_iff.1 h.head).1))) | (go_at_call 104; refine (accept_yes ok _ (by decide) (by first | exact h | exact h.drewN _ | exact h.hold _ | exact (h.hold _).drew | exact (h.hold _).drewN _ | exact h.drew | exact h.alloc _ | exact h.less | exact (h.alloc _).drewN _ | exact (h.less).alloc _) (by assumption)).mono ?_; rintro e w' ⟨rfl, h⟩; have hsz := h.size; (try (obtain ⟨r0, r1, r2, r3, z0, z1, z2, z3⟩ := h.four; have hs4 := (Array.getElem?_eq_some_iff.1 h.head).1))) | (go_at_call 104; refine (accept_no ok _ (by first | exact h | exact h.drewN _ | exact h.hold _ | exact (h.hold _).drew | exact (h.hold _).drewN _ | exact h.drew | exact h.alloc _ | exact h.less | exact (h.alloc _).drewN _ | exact (h.less).alloc _) (by first | assumption | exact eq_false_of_ne_true (by assumption))).mono ?_; rintro e w' ⟨rfl, h⟩; have hsz := h.size; (try (obtain ⟨r0, r1, r2, r3, z0, z1, z2, z3⟩ := h.four; have hs4 := (Array.getElem?_eq_some_iff.1 h.head).1))) | (go_at_call 172; refine (hPu _ _ _ (by first | exact h | exact h.drewN _ | exact h.hold _ | exact (h.hold _).drew | exact (h.hold _).drewN _ | exact h.drew | exact h.alloc _ | exact h.less | exact (h.alloc _).drewN _ | exact (h.less).alloc _)).mono ?_; rintro e w' ⟨v, rfl, h⟩; have hsz := h.size; (try (obtain ⟨r0, r1, r2, r3, z0, z1, z2, z3⟩ := h.four; have hs4 := (Array.getElem?_eq_some_iff.1 h.head).1)); rcases h.top.shp with rfl | ⟨ty, u, rfl⟩))
  all_goals go_ret
  all_goals exact ⟨_, rfl, h.drop⟩
set_option maxHeartbeats 8000000 in
set_option maxRecDepth 100000 in
theorem statement_if (ok : x.Ok) (G : GoodI x R) (C : GoodC x R) (S : GoodS x R) (h : PT x Q L s w) (hk : ¬ (tokT x.ts x.fin s).kind = 1) (h0 : seesT x.ts x.fin s ⟨#[42]⟩ = false) (h1 : seesT x.ts x.fin s ⟨#[105, 102]⟩ = true) (hr : branchI x.ts x.fin R (tokT x.ts x.fin s) (upT s) = some (p, s')) : Calls Tryz.prog 161 #[.pointer (some ⟨x.B, 0, none⟩)] w fun e w' => ∃ v, e = .returned v ∧ PT x ((v, p) :: Q) L s' w' := by
  have hsz := h.size
  have g0 := fTok0
  have g1 := fTok1
  have hT := fun (w : World) (Q : List (Value × P)) (L : List (Nat × Obj)) (h : PT x Q L s w) => token_any ok h
  have e1 : ((tokT x.ts x.fin s).kind == 1) = false := by simpa using hk
  have hPu := fun (w : World) (Q : List (Value × P)) (L : List (Nat × Obj)) (h : PT x Q L (upT s) w) => branch_walk ok C S (tokT x.ts x.fin s) h hr
  clear hk
  generalize tokT x.ts x.fin s = t at *
  obtain ⟨tk, tp, tx, tn⟩ := t
  simp only [Tok.val] at hT hPu e1
  go_enter Tryz.func161, Tryz.ntmps161
  go_wp2_with (first | (go_at_call 60; refine (hT _ _ _ (by first | exact h | exact h.drewN _ | exact h.hold _ | exact (h.hold _).drew | exact (h.hold _).drewN _ | exact h.drew | exact h.alloc _ | exact h.less | exact (h.alloc _).drewN _ | exact (h.less).alloc _)).mono ?_; rintro e w' ⟨rfl, h⟩; have hsz := h.size; (try (obtain ⟨r0, r1, r2, r3, z0, z1, z2, z3⟩ := h.four; have hs4 := (Array.getElem?_eq_some_iff.1 h.head).1))) | (go_at_call 104; refine (accept_yes ok _ (by decide) (by first | exact h | exact h.drewN _ | exact h.hold _ | exact (h.hold _).drew | exact (h.hold _).drewN _ | exact h.drew | exact h.alloc _ | exact h.less | exact (h.alloc _).drewN _ | exact (h.less).alloc _) (by assumption)).mono ?_; rintro e w' ⟨rfl, h⟩; have hsz := h.size; (try (obtain ⟨r0, r1, r2, r3, z0, z1, z2, z3⟩ := h.four; have hs4 := (Array.getElem?_eq_some_iff.1 h.head).1))) | (go_at_call 104; refine (accept_no ok _ (by first | exact h | exact h.drewN _ | exact h.hold _ | exact (h.hold _).drew | exact (h.hold _).drewN _ | exact h.drew | exact h.alloc _ | exact h.less | exact (h.alloc _).drewN _ | exact (h.less).alloc _) (by first | assumption | exact eq_false_of_ne_true (by assumption))).mono ?_; rintro e w' ⟨rfl, h⟩; have hsz := h.size; (try (obtain ⟨r0, r1, r2, r3, z0, z1, z2, z3⟩ := h.four; have hs4 := (Array.getElem?_eq_some_iff.1 h.head).1))) | (go_at_call 173; refine (hPu _ _ _ (by first | exact h | exact h.drewN _ | exact h.hold _ | exact (h.hold _).drew | exact (h.hold _).drewN _ | exact h.drew | exact h.alloc _ | exact h.less | exact (h.alloc _).drewN _ | exact (h.less).alloc _)).mono ?_; rintro e w' ⟨v, rfl, h⟩; have hsz := h.size; (try (obtain ⟨r0, r1, r2, r3, z0, z1, z2, z3⟩ := h.four; have hs4 := (Array.getElem?_eq_some_iff.1 h.head).1)); rcases h.top.shp with rfl | ⟨ty, u, rfl⟩))
  all_goals go_ret
  all_goals exact ⟨_, rfl, h.drop⟩
set_option maxHeartbeats 8000000 in
set_option maxRecDepth 100000 in
theorem statement_for (ok : x.Ok) (G : GoodI x R) (C : GoodC x R) (S : GoodS x R) (h : PT x Q L s w) (hk : ¬ (tokT x.ts x.fin s).kind = 1) (h0 : seesT x.ts x.fin s ⟨#[42]⟩ = false) (h1 : seesT x.ts x.fin s ⟨#[105, 102]⟩ = false) (h2 : seesT x.ts x.fin s ⟨#[119, 104, 105, 108, 101]⟩ = false) (h3 : seesT x.ts x.fin s ⟨#[102, 111, 114]⟩ = true) (hr : loopI x.ts x.fin R (upT s) = some (p, s')) : Calls Tryz.prog 161 #[.pointer (some ⟨x.B, 0, none⟩)] w fun e w' => ∃ v, e = .returned v ∧ PT x ((v, p) :: Q) L s' w' := by
  have hsz := h.size
  have g0 := fTok0
  have g1 := fTok1
  have hT := fun (w : World) (Q : List (Value × P)) (L : List (Nat × Obj)) (h : PT x Q L s w) => token_any ok h
  have e1 : ((tokT x.ts x.fin s).kind == 1) = false := by simpa using hk
  have hPu := fun (w : World) (Q : List (Value × P)) (L : List (Nat × Obj)) (h : PT x Q L (upT s) w) => loop_walk ok G S h hr
  clear hk
  generalize tokT x.ts x.fin s = t at *
  obtain ⟨tk, tp, tx, tn⟩ := t
  simp only [Tok.val] at hT e1
  go_enter Tryz.func161, Tryz.ntmps161
  go_wp2_with (first | (go_at_call 60; refine (hT _ _ _ (by first | exact h | exact h.drewN _ | exact h.hold _ | exact (h.hold _).drew | exact (h.hold _).drewN _ | exact h.drew | exact h.alloc _ | exact h.less | exact (h.alloc _).drewN _ | exact (h.less).alloc _)).mono ?_; rintro e w' ⟨rfl, h⟩; have hsz := h.size; (try (obtain ⟨r0, r1, r2, r3, z0, z1, z2, z3⟩ := h.four; have hs4 := (Array.getElem?_eq_some_iff.1 h.head).1))) | (go_at_call 104; refine (accept_yes ok _ (by decide) (by first | exact h | exact h.drewN _ | exact h.hold _ | exact (h.hold _).drew | exact (h.hold _).drewN _ | exact h.drew | exact h.alloc _ | exact h.less | exact (h.alloc _).drewN _ | exact (h.less).alloc _) (by assumption)).mono ?_; rintro e w' ⟨rfl, h⟩; have hsz := h.size; (try (obtain ⟨r0, r1, r2, r3, z0, z1, z2, z3⟩ := h.four; have hs4 := (Array.getElem?_eq_some_iff.1 h.head).1))) | (go_at_call 104; refine (accept_no ok _ (by first | exact h | exact h.drewN _ | exact h.hold _ | exact (h.hold _).drew | exact (h.hold _).drewN _ | exact h.drew | exact h.alloc _ | exact h.less | exact (h.alloc _).drewN _ | exact (h.less).alloc _) (by first | assumption | exact eq_false_of_ne_true (by assumption))).mono ?_; rintro e w' ⟨rfl, h⟩; have hsz := h.size; (try (obtain ⟨r0, r1, r2, r3, z0, z1, z2, z3⟩ := h.four; have hs4 := (Array.getElem?_eq_some_iff.1 h.head).1))) | (go_at_call 176; refine (hPu _ _ _ (by first | exact h | exact h.drewN _ | exact h.hold _ | exact (h.hold _).drew | exact (h.hold _).drewN _ | exact h.drew | exact h.alloc _ | exact h.less | exact (h.alloc _).drewN _ | exact (h.less).alloc _)).mono ?_; rintro e w' ⟨v, rfl, h⟩; have hsz := h.size; (try (obtain ⟨r0, r1, r2, r3, z0, z1, z2, z3⟩ := h.four; have hs4 := (Array.getElem?_eq_some_iff.1 h.head).1)); rcases h.top.shp with rfl | ⟨ty, u, rfl⟩))
  all_goals go_ret
  all_goals exact ⟨_, rfl, h.drop⟩
end
end
end Go.Proofs.YtjikjejfobnfnaaGreatDoor.imp
