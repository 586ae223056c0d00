/-
  Rows that grow beside blocks that are held; blocks of statements, as plain functions.
  Blocks of statements, walked.
  Blocks.
  Functions.
  Loops over numbers.
  Rows of blocks.
-/
import Derived.Test.YtjikjejfobnfnaaGreatDoorC24
import Derived.Deep.RegionLaw
namespace Go.Proofs.YtjikjejfobnfnaaGreatDoor.imp
open Go.RowKit Go.Proofs.YtjikjejfobnfnaaGreatDoor.num Go.Proofs.YtjikjejfobnfnaaGreatDoor.lex Go.Proofs.YtjikjejfobnfnaaGreatDoor.par
set_option linter.unusedVariables false
section
/-- 'list = append(list, piece)', in a region that draws its order. -/
theorem step_append_part {x : Cx} {Q Q' : List (Value × P)} {L L' : List (Nat × Obj)} {s : T} {w : World} {ops : Array Oper} {o : Oper} {a : Act} {K : Act → World → Prop} {Q0 : Exit → Act → World → Prop} {E : Prop}
    (hg : o.guard = none) (l y : Operand) (hop : o.op = Op.call { callee := Callee.builtin Builtin.append, args := #[l, y], argTypes := #[42, 42] })
    (lv v : Value) (ps : List P) (p : P) (h : PT x ((v, p) :: (Q' ++ Q)) (L' ++ L) s w) (ho : Own lv ps Q' L') (hn : ps.length < 1048576)
    (hl : a.eval l = lv) (hy : a.eval y = .slice (some ⟨w.heap.size, 0, none⟩) 1 1)
    (hK : ∀ lv' w', Lst x Q L s lv' (ps ++ [p]) w' → K (a.put o.dst lv') w') :
    if Region.wanted o (yielded ops a.tmps) = true then Oper.wp Tryz.prog o a (w.alloc (.cells #[v] 85)) K Q0 else E := by
  have hw : Region.wanted o (yielded ops a.tmps) = true := by simp [Region.wanted, hg]
  rw [if_pos hw]
  obtain ⟨i0, hi, hz0, hz1, hz2⟩ := info_parts info85
  have h1 := h.alloc (.cells #[v] 85)
  have hsh := h.top.shp
  obtain ⟨a0, cap, rfl, ho⟩ := ho
  have hrow : ∃ vs, (w.alloc (.cells #[v] 85)).ownsRow (x.B + 1) 85 1 (.slice a0 ps.length cap) ps.length vs ∧ vs.length = ps.length ∧ Q' = vs.zip ps := by
    rcases ho with ⟨rfl, rfl, rfl, rfl, rfl⟩ | ⟨g, cur, vs, rfl, rfl, rfl, hvl, hc, hm, hsz, hx⟩
    · exact ⟨[], ⟨rfl, .inl ⟨rfl, rfl⟩⟩, rfl, rfl⟩
    · have hk := h1.keep g _ (by simp : (g, Obj.cells cur 85) ∈ [(g, Obj.cells cur 85)] ++ L)
      exact ⟨vs, ⟨by simpa using hvl, .inr ⟨g, cap, cur, rfl, hk.1, hk.2, hc, hm, by simpa using hsz, by simpa using hx⟩⟩, hvl, rfl⟩
  obtain ⟨vs, hrow, hvl, hQ⟩ := hrow
  obtain ⟨v', w', hrun, r1, r2, _, r3⟩ := run_append_own_at (P := Tryz.prog) (w.alloc (.cells #[v] 85)) (x.B + 1) 42 o.type 85 i0 .nilIface 1 16 Tryz.underlying42 hi hz0 hz1 hz2 rfl (by decide) (.slice a0 ps.length cap) ps.length vs hrow ⟨w.heap.size, 0, none⟩ 1 1 [v] rfl
    (by intro j u hu; match j, hu with | 0, hu => (simp at hu; subst hu; exact cell_of (one_first _ _) rfl)) (by intro u hu; simp at hu; subst hu; rcases hsh with rfl | ⟨ty, z, rfl⟩ <;> rfl) (by unfold maxLen; omega) (by omega) (by have := h.size; simp; omega)
  have hfin : Lst x Q L s v' (ps ++ [p]) w' := by
    rcases r1.2 with ⟨_, e0⟩ | ⟨g', cap', cur', rfl, hb', hh', hc', hm', hsz', hx'⟩
    · omega
    have hP : PT x ((v, p) :: (Q' ++ Q)) ((g', .cells cur' 85) :: L) s w' := by
      rcases ho with ⟨rfl, rfl, rfl, rfl, rfl⟩ | ⟨g, cur, vs2, rfl, rfl, rfl, hvl2, hc, hm, hsz, hx⟩
      · exact PT.newrow (L := L) h1 r2 hh' (by rcases r3 with r3 | r3 <;> simp [Value.ownBlock] at r3; simpa using r3)
      · exact PT.regrow (L := L) h1 r2 hh' (by rcases r3 with r3 | r3 <;> simp [Value.ownBlock] at r3; (· exact .inl r3); (· exact .inr (by simpa using r3)))
    refine ⟨(vs ++ [v]).zip (ps ++ [p]), [(g', .cells cur' 85)], ?_, _, cap', by simp, .inr ⟨g', cur', vs ++ [v], rfl, rfl, rfl, by simp [hvl], by simpa using hc', hm', by simpa using hsz', by simpa using hx'⟩⟩
    refine ⟨hP.le, hP.blk, fun u q hm2 => hP.q u q ?_, hP.keep, hP.nd, hP.bel⟩
    rw [List.zip_append hvl] at hm2
    subst hQ
    simp at hm2 ⊢
    rcases hm2 with hm2 | hm2 | hm2
    · exact .inr (.inl hm2)
    · exact .inl hm2
    · exact .inr (.inr hm2)
  unfold Oper.wp
  simp [execOp, hop, resolve, invoke, builtin, hl, hy, hrun, Result.andThen]
  exact hK v' w' hfin

section
variable {x : Cx} {Q : List (Value × P)} {L L2 : List (Nat × Obj)} {s s' : T} {w w' : World} {R : RecI} {p : P}
theorem PT.perm (h : PT x Q L s w) (hp : L.Perm L2) : PT x Q L2 s w :=
  ⟨h.le, h.blk, fun v p hm => (h.q v p hm).of_blocks fun b o hbo _ hn => ⟨hbo, fun o' hin => hn o' (hp.mem_iff.2 hin)⟩, fun b o hm => h.keep b o (hp.mem_iff.2 hm), (hp.map (·.1)).nodup_iff.1 h.nd, h.bel⟩
theorem Lst.turnIn {b : Nat} {cs : Array Value} {t : TypeId} {lv : Value} {ps : List P} (h : Lst x Q ((b, .cells cs t) :: L) s lv ps w) (i : Nat) (v : Value) : Lst x Q ((b, .cells (cs.setIfInBounds i v) t) :: L) s lv ps (w.setCell ⟨b, i, none⟩ v) := by
  obtain ⟨Q', L', h, ho⟩ := h
  have k := (h.perm (L2 := (b, .cells cs t) :: (L' ++ L)) List.perm_middle).turn i v
  exact ⟨Q', L', k.perm List.perm_middle.symm, ho⟩
theorem PT.fill5 {b : Nat} {a0 a1 a2 a3 a4 : Value} {t : TypeId} (h : PT x Q ((b, .cells #[a0, a1, a2, a3, a4] t) :: L) s w) (v0 v1 v2 v3 v4 : Value) :
    PT x Q ((b, .cells #[v0, v1, v2, v3, v4] t) :: L) s (((((w.setCell ⟨b, 0, none⟩ v0).setCell ⟨b, 1, none⟩ v1).setCell ⟨b, 2, none⟩ v2).setCell ⟨b, 3, none⟩ v3).setCell ⟨b, 4, none⟩ v4) := by
  have := ((((h.turn 0 v0).turn 1 v1).turn 2 v2).turn 3 v3).turn 4 v4
  simpa using this
theorem PT.at5 {b : Nat} {a0 a1 a2 a3 a4 : Value} {t : TypeId} (h : PT x Q L s w) (hm : (b, Obj.cells #[a0, a1, a2, a3, a4] t) ∈ L) : w.cell? ⟨b, 0, none⟩ = some a0 ∧ w.cell? ⟨b, 1, none⟩ = some a1 ∧ w.cell? ⟨b, 2, none⟩ = some a2 ∧ w.cell? ⟨b, 3, none⟩ = some a3 ∧ w.cell? ⟨b, 4, none⟩ = some a4 ∧ w.frozen? ⟨b, 0, none⟩ = false ∧ w.frozen? ⟨b, 1, none⟩ = false ∧ w.frozen? ⟨b, 2, none⟩ = false ∧ w.frozen? ⟨b, 3, none⟩ = false ∧ w.frozen? ⟨b, 4, none⟩ = false ∧ b < w.heap.size :=
  have k := (h.keep b _ hm).2
  ⟨cell_of k rfl, cell_of k rfl, cell_of k rfl, cell_of k rfl, cell_of k rfl, frozen_of k, frozen_of k, frozen_of k, frozen_of k, frozen_of k, (Array.getElem?_eq_some_iff.1 k).1⟩
end
def statementsLI (ts : List Tok) (fin : Int) (R : RecI) : Nat → List P → T → Option (List P × T)
  | 0, _, _ => none
  | f + 1, ps, s =>
    if s.c = 0 then
      if seesT ts fin s ⟨#[125]⟩ then some (ps, upT s)
      else
        match R .statement s with
        | none => none
        | some (q, s1) => statementsLI ts fin R f (ps ++ [q]) s1
    else some (ps, s)
/-- Statements behind a brace: a block. -/
def statementsI (ts : List Tok) (fin : Int) (R : RecI) (s : T) : Option (List P × T) :=
  match statementsLI ts fin R 1000 [] s with
  | none => none
  | some (ps, s1) => some (ps, lessT s1)
/-- What the rules of statements must do. -/
structure GoodS (x : Cx) (R : RecI) : Prop where
  statement : ∀ {Q L s w p s'}, PT x Q L s w → R .statement s = some (p, s') → Calls Tryz.prog 161 #[.pointer (some ⟨x.B, 0, none⟩)] w fun e w' => ∃ v, e = .returned v ∧ PT x ((v, p) :: Q) L s' w'
end
section
theorem size1 (w : World) (o : Obj) : (w.alloc o).heap.size = w.heap.size + 1 := by simp
section
variable {x : Cx} {Q : List (Value × P)} {L : List (Nat × Obj)} {s s' : T} {w w' : World} {R : RecI} {ps : List P}
theorem Own.shape {lv : Value} {ps : List P} {Q' : List (Value × P)} {L' : List (Nat × Obj)} (h : Own lv ps Q' L') : ∃ a c, lv = .slice a ps.length c := by
  obtain ⟨a, c, e, _⟩ := h
  exact ⟨a, c, e⟩
theorem Lst.finish {b1 b2 b3 : Nat} {o1 o3 : Obj} {a0 a1 a2 a3 a4 : Value} {Q' : List (Value × P)} {L' : List (Nat × Obj)} {lv : Value} (h : PT x (Q' ++ Q) (L' ++ (b3, o3) :: (b2, .cells #[a0, a1, a2, a3, a4] 134) :: (b1, o1) :: L) s w) (ho : Own lv ps Q' L') (v0 v1 v2 v3 v4 : Value) :
    (((((w.setCell ⟨b2, 0, none⟩ v0).setCell ⟨b2, 1, none⟩ v1).setCell ⟨b2, 2, none⟩ v2).setCell ⟨b2, 3, none⟩ v3).setCell ⟨b2, 4, none⟩ v4).heap[b2]? = some (.cells #[v0, v1, v2, v3, v4] 134) ∧
    PT x ((rowV lv, rowP ps) :: Q) L s (((((w.setCell ⟨b2, 0, none⟩ v0).setCell ⟨b2, 1, none⟩ v1).setCell ⟨b2, 2, none⟩ v2).setCell ⟨b2, 3, none⟩ v3).setCell ⟨b2, 4, none⟩ v4) := by
  have k := (h.perm (L2 := (b2, .cells #[a0, a1, a2, a3, a4] 134) :: (b3, o3) :: (b1, o1) :: (L' ++ L)) (by
    refine List.perm_middle.trans ?_
    refine (List.Perm.cons _ List.perm_middle).trans ((List.Perm.cons _ (List.Perm.cons _ List.perm_middle)).trans ?_)
    exact List.Perm.swap ..)).fill5 v0 v1 v2 v3 v4
  exact ⟨k.head, Lst.done ⟨Q', L', k.drop.drop.drop, ho⟩⟩
def StI (x : Cx) (Q : List (Value × P)) (L : List (Nat × Obj)) (R : RecI) (tk tp tn : Int) (tx : ByteArray) (b1 b2 b3 : Nat) (ps : List P) (s' : T) (wr : World) (f : Nat) : Prop :=
  ∃ (qs : List P) (s1 : T) (lv : Value), Lst x Q ((b3, .cells #[.int .i64 8, .int .i64 tp, .int .i64 0, .string ⟨#[]⟩, lv] 134) :: (b2, .cells #[.int .i64 0, .int .i64 0, .int .i64 0, .string ⟨#[]⟩, .slice none 0 0] 134) :: (b1, .cells #[.int .i64 tk, .int .i64 tp, .string tx, .int .i64 tn] 93) :: L) s1 lv qs wr ∧ qs.length + f ≤ 1000 ∧ statementsLI x.ts x.fin R f qs s1 = some (ps, s')
set_option maxHeartbeats 8000000 in
set_option maxRecDepth 100000 in
theorem statements_walk (ok : x.Ok) (S : GoodS x R) (t : Tok) (h : PT x Q L s w) (hr : statementsI x.ts x.fin R s = some (ps, s')) : Calls Tryz.prog 141 #[.pointer (some ⟨x.B, 0, none⟩), t.val] w fun e w' => ∃ v, e = .returned (.agg #[.int .i64 8, .int .i64 t.pos, .int .i64 0, .string ⟨#[]⟩, v]) ∧ PT x ((rowV v, rowP ps) :: Q) L s' w' := by
  obtain ⟨tk, tp, tx, tn⟩ := t
  have hsz := h.size
  have n1 := nilQ
  simp only [Tok.val]
  unfold statementsI at hr
  split at hr
  · cases hr
  · rename_i qs0 s0 e0
    cases hr
    have h3 := ((h.hold (.cells #[.int .i64 tk, .int .i64 tp, .string tx, .int .i64 tn] 93)).hold (.cells #[.int .i64 0, .int .i64 0, .int .i64 0, .string ⟨#[]⟩, .slice none 0 0] 134)).hold (.cells #[.int .i64 8, .int .i64 tp, .int .i64 0, .string ⟨#[]⟩, .slice none 0 0] 134)
    simp only [size1] at h3
    go_enter Tryz.func141, Tryz.ntmps141
    go_wp2
    go_loopw [11] (fun _ wr => ∃ f, StI x Q L R tk tp tn tx w.heap.size (w.heap.size + 1) (w.heap.size + 1 + 1) ps s0 wr f) (fun _ wr => least (StI x Q L R tk tp tn tx w.heap.size (w.heap.size + 1) (w.heap.size + 1 + 1) ps s0 wr))
    case atStart => exact ⟨1000, [], _, _, Lst.nil h3, by simp, e0⟩
    case round =>
      clear h h3 e0
      have hr := least_is hrel
      generalize hF : least (StI x Q L R tk tp tn tx w.heap.size (w.heap.size + 1) (w.heap.size + 1 + 1) ps s0 wr) = F at hr
      obtain ⟨qs, s1, lv, ⟨Q', L', h, ho⟩, hlen, hl⟩ := hr
      obtain ⟨la, lc, rfl⟩ := ho.shape
      cases F with
      | zero => simp [statementsLI] at hl
      | succ f =>
        rw [statementsLI] at hl
        have hM := hide (Nat.lt_of_lt_of_eq (Nat.lt_succ_self f) hF.symm)
        clear hF
        have hsz2 := h.size; have c3 := h.c3; have f3 := h.fz 3; have c4 := h.c4; obtain ⟨d0, d1, d2, d3, d4, _, _, _, _, e4, hb3⟩ := h.at5 (b := w.heap.size + 1 + 1) (List.mem_append_right _ (List.mem_cons_self ..)); obtain ⟨m0, m1, m2, m3, m4, y0, y1, y2, y3, y4, hb2⟩ := h.at5 (b := w.heap.size + 1) (List.mem_append_right _ (List.mem_cons_of_mem _ (List.mem_cons_self ..)))
        by_cases hc : s1.c = 0
        · rw [if_pos hc] at hl
          rw [errV_nil hc] at c4
          cases hi : seesT x.ts x.fin s1 ⟨#[125]⟩ with
          | true =>
            rw [hi] at hl
            simp only [if_true] at hl
            cases hl
            go_wp2_with (first | (go_at_call 104; refine (accept_yes ok _ (by decide) (by first | exact h | exact h.drewN _ | exact h.hold _ | exact (h.hold _).drew | exact (h.hold _).drewN _ | exact h.drew | exact h.alloc _ | exact h.less | exact (h.alloc _).drewN _ | exact (h.less).alloc _) (by assumption)).mono ?_; rintro e w' ⟨rfl, h⟩; have hsz2 := h.size; have c3 := h.c3; have f3 := h.fz 3; have c4 := h.c4; obtain ⟨d0, d1, d2, d3, d4, _, _, _, _, e4, hb3⟩ := h.at5 (b := w.heap.size + 1 + 1) (List.mem_append_right _ (List.mem_cons_self ..)); obtain ⟨m0, m1, m2, m3, m4, y0, y1, y2, y3, y4, hb2⟩ := h.at5 (b := w.heap.size + 1) (List.mem_append_right _ (List.mem_cons_of_mem _ (List.mem_cons_self ..)))) | (go_at_call 104; refine (accept_no ok _ (by first | exact h | exact h.drewN _ | exact h.hold _ | exact (h.hold _).drew | exact (h.hold _).drewN _ | exact h.drew | exact h.alloc _ | exact h.less | exact (h.alloc _).drewN _ | exact (h.less).alloc _) (by first | assumption | exact eq_false_of_ne_true (by assumption))).mono ?_; rintro e w' ⟨rfl, h⟩; have hsz2 := h.size; have c3 := h.c3; have f3 := h.fz 3; have c4 := h.c4; obtain ⟨d0, d1, d2, d3, d4, _, _, _, _, e4, hb3⟩ := h.at5 (b := w.heap.size + 1 + 1) (List.mem_append_right _ (List.mem_cons_self ..)); obtain ⟨m0, m1, m2, m3, m4, y0, y1, y2, y3, y4, hb2⟩ := h.at5 (b := w.heap.size + 1) (List.mem_append_right _ (List.mem_cons_of_mem _ (List.mem_cons_self ..)))))
            have F := Lst.finish h.less ho (.int .i64 8) (.int .i64 tp) (.int .i64 0) (.string ⟨#[]⟩) (.slice la ps.length lc)
            refine bodyPost_ret (results_cell1 rfl _ _ (w.heap.size + 1) 134 _ (0, 0) _ rfl F.1 Tryz.underlying134 rfl (by kernel_rfl)) rfl ?_
            exact ⟨_, rfl, F.2⟩
          | false =>
            rw [hi] at hl
            simp only [Bool.false_eq_true, if_false] at hl
            split at hl
            · cases hl
            · rename_i q s2 eq
              cases q
              · go_wp2_with (first | (go_at_call 104; refine (accept_yes ok _ (by decide) (by first | exact h | exact h.drewN _ | exact h.hold _ | exact (h.hold _).drew | exact (h.hold _).drewN _ | exact h.drew | exact h.alloc _ | exact h.less | exact (h.alloc _).drewN _ | exact (h.less).alloc _) (by assumption)).mono ?_; rintro e w' ⟨rfl, h⟩; have hsz2 := h.size; have c3 := h.c3; have f3 := h.fz 3; have c4 := h.c4; obtain ⟨d0, d1, d2, d3, d4, _, _, _, _, e4, hb3⟩ := h.at5 (b := w.heap.size + 1 + 1) (List.mem_append_right _ (List.mem_cons_self ..)); obtain ⟨m0, m1, m2, m3, m4, y0, y1, y2, y3, y4, hb2⟩ := h.at5 (b := w.heap.size + 1) (List.mem_append_right _ (List.mem_cons_of_mem _ (List.mem_cons_self ..)))) | (go_at_call 104; refine (accept_no ok _ (by first | exact h | exact h.drewN _ | exact h.hold _ | exact (h.hold _).drew | exact (h.hold _).drewN _ | exact h.drew | exact h.alloc _ | exact h.less | exact (h.alloc _).drewN _ | exact (h.less).alloc _) (by first | assumption | exact eq_false_of_ne_true (by assumption))).mono ?_; rintro e w' ⟨rfl, h⟩; have hsz2 := h.size; have c3 := h.c3; have f3 := h.fz 3; have c4 := h.c4; obtain ⟨d0, d1, d2, d3, d4, _, _, _, _, e4, hb3⟩ := h.at5 (b := w.heap.size + 1 + 1) (List.mem_append_right _ (List.mem_cons_self ..)); obtain ⟨m0, m1, m2, m3, m4, y0, y1, y2, y3, y4, hb2⟩ := h.at5 (b := w.heap.size + 1) (List.mem_append_right _ (List.mem_cons_of_mem _ (List.mem_cons_self ..)))))
                go_region_law (first | (go_simp; go_at_call 161; refine (S.statement h.drew eq).mono ?_; rintro e w2 ⟨v, rfl, h⟩; obtain rfl := h.top.nil_eq; have hsz2 := h.size; have c3 := h.c3; have f3 := h.fz 3; have c4 := h.c4; obtain ⟨d0, d1, d2, d3, d4, _, _, _, _, e4, hb3⟩ := h.at5 (b := w.heap.size + 1 + 1) (List.mem_append_right _ (List.mem_cons_self ..)); obtain ⟨m0, m1, m2, m3, m4, y0, y1, y2, y3, y4, hb2⟩ := h.at5 (b := w.heap.size + 1) (List.mem_append_right _ (List.mem_cons_of_mem _ (List.mem_cons_self ..)))) | (refine step_append_part rfl (.tmp 23) (.tmp 26) rfl _ _ _ _ h ho (by omega) (by simp [Act.eval]) (by simp [Act.eval]) ?_; intro lv' w3 hL; obtain ⟨Q2, L2, h2, ho2⟩ := id hL; obtain ⟨la2, lc2, rfl⟩ := ho2.shape; obtain ⟨_, _, _, _, d4, _, _, _, _, e4, hb3⟩ := h2.at5 (b := w.heap.size + 1 + 1) (List.mem_append_right _ (List.mem_cons_self ..))))
                all_goals go_wp2
                all_goals go_roundw
                all_goals first | exact ⟨f, _, _, _, by simpa using hL.turnIn 4 _, by simp; omega, hl⟩ | ((repeat apply Exists.intro); exact ⟨⟨f, _, _, _, by simpa using hL.turnIn 4 _, by simp; omega, hl⟩, rfl⟩) | exact Nat.lt_of_le_of_lt (least_le (show StI x Q L R tk tp tn tx w.heap.size (w.heap.size + 1) (w.heap.size + 1 + 1) ps s0 _ f from ⟨_, _, _, by simpa using hL.turnIn 4 _, by simp; omega, hl⟩)) (Nat.lt_succ_self f)
              · go_wp2_with (first | (go_at_call 104; refine (accept_yes ok _ (by decide) (by first | exact h | exact h.drewN _ | exact h.hold _ | exact (h.hold _).drew | exact (h.hold _).drewN _ | exact h.drew | exact h.alloc _ | exact h.less | exact (h.alloc _).drewN _ | exact (h.less).alloc _) (by assumption)).mono ?_; rintro e w' ⟨rfl, h⟩; have hsz2 := h.size; have c3 := h.c3; have f3 := h.fz 3; have c4 := h.c4; obtain ⟨d0, d1, d2, d3, d4, _, _, _, _, e4, hb3⟩ := h.at5 (b := w.heap.size + 1 + 1) (List.mem_append_right _ (List.mem_cons_self ..)); obtain ⟨m0, m1, m2, m3, m4, y0, y1, y2, y3, y4, hb2⟩ := h.at5 (b := w.heap.size + 1) (List.mem_append_right _ (List.mem_cons_of_mem _ (List.mem_cons_self ..)))) | (go_at_call 104; refine (accept_no ok _ (by first | exact h | exact h.drewN _ | exact h.hold _ | exact (h.hold _).drew | exact (h.hold _).drewN _ | exact h.drew | exact h.alloc _ | exact h.less | exact (h.alloc _).drewN _ | exact (h.less).alloc _) (by first | assumption | exact eq_false_of_ne_true (by assumption))).mono ?_; rintro e w' ⟨rfl, h⟩; have hsz2 := h.size; have c3 := h.c3; have f3 := h.fz 3; have c4 := h.c4; obtain ⟨d0, d1, d2, d3, d4, _, _, _, _, e4, hb3⟩ := h.at5 (b := w.heap.size + 1 + 1) (List.mem_append_right _ (List.mem_cons_self ..)); obtain ⟨m0, m1, m2, m3, m4, y0, y1, y2, y3, y4, hb2⟩ := h.at5 (b := w.heap.size + 1) (List.mem_append_right _ (List.mem_cons_of_mem _ (List.mem_cons_self ..)))))
                go_region_law (first | (go_simp; go_at_call 161; refine (S.statement h.drew eq).mono ?_; rintro e w2 ⟨v, rfl, h⟩; obtain ⟨u2, rfl⟩ := h.top.node_eq; have hsz2 := h.size; have c3 := h.c3; have f3 := h.fz 3; have c4 := h.c4; obtain ⟨d0, d1, d2, d3, d4, _, _, _, _, e4, hb3⟩ := h.at5 (b := w.heap.size + 1 + 1) (List.mem_append_right _ (List.mem_cons_self ..)); obtain ⟨m0, m1, m2, m3, m4, y0, y1, y2, y3, y4, hb2⟩ := h.at5 (b := w.heap.size + 1) (List.mem_append_right _ (List.mem_cons_of_mem _ (List.mem_cons_self ..)))) | (refine step_append_part rfl (.tmp 23) (.tmp 26) rfl _ _ _ _ h ho (by omega) (by simp [Act.eval]) (by simp [Act.eval]) ?_; intro lv' w3 hL; obtain ⟨Q2, L2, h2, ho2⟩ := id hL; obtain ⟨la2, lc2, rfl⟩ := ho2.shape; obtain ⟨_, _, _, _, d4, _, _, _, _, e4, hb3⟩ := h2.at5 (b := w.heap.size + 1 + 1) (List.mem_append_right _ (List.mem_cons_self ..))))
                all_goals go_wp2
                all_goals go_roundw
                all_goals first | exact ⟨f, _, _, _, by simpa using hL.turnIn 4 _, by simp; omega, hl⟩ | ((repeat apply Exists.intro); exact ⟨⟨f, _, _, _, by simpa using hL.turnIn 4 _, by simp; omega, hl⟩, rfl⟩) | exact Nat.lt_of_le_of_lt (least_le (show StI x Q L R tk tp tn tx w.heap.size (w.heap.size + 1) (w.heap.size + 1 + 1) ps s0 _ f from ⟨_, _, _, by simpa using hL.turnIn 4 _, by simp; omega, hl⟩)) (Nat.lt_succ_self f)
        · rw [if_neg hc] at hl
          rw [errV_some hc] at c4
          have n2 := someQ s1.c s1.a
          cases hl
          go_wp2
          have F := Lst.finish h.less ho (.int .i64 8) (.int .i64 tp) (.int .i64 0) (.string ⟨#[]⟩) (.slice la ps.length lc)
          refine bodyPost_ret (results_cell1 rfl _ _ (w.heap.size + 1) 134 _ (0, 0) _ rfl F.1 Tryz.underlying134 rfl (by kernel_rfl)) rfl ?_
          exact ⟨_, rfl, F.2⟩
end
end
section
/-- A block: the place of its brace, its statements, the reader behind it. -/
def blockI (ts : List Tok) (fin : Int) (R : RecI) (s : T) : Option (Int × List P × T) :=
  match statementsI ts fin R (deeperT ts fin (upT (mustT ts fin s ⟨#[123]⟩))) with
  | none => none
  | some (ps, s1) => some ((tokT ts fin (mustT ts fin s ⟨#[123]⟩)).pos, ps, s1)
section
variable {x : Cx} {Q : List (Value × P)} {L : List (Nat × Obj)} {s s' : T} {w w' : World} {R : RecI} {ps : List P} {po : Int}
set_option maxHeartbeats 4000000 in
set_option maxRecDepth 100000 in
theorem block_walk (ok : x.Ok) (S : GoodS x R) (h : PT x Q L s w) (hr : blockI x.ts x.fin R s = some (po, ps, s')) : Calls Tryz.prog 175 #[.pointer (some ⟨x.B, 0, none⟩)] w fun e w' => ∃ v, e = .returned (.agg #[.int .i64 8, .int .i64 po, .int .i64 0, .string ⟨#[]⟩, v]) ∧ PT x ((rowV v, rowP ps) :: Q) L s' w' := by
  have hsz := h.size
  unfold blockI at hr
  split at hr
  · cases hr
  · rename_i qs s1 eq
    cases hr
    have hM := fun (w : World) (Q : List (Value × P)) (L : List (Nat × Obj)) (h : PT x Q L s w) => must_any ok ⟨#[123]⟩ (by decide) h
    have hS := fun (w : World) (Q : List (Value × P)) (L : List (Nat × Obj)) (h : PT x Q L (deeperT x.ts x.fin (upT (mustT x.ts x.fin s ⟨#[123]⟩))) w) => statements_walk ok S (tokT x.ts x.fin (mustT x.ts x.fin s ⟨#[123]⟩)) h eq
    generalize tokT x.ts x.fin (mustT x.ts x.fin s ⟨#[123]⟩) = t at *
    obtain ⟨tk, tp, tx, tn⟩ := t
    simp only [Tok.val] at hM hS
    have h := h.hold (.cells #[.int .i64 0, .int .i64 0, .int .i64 0, .string ⟨#[]⟩, .slice none 0 0] 134)
    go_enter Tryz.func175, Tryz.ntmps175
    go_wp2_with (first | (go_at_call 107; refine (hM _ _ _ (by first | exact h | exact h.drewN _ | exact h.hold _ | exact (h.hold _).drew | exact (h.hold _).drewN _ | exact h.drew | exact h.alloc _ | exact h.less | exact (h.alloc _).drewN _ | exact (h.less).alloc _)).mono ?_; rintro e w' ⟨rfl, h⟩; have hsz := h.size; (try (obtain ⟨r0, r1, r2, r3, z0, z1, z2, z3⟩ := h.four; have hs4 := (Array.getElem?_eq_some_iff.1 h.head).1)); (try (obtain ⟨d0, d1, d2, d3, d4, y0, y1, y2, y3, y4, hb2⟩ := h.at5 (b := w.heap.size) (by first | exact List.mem_cons_self .. | exact List.mem_cons_of_mem _ (List.mem_cons_self ..) | exact List.mem_cons_of_mem _ (List.mem_cons_of_mem _ (List.mem_cons_self ..)) | exact List.mem_cons_of_mem _ (List.mem_cons_of_mem _ (List.mem_cons_of_mem _ (List.mem_cons_self ..))))))) | (go_at_call 101; refine (deeper_any ok (by first | exact h | exact h.drewN _ | exact h.hold _ | exact (h.hold _).drew | exact (h.hold _).drewN _ | exact h.drew | exact h.alloc _ | exact h.less | exact (h.alloc _).drewN _ | exact (h.less).alloc _)).mono ?_; rintro e w' ⟨rfl, h⟩; have hsz := h.size; (try (obtain ⟨r0, r1, r2, r3, z0, z1, z2, z3⟩ := h.four; have hs4 := (Array.getElem?_eq_some_iff.1 h.head).1)); (try (obtain ⟨d0, d1, d2, d3, d4, y0, y1, y2, y3, y4, hb2⟩ := h.at5 (b := w.heap.size) (by first | exact List.mem_cons_self .. | exact List.mem_cons_of_mem _ (List.mem_cons_self ..) | exact List.mem_cons_of_mem _ (List.mem_cons_of_mem _ (List.mem_cons_self ..)) | exact List.mem_cons_of_mem _ (List.mem_cons_of_mem _ (List.mem_cons_of_mem _ (List.mem_cons_self ..))))))) | (go_at_call 141; refine (hS _ _ _ (by first | exact h | exact h.drewN _ | exact h.hold _ | exact (h.hold _).drew | exact (h.hold _).drewN _ | exact h.drew | exact h.alloc _ | exact h.less | exact (h.alloc _).drewN _ | exact (h.less).alloc _)).mono ?_; rintro e w' ⟨v, rfl, h⟩; obtain ⟨va, vc, rfl⟩ := row_shape h.top; have hsz := h.size; (try (obtain ⟨r0, r1, r2, r3, z0, z1, z2, z3⟩ := h.four; have hs4 := (Array.getElem?_eq_some_iff.1 h.head).1)); (try (obtain ⟨d0, d1, d2, d3, d4, y0, y1, y2, y3, y4, hb2⟩ := h.at5 (b := w.heap.size) (by first | exact List.mem_cons_self .. | exact List.mem_cons_of_mem _ (List.mem_cons_self ..) | exact List.mem_cons_of_mem _ (List.mem_cons_of_mem _ (List.mem_cons_self ..)) | exact List.mem_cons_of_mem _ (List.mem_cons_of_mem _ (List.mem_cons_of_mem _ (List.mem_cons_self ..))))))))
    have k := h.drop.fill5 (.int .i64 8) (.int .i64 tp) (.int .i64 0) (.string ⟨#[]⟩) (.slice va ps.length vc)
    refine bodyPost_ret (results_cell1 rfl _ _ w.heap.size 134 _ (0, 0) _ rfl k.head Tryz.underlying134 rfl (by kernel_rfl)) rfl ?_
    exact ⟨_, rfl, k.drop⟩
end
end
section
def paramsI (ts : List Tok) (fin : Int) (s : T) : Option (List P × T) := if seesT ts fin s ⟨#[41]⟩ then some ([], s) else namesI ts fin 5 s
def functionI (ts : List Tok) (fin : Int) (R : RecI) (s : T) : Option (P × T) :=
  match paramsI ts fin (upT (mustT ts fin (nmT ts fin s) ⟨#[40]⟩)) with
  | none => none
  | some (ps, s1) =>
    match localsI ts fin (deeperT ts fin (upT (mustT ts fin (upT (mustT ts fin s1 ⟨#[41]⟩)) ⟨#[123]⟩))) with
    | none => none
    | some (ls, s2) =>
      match statementsI ts fin R s2 with
      | none => none
      | some (bs, s3) => some (.node 136 (nmH ts fin 4 s) (ps ++ ls ++ [.node 134 ⟨8, (tokT ts fin (mustT ts fin (upT (mustT ts fin s1 ⟨#[41]⟩)) ⟨#[123]⟩)).pos, 0, ⟨#[]⟩⟩ bs]), s3)
section
variable {x : Cx} {Q : List (Value × P)} {L : List (Nat × Obj)} {s s' : T} {w w' : World} {R : RecI} {p : P}
theorem PT.at11 {b : Nat} {a0 a1 a2 a3 a4 a5 a6 a7 a8 a9 a10 : Value} {t : TypeId} (h : PT x Q L s w) (hm : (b, Obj.cells #[a0, a1, a2, a3, a4, a5, a6, a7, a8, a9, a10] t) ∈ L) : w.cell? ⟨b, 0, none⟩ = some a0 ∧ w.cell? ⟨b, 1, none⟩ = some a1 ∧ w.cell? ⟨b, 2, none⟩ = some a2 ∧ w.cell? ⟨b, 3, none⟩ = some a3 ∧ w.cell? ⟨b, 4, none⟩ = some a4 ∧ w.cell? ⟨b, 5, none⟩ = some a5 ∧ w.cell? ⟨b, 6, none⟩ = some a6 ∧ w.cell? ⟨b, 7, none⟩ = some a7 ∧ w.cell? ⟨b, 8, none⟩ = some a8 ∧ w.cell? ⟨b, 9, none⟩ = some a9 ∧ w.cell? ⟨b, 10, none⟩ = some a10 ∧ w.frozen? ⟨b, 4, none⟩ = false ∧ w.frozen? ⟨b, 5, none⟩ = false ∧ w.frozen? ⟨b, 6, none⟩ = false ∧ w.frozen? ⟨b, 7, none⟩ = false ∧ w.frozen? ⟨b, 8, none⟩ = false ∧ w.frozen? ⟨b, 9, none⟩ = false ∧ w.frozen? ⟨b, 10, none⟩ = false ∧ b < w.heap.size :=
  have k := (h.keep b _ hm).2
  ⟨cell_of k rfl, cell_of k rfl, cell_of k rfl, cell_of k rfl, cell_of k rfl, cell_of k rfl, cell_of k rfl, cell_of k rfl, cell_of k rfl, cell_of k rfl, cell_of k rfl, frozen_of k, frozen_of k, frozen_of k, frozen_of k, frozen_of k, frozen_of k, frozen_of k, (Array.getElem?_eq_some_iff.1 k).1⟩
theorem PT.put4a {b : Nat} {a0 a1 a2 a3 a4 a5 a6 a7 a8 a9 a10 : Value} {t : TypeId} (h : PT x Q ((b, .cells #[a0, a1, a2, a3, a4, a5, a6, a7, a8, a9, a10] t) :: L) s w) (v : Value) : PT x Q ((b, .cells #[a0, a1, a2, a3, v, a5, a6, a7, a8, a9, a10] t) :: L) s (w.setCell ⟨b, 4, none⟩ v) := by
  have := h.turn 4 v
  simpa using this
theorem PT.put5b {b : Nat} {a0 a1 a2 a3 a4 a5 a6 a7 a8 a9 a10 : Value} {t : TypeId} {e : Nat × Obj} (h : PT x Q (e :: (b, .cells #[a0, a1, a2, a3, a4, a5, a6, a7, a8, a9, a10] t) :: L) s w) (v : Value) : PT x Q (e :: (b, .cells #[a0, a1, a2, a3, a4, v, a6, a7, a8, a9, a10] t) :: L) s (w.setCell ⟨b, 5, none⟩ v) := by
  have := ((h.perm (List.Perm.swap ..)).turn 5 v).perm (List.Perm.swap ..)
  simpa using this
theorem PT.put6b {b : Nat} {a0 a1 a2 a3 a4 a5 a6 a7 a8 a9 a10 : Value} {t : TypeId} {e : Nat × Obj} (h : PT x Q (e :: (b, .cells #[a0, a1, a2, a3, a4, a5, a6, a7, a8, a9, a10] t) :: L) s w) (v0 v1 v2 v3 v4 : Value) : PT x Q (e :: (b, .cells #[a0, a1, a2, a3, a4, a5, v0, v1, v2, v3, v4] t) :: L) s (((((w.setCell ⟨b, 6, none⟩ v0).setCell ⟨b, 7, none⟩ v1).setCell ⟨b, 8, none⟩ v2).setCell ⟨b, 9, none⟩ v3).setCell ⟨b, 10, none⟩ v4) := by
  have := (((((h.perm (List.Perm.swap ..)).turn 6 v0).turn 7 v1).turn 8 v2).turn 9 v3).turn 10 v4
  have := this.perm (List.Perm.swap ..)
  simpa using this
theorem IsPart.mkFunc {v1 v2 v3 : Value} {ps ls bs : List P} (hd : Hd) (po : Int) (h1 : IsPart x L w (rowV v1) (rowP ps)) (h2 : IsPart x L w (rowV v2) (rowP ls)) (h3 : IsPart x L w (rowV v3) (rowP bs)) :
    IsPart x L w (.iface 136 (.agg (hd.cells ++ [v1, v2] ++ [.int .i64 8, .int .i64 po, .int .i64 0, .string ⟨#[]⟩, v3]).toArray)) (.node 136 hd (ps ++ ls ++ [.node 134 ⟨8, po, 0, ⟨#[]⟩⟩ bs])) := by
  obtain ⟨us1, r1, e1⟩ := row_inv h1
  obtain ⟨us2, r2, e2⟩ := row_inv h2
  obtain ⟨us3, r3, e3⟩ := row_inv h3
  exact .func hd ⟨⟨8, po, 0, ⟨#[]⟩⟩, v3, bs, us3⟩ r1 e1 r2 e2 r3 e3
set_option maxHeartbeats 8000000 in
set_option maxRecDepth 100000 in
theorem function_walk (ok : x.Ok) (S : GoodS x R) (h : PT x Q L s w) (hr : functionI x.ts x.fin R s = some (p, s')) : Calls Tryz.prog 108 #[.pointer (some ⟨x.B, 0, none⟩)] w fun e w' => ∃ v, e = .returned v ∧ PT x ((v, p) :: Q) L s' w' := by
  have hsz := h.size
  have hN := fun (w : World) (Q : List (Value × P)) (L : List (Nat × Obj)) (h : PT x Q L s w) => named2 ok 4 h
  unfold functionI at hr
  have hU : nmH x.ts x.fin 4 s = ⟨4, (nmH x.ts x.fin 4 s).pos, 0, (nmH x.ts x.fin 4 s).name⟩ := rfl
  rw [hU] at hr
  clear hU
  generalize (nmH x.ts x.fin 4 s).pos = hp at *
  generalize (nmH x.ts x.fin 4 s).name = hm at *
  split at hr
  · cases hr
  · rename_i ps s1 eq1
    split at hr
    · cases hr
    · rename_i ls s2 eq2
      split at hr
      · cases hr
      · rename_i bs s3 eq3
        cases hr
        generalize nmT x.ts x.fin s = s0 at *
        have hM1 := fun (w : World) (Q : List (Value × P)) (L : List (Nat × Obj)) (h : PT x Q L s0 w) => must_any ok ⟨#[40]⟩ (by decide) h
        have hM2 := fun (w : World) (Q : List (Value × P)) (L : List (Nat × Obj)) (h : PT x Q L s1 w) => must_any ok ⟨#[41]⟩ (by decide) h
        generalize upT (mustT x.ts x.fin s0 ⟨#[40]⟩) = sA at *
        generalize tokT x.ts x.fin (mustT x.ts x.fin s0 ⟨#[40]⟩) = tA at *
        generalize upT (mustT x.ts x.fin s1 ⟨#[41]⟩) = sB at *
        generalize tokT x.ts x.fin (mustT x.ts x.fin s1 ⟨#[41]⟩) = tB at *
        have hM3 := fun (w : World) (Q : List (Value × P)) (L : List (Nat × Obj)) (h : PT x Q L sB w) => must_any ok ⟨#[123]⟩ (by decide) h
        generalize upT (mustT x.ts x.fin sB ⟨#[123]⟩) = sC at *
        generalize tokT x.ts x.fin (mustT x.ts x.fin sB ⟨#[123]⟩) = t at *
        have hDe := fun (w : World) (Q : List (Value × P)) (L : List (Nat × Obj)) (h : PT x Q L sC w) => deeper_any ok h
        generalize deeperT x.ts x.fin sC = sD at *
        have hS := fun (w : World) (Q : List (Value × P)) (L : List (Nat × Obj)) (h : PT x Q L s2 w) => statements_walk ok S t h eq3
        obtain ⟨tk, tp, tx, tn⟩ := t
        obtain ⟨ak, ap, ax, an⟩ := tA
        obtain ⟨bk, bp, bx, bn⟩ := tB
        simp only [Tok.val] at hM1 hM2 hM3 hS
        unfold paramsI at eq1
        split at eq1
        · rename_i hi
          cases eq1
          have hSe := fun (w : World) (Q : List (Value × P)) (L : List (Nat × Obj)) (h : PT x Q L s1 w) => sees_yes ok ⟨#[41]⟩ h hi
          go_enter Tryz.func108, Tryz.ntmps108
          go_wp2_with fail
          refine (hN _ _ _ h).mono ?_
          rintro e w' ⟨rfl, h⟩
          have hsz := h.size
          go_wp2_with fail
          refine (hM1 _ _ _ (h.hold _)).mono ?_
          rintro e w' ⟨rfl, h⟩
          have hsz := h.size
          go_wp2_with fail
          refine (hSe _ _ _ h).mono ?_
          rintro e w' ⟨rfl, h⟩
          have hsz := h.size
          go_wp2_with fail
          refine (hM2 _ _ _ h).mono ?_
          rintro e w' ⟨rfl, h⟩
          have hsz := h.size
          go_wp2_with fail
          refine (hM3 _ _ _ h).mono ?_
          rintro e w' ⟨rfl, h⟩
          have hsz := h.size
          go_wp2_with fail
          refine (hDe _ _ _ (h.hold _)).mono ?_
          rintro e w' ⟨rfl, h⟩
          have hsz := h.size
          go_wp2_with fail
          refine (locals_walk ok h eq2).mono ?_
          rintro e w' ⟨v, rfl, h⟩
          have hsz := h.size
          obtain ⟨la, lc, rfl⟩ := row_shape h.top
          obtain ⟨n0, n1, n2, n3, n4, n5, n6, n7, n8, n9, n10, k4, k5, k6, k7, k8, k9, k10, hb1⟩ := h.at11 (List.mem_cons_of_mem _ (List.mem_cons_self ..))
          obtain ⟨r0, r1, r2, r3, z0, z1, z2, z3⟩ := h.four
          have hs4 := (Array.getElem?_eq_some_iff.1 h.head).1
          go_wp2_with fail
          refine (hS _ _ _ (h.put5b _)).mono ?_
          rintro e w' ⟨v, rfl, h⟩
          have hsz := h.size
          obtain ⟨va, vc, rfl⟩ := row_shape h.top
          obtain ⟨n0, n1, n2, n3, n4, n5, n6, n7, n8, n9, n10, k4, k5, k6, k7, k8, k9, k10, hb1⟩ := h.at11 (List.mem_cons_of_mem _ (List.mem_cons_self ..))
          go_wp2
          go_ret
          have k := (h.put6b (.int .i64 8) (.int .i64 tp) (.int .i64 0) (.string ⟨#[]⟩) (.slice va bs.length vc)).drop.drop
          have k0 := (Lst.nil k).done
          exact ⟨_, rfl, k0.lose.lose.lose.push (.mkFunc ⟨4, hp, 0, hm⟩ tp k0.top k0.lose.lose.top k0.lose.top)⟩
        · rename_i hi
          have hSe := fun (w : World) (Q : List (Value × P)) (L : List (Nat × Obj)) (h : PT x Q L sA w) => sees_no ok ⟨#[41]⟩ h (eq_false_of_ne_true hi)
          go_enter Tryz.func108, Tryz.ntmps108
          go_wp2_with fail
          refine (hN _ _ _ h).mono ?_
          rintro e w' ⟨rfl, h⟩
          have hsz := h.size
          go_wp2_with fail
          refine (hM1 _ _ _ (h.hold _)).mono ?_
          rintro e w' ⟨rfl, h⟩
          have hsz := h.size
          go_wp2_with fail
          refine (hSe _ _ _ h).mono ?_
          rintro e w' ⟨rfl, h⟩
          have hsz := h.size
          go_wp2_with fail
          refine (names_walk ok _ h eq1).mono ?_
          rintro e w' ⟨v, rfl, h⟩
          have hsz := h.size
          obtain ⟨pa, pc, rfl⟩ := row_shape h.top
          obtain ⟨n0, n1, n2, n3, n4, n5, n6, n7, n8, n9, n10, k4, k5, k6, k7, k8, k9, k10, hb1⟩ := h.at11 (List.mem_cons_self ..)
          go_wp2_with fail
          refine (hM2 _ _ _ (h.put4a _)).mono ?_
          rintro e w' ⟨rfl, h⟩
          have hsz := h.size
          go_wp2_with fail
          refine (hM3 _ _ _ h).mono ?_
          rintro e w' ⟨rfl, h⟩
          have hsz := h.size
          go_wp2_with fail
          refine (hDe _ _ _ (h.hold _)).mono ?_
          rintro e w' ⟨rfl, h⟩
          have hsz := h.size
          go_wp2_with fail
          refine (locals_walk ok h eq2).mono ?_
          rintro e w' ⟨v, rfl, h⟩
          have hsz := h.size
          obtain ⟨la, lc, rfl⟩ := row_shape h.top
          obtain ⟨n0, n1, n2, n3, n4, n5, n6, n7, n8, n9, n10, k4, k5, k6, k7, k8, k9, k10, hb1⟩ := h.at11 (List.mem_cons_of_mem _ (List.mem_cons_self ..))
          obtain ⟨r0, r1, r2, r3, z0, z1, z2, z3⟩ := h.four
          have hs4 := (Array.getElem?_eq_some_iff.1 h.head).1
          go_wp2_with fail
          refine (hS _ _ _ (h.put5b _)).mono ?_
          rintro e w' ⟨v, rfl, h⟩
          have hsz := h.size
          obtain ⟨va, vc, rfl⟩ := row_shape h.top
          obtain ⟨n0, n1, n2, n3, n4, n5, n6, n7, n8, n9, n10, k4, k5, k6, k7, k8, k9, k10, hb1⟩ := h.at11 (List.mem_cons_of_mem _ (List.mem_cons_self ..))
          go_wp2
          go_ret
          have k := (h.put6b (.int .i64 8) (.int .i64 tp) (.int .i64 0) (.string ⟨#[]⟩) (.slice va bs.length vc)).drop.drop
          exact ⟨_, rfl, k.lose.lose.lose.push (.mkFunc ⟨4, hp, 0, hm⟩ tp k.lose.lose.top k.lose.top k.top)⟩
end
end
section
def loopI (ts : List Tok) (fin : Int) (R : RecI) (s : T) : Option (P × T) :=
  match R (.level 1) (upT (mustT ts fin (nmT ts fin s) ⟨#[61]⟩)) with
  | none => none
  | some (p, s1) =>
    match R (.level 1) (upT (mustT ts fin s1 ⟨#[46, 46]⟩)) with
    | none => none
    | some (q, s2) =>
      match blockI ts fin R s2 with
      | none => none
      | some (po, bs, s3) => some (.node 146 (nmH ts fin 16 s) [p, q, .node 134 ⟨8, po, 0, ⟨#[]⟩⟩ bs], s3)
section
variable {x : Cx} {Q : List (Value × P)} {L : List (Nat × Obj)} {s s' : T} {w w' : World} {R : RecI} {p : P}
theorem PT.put5a {b : Nat} {a0 a1 a2 a3 a4 a5 a6 a7 a8 a9 a10 : Value} {t : TypeId} (h : PT x Q ((b, .cells #[a0, a1, a2, a3, a4, a5, a6, a7, a8, a9, a10] t) :: L) s w) (v : Value) : PT x Q ((b, .cells #[a0, a1, a2, a3, a4, v, a6, a7, a8, a9, a10] t) :: L) s (w.setCell ⟨b, 5, none⟩ v) := by
  have := h.turn 5 v
  simpa using this
theorem PT.put6a {b : Nat} {a0 a1 a2 a3 a4 a5 a6 a7 a8 a9 a10 : Value} {t : TypeId} (h : PT x Q ((b, .cells #[a0, a1, a2, a3, a4, a5, a6, a7, a8, a9, a10] t) :: L) s w) (v0 v1 v2 v3 v4 : Value) : PT x Q ((b, .cells #[a0, a1, a2, a3, a4, a5, v0, v1, v2, v3, v4] t) :: L) s (((((w.setCell ⟨b, 6, none⟩ v0).setCell ⟨b, 7, none⟩ v1).setCell ⟨b, 8, none⟩ v2).setCell ⟨b, 9, none⟩ v3).setCell ⟨b, 10, none⟩ v4) := by
  have := ((((h.turn 6 v0).turn 7 v1).turn 8 v2).turn 9 v3).turn 10 v4
  simpa using this
theorem IsPart.mkLoop {v1 v2 v3 : Value} {p q : P} {bs : List P} (hd : Hd) (po : Int) (h1 : IsPart x L w v1 p) (h2 : IsPart x L w v2 q) (h3 : IsPart x L w (rowV v3) (rowP bs)) :
    IsPart x L w (.iface 146 (.agg (hd.cells ++ [v1, v2] ++ [.int .i64 8, .int .i64 po, .int .i64 0, .string ⟨#[]⟩, v3]).toArray)) (.node 146 hd [p, q, .node 134 ⟨8, po, 0, ⟨#[]⟩⟩ bs]) := by
  obtain ⟨us3, r3, e3⟩ := row_inv h3
  exact .loop hd ⟨⟨8, po, 0, ⟨#[]⟩⟩, v3, bs, us3⟩ h1 h2 r3 e3
theorem IsPart.mkWhile {v1 v3 : Value} {p : P} {bs : List P} (hd : Hd) (po : Int) (h1 : IsPart x L w v1 p) (h3 : IsPart x L w (rowV v3) (rowP bs)) :
    IsPart x L w (.iface 144 (.agg (hd.cells ++ [v1] ++ [.int .i64 8, .int .i64 po, .int .i64 0, .string ⟨#[]⟩, v3]).toArray)) (.node 144 hd [p, .node 134 ⟨8, po, 0, ⟨#[]⟩⟩ bs]) := by
  obtain ⟨us3, r3, e3⟩ := row_inv h3
  exact .whl hd ⟨⟨8, po, 0, ⟨#[]⟩⟩, v3, bs, us3⟩ h1 r3 e3
set_option maxHeartbeats 8000000 in
set_option maxRecDepth 100000 in
theorem loop_walk (ok : x.Ok) (G : GoodI x R) (S : GoodS x R) (h : PT x Q L s w) (hr : loopI x.ts x.fin R s = some (p, s')) : Calls Tryz.prog 176 #[.pointer (some ⟨x.B, 0, none⟩)] w fun e w' => ∃ v, e = .returned v ∧ PT x ((v, p) :: Q) L s' w' := by
  have hsz := h.size
  have hN := fun (w : World) (Q : List (Value × P)) (L : List (Nat × Obj)) (h : PT x Q L s w) => named2 ok 16 h
  unfold loopI at hr
  have hU : nmH x.ts x.fin 16 s = ⟨16, (nmH x.ts x.fin 16 s).pos, 0, (nmH x.ts x.fin 16 s).name⟩ := rfl
  rw [hU] at hr
  clear hU
  generalize (nmH x.ts x.fin 16 s).pos = hp at *
  generalize (nmH x.ts x.fin 16 s).name = hm at *
  split at hr
  · cases hr
  · rename_i p1 s1 eq1
    split at hr
    · cases hr
    · rename_i p2 s2 eq2
      split at hr
      · cases hr
      · rename_i po bs s3 eq3
        cases hr
        generalize nmT x.ts x.fin s = s0 at *
        have hM1 := fun (w : World) (Q : List (Value × P)) (L : List (Nat × Obj)) (h : PT x Q L s0 w) => must_any ok ⟨#[61]⟩ (by decide) h
        have hM2 := fun (w : World) (Q : List (Value × P)) (L : List (Nat × Obj)) (h : PT x Q L s1 w) => must_any ok ⟨#[46, 46]⟩ (by decide) h
        generalize upT (mustT x.ts x.fin s0 ⟨#[61]⟩) = sA at *
        generalize tokT x.ts x.fin (mustT x.ts x.fin s0 ⟨#[61]⟩) = tA at *
        generalize upT (mustT x.ts x.fin s1 ⟨#[46, 46]⟩) = sB at *
        generalize tokT x.ts x.fin (mustT x.ts x.fin s1 ⟨#[46, 46]⟩) = tB at *
        obtain ⟨ak, ap, ax, an⟩ := tA
        obtain ⟨bk, bp, bx, bn⟩ := tB
        simp only [Tok.val] at hM1 hM2
        go_enter Tryz.func176, Tryz.ntmps176
        all_goals go_wp2_with fail
        all_goals refine (hN _ _ _ h).mono ?_
        all_goals rintro e w' ⟨rfl, h⟩
        all_goals have hsz := h.size
        all_goals go_wp2_with fail
        all_goals refine (hM1 _ _ _ (h.hold _)).mono ?_
        all_goals rintro e w' ⟨rfl, h⟩
        all_goals have hsz := h.size
        all_goals go_wp2_with fail
        all_goals refine (G.term h eq1).mono ?_
        all_goals rintro e w' ⟨v, rfl, h⟩
        all_goals have hsz := h.size
        all_goals obtain ⟨n0, n1, n2, n3, n4, n5, n6, n7, n8, n9, n10, k4, k5, k6, k7, k8, k9, k10, hb1⟩ := h.at11 (List.mem_cons_self ..)
        all_goals rcases h.top.shp with rfl | ⟨ty, u, rfl⟩
        all_goals go_wp2_with fail
        all_goals refine (hM2 _ _ _ (h.put4a _)).mono ?_
        all_goals rintro e w' ⟨rfl, h⟩
        all_goals have hsz := h.size
        all_goals go_wp2_with fail
        all_goals refine (G.term h eq2).mono ?_
        all_goals rintro e w' ⟨v2, rfl, h⟩
        all_goals have hsz := h.size
        all_goals obtain ⟨n0, n1, n2, n3, n4, n5, n6, n7, n8, n9, n10, k4, k5, k6, k7, k8, k9, k10, hb1⟩ := h.at11 (List.mem_cons_self ..)
        all_goals rcases h.top.shp with rfl | ⟨ty2, u2, rfl⟩
        all_goals go_wp2_with fail
        all_goals refine (block_walk ok S (h.put5a _) eq3).mono ?_
        all_goals rintro e w' ⟨v3, rfl, h⟩
        all_goals have hsz := h.size
        all_goals obtain ⟨va, vc, rfl⟩ := row_shape h.top
        all_goals obtain ⟨n0, n1, n2, n3, n4, n5, n6, n7, n8, n9, n10, k4, k5, k6, k7, k8, k9, k10, hb1⟩ := h.at11 (List.mem_cons_self ..)
        all_goals go_wp2
        all_goals go_ret
        all_goals have k := (h.put6a (.int .i64 8) (.int .i64 po) (.int .i64 0) (.string ⟨#[]⟩) (.slice va bs.length vc)).drop
        all_goals exact ⟨_, rfl, k.lose.lose.lose.push (.mkLoop ⟨16, hp, 0, hm⟩ po k.lose.lose.top k.lose.top k.top)⟩
end
end
section
theorem info134 : (Tryz.prog.info? 134).map (fun i => (i.zero, i.size, i.bytes)) = some (some (.agg #[.int .i64 0, .int .i64 0, .int .i64 0, .string ⟨#[]⟩, .slice none 0 0]), 5, 64) := by kernel_rfl
/-- A row of blocks that grows: its cells, its own block. -/
def OwnB (lv : Value) (n : Nat) (cs : List Value) (L' : List (Nat × Obj)) : Prop :=
  ∃ a cap, lv = .slice a n cap ∧ cs.length = n * 5 ∧ ((a = none ∧ cap = 0 ∧ n = 0 ∧ L' = []) ∨
    ∃ g cur, a = some ⟨g, 0, none⟩ ∧ L' = [(g, .cells cur 134)] ∧ n ≤ cap ∧ cap ≤ maxLen ∧ cur.size = cap * 5 ∧ cur.toList.take (n * 5) = cs)
theorem OwnB.nil : OwnB (.slice none 0 0) 0 [] [] := ⟨none, 0, rfl, rfl, .inl ⟨rfl, rfl, rfl, rfl⟩⟩
theorem OwnB.shape {lv : Value} {n : Nat} {cs : List Value} {L' : List (Nat × Obj)} (h : OwnB lv n cs L') : ∃ a c, lv = .slice a n c := by
  obtain ⟨a, c, e, _⟩ := h
  exact ⟨a, c, e⟩
theorem five_new (w : World) (a b c d e : Value) (t : TypeId) : ∀ j u, [a, b, c, d, e][j]? = some u → (w.alloc (.cells #[a, b, c, d, e] t)).cell? ((⟨w.heap.size, 0, none⟩ : Addr).add j) = some u := by
  intro j u hu
  rw [Go.WideShapes.add_plain, Nat.zero_add]
  exact cell_of (one_first _ _) (by simpa using hu)
theorem step_append_blk {x : Cx} {Q : List (Value × P)} {L L' : List (Nat × Obj)} {s : T} {w : World} {ops : Array Oper} {o : Oper} {a : Act} {K : Act → World → Prop} {Q0 : Exit → Act → World → Prop} {E : Prop}
    (hg : o.guard = none) (l y : Operand) (hop : o.op = Op.call { callee := Callee.builtin Builtin.append, args := #[l, y], argTypes := #[139, 139] })
    (lv : Value) (n : Nat) (cs : List Value) (k1 k2 k3 : Int) (nm : ByteArray) (va : Option Addr) (vl vc : Nat) (h : PT x Q (L' ++ L) s w) (ho : OwnB lv n cs L') (hn : n < 1000)
    (hl : a.eval l = lv) (hy : a.eval y = .slice (some ⟨w.heap.size, 0, none⟩) 1 1)
    (hK : ∀ lv' w' L2, PT x Q (L2 ++ L) s w' → OwnB lv' (n + 1) (cs ++ [.int .i64 k1, .int .i64 k2, .int .i64 k3, .string nm, .slice va vl vc]) L2 → K (a.put o.dst lv') w') :
    if Region.wanted o (yielded ops a.tmps) = true then Oper.wp Tryz.prog o a (w.alloc (.cells #[.int .i64 k1, .int .i64 k2, .int .i64 k3, .string nm, .slice va vl vc] 134)) K Q0 else E := by
  have hw : Region.wanted o (yielded ops a.tmps) = true := by simp [Region.wanted, hg]
  rw [if_pos hw]
  obtain ⟨i0, hi, hz0, hz1, hz2⟩ := info_parts info134
  have h1 := h.alloc (.cells #[.int .i64 k1, .int .i64 k2, .int .i64 k3, .string nm, .slice va vl vc] 134)
  obtain ⟨a0, cap, rfl, hcl, ho⟩ := ho
  have hrow : (w.alloc (.cells #[.int .i64 k1, .int .i64 k2, .int .i64 k3, .string nm, .slice va vl vc] 134)).ownsRow (x.B + 1) 134 5 (.slice a0 n cap) n cs := by
    rcases ho with ⟨rfl, rfl, rfl, rfl⟩ | ⟨g, cur, rfl, rfl, hc, hm, hsz, hx⟩
    · exact ⟨hcl, .inl ⟨rfl, rfl⟩⟩
    · have hk := h1.keep g _ (by simp : (g, Obj.cells cur 134) ∈ [(g, Obj.cells cur 134)] ++ L)
      exact ⟨hcl, .inr ⟨g, cap, cur, rfl, hk.1, hk.2, hc, hm, hsz, hx⟩⟩
  obtain ⟨v', w', hrun, r1, r2, _, r3⟩ := run_append_own_at (P := Tryz.prog) (w.alloc (.cells #[.int .i64 k1, .int .i64 k2, .int .i64 k3, .string nm, .slice va vl vc] 134)) (x.B + 1) 139 o.type 134 i0 (.agg #[.int .i64 0, .int .i64 0, .int .i64 0, .string ⟨#[]⟩, .slice none 0 0]) 5 64 Tryz.underlying139 hi hz0 hz1 hz2 rfl (by decide) (.slice a0 n cap) n cs hrow ⟨w.heap.size, 0, none⟩ 1 1 [.int .i64 k1, .int .i64 k2, .int .i64 k3, .string nm, .slice va vl vc] rfl
    (five_new _ _ _ _ _ _ _) (by intro u hu; simp at hu; rcases hu with rfl | rfl | rfl | rfl | rfl <;> rfl) (by unfold maxLen; omega) (by omega) (by have := h.size; simp; omega)
  have hfin : ∃ L2, PT x Q (L2 ++ L) s w' ∧ OwnB v' (n + 1) (cs ++ [.int .i64 k1, .int .i64 k2, .int .i64 k3, .string nm, .slice va vl vc]) L2 := by
    rcases r1.2 with ⟨_, e0⟩ | ⟨g', cap', cur', rfl, hb', hh', hc', hm', hsz', hx'⟩
    · omega
    refine ⟨[(g', .cells cur' 134)], ?_, _, cap', rfl, by simp [hcl]; omega, .inr ⟨g', cur', rfl, rfl, hc', hm', hsz', hx'⟩⟩
    rcases ho with ⟨rfl, rfl, rfl, rfl⟩ | ⟨g, cur, rfl, rfl, hc, hm, hsz, hx⟩
    · exact PT.newrow (L := L) h1 r2 hh' (by rcases r3 with r3 | r3 <;> simp [Value.ownBlock] at r3; simpa using r3)
    · exact PT.regrow (L := L) h1 r2 hh' (by rcases r3 with r3 | r3 <;> simp [Value.ownBlock] at r3; (· exact .inl r3); (· exact .inr (by simpa using r3)))
  obtain ⟨L2, f1, f2⟩ := hfin
  unfold Oper.wp
  simp [execOp, hop, resolve, invoke, builtin, hl, hy, hrun, Result.andThen]
  exact hK v' w' L2 f1 f2
section
variable {x : Cx} {Q : List (Value × P)} {L L' : List (Nat × Obj)} {s s' : T} {w w' : World} {R : RecI} {p : P}
/-- A row of blocks that is done, as one's own. -/
theorem OwnB.orow {lv : Value} {n : Nat} {cs : List Value} (h : PT x Q (L' ++ L) s w) (ho : OwnB lv n cs L') : ORow x L w 134 5 lv n cs := by
  obtain ⟨a, cap, rfl, hcl, ho⟩ := ho
  rcases ho with ⟨rfl, rfl, rfl, rfl⟩ | ⟨g, cur, rfl, rfl, hc, hm, hsz, hx⟩
  · exact ⟨⟨hcl, .inl ⟨rfl, rfl⟩⟩, fun b o _ e => by cases e⟩
  · have hk := h.keep g _ (by simp : (g, Obj.cells cur 134) ∈ [(g, Obj.cells cur 134)] ++ L)
    have hnd := List.nodup_cons.1 h.nd
    exact ⟨⟨hcl, .inr ⟨g, cap, cur, rfl, hk.1, hk.2, hc, hm, hsz, hx⟩⟩, fun b o hin e => by
      cases e
      exact hnd.1 (List.mem_map.2 ⟨_, hin, rfl⟩)⟩
theorem OwnB.drop {lv : Value} {n : Nat} {cs : List Value} (h : PT x Q (L' ++ L) s w) (ho : OwnB lv n cs L') : PT x Q L s w := by
  obtain ⟨a, cap, rfl, hcl, ho⟩ := ho
  rcases ho with ⟨rfl, rfl, rfl, rfl⟩ | ⟨g, cur, rfl, rfl, hc, hm, hsz, hx⟩
  · exact h
  · exact PT.drop h
theorem IsPart.mkIf1 {v u v1 : Value} {b1 : List P} (hd : Hd) (p1 : Int) (h0 : IsPart x L w v p) (h1 : IsPart x L w (rowV v1) (rowP b1)) (hr : ORow x L w 134 5 u 1 [.int .i64 8, .int .i64 p1, .int .i64 0, .string ⟨#[]⟩, v1]) :
    IsPart x L w (.iface 141 (.agg (hd.cells ++ [v, u]).toArray)) (.node 141 hd [p, .node 134 ⟨8, p1, 0, ⟨#[]⟩⟩ b1]) := by
  obtain ⟨us, r, e⟩ := row_inv h1
  refine .ife hd [⟨⟨8, p1, 0, ⟨#[]⟩⟩, v1, b1, us⟩] h0 hr ?_ ?_
  · intro b hb; simp at hb; subst hb; exact r
  · intro b hb; simp at hb; subst hb; exact e
theorem IsPart.mkIf2 {v u v1 v2 : Value} {b1 b2 : List P} (hd : Hd) (p1 p2 : Int) (h0 : IsPart x L w v p) (h1 : IsPart x L w (rowV v1) (rowP b1)) (h2 : IsPart x L w (rowV v2) (rowP b2)) (hr : ORow x L w 134 5 u 2 [.int .i64 8, .int .i64 p1, .int .i64 0, .string ⟨#[]⟩, v1, .int .i64 8, .int .i64 p2, .int .i64 0, .string ⟨#[]⟩, v2]) :
    IsPart x L w (.iface 141 (.agg (hd.cells ++ [v, u]).toArray)) (.node 141 hd [p, .node 134 ⟨8, p1, 0, ⟨#[]⟩⟩ b1, .node 134 ⟨8, p2, 0, ⟨#[]⟩⟩ b2]) := by
  obtain ⟨us, r, e⟩ := row_inv h1
  obtain ⟨us2, r2, e2⟩ := row_inv h2
  refine .ife hd [⟨⟨8, p1, 0, ⟨#[]⟩⟩, v1, b1, us⟩, ⟨⟨8, p2, 0, ⟨#[]⟩⟩, v2, b2, us2⟩] h0 hr ?_ ?_
  · intro b hb; simp at hb; rcases hb with rfl | rfl; (· exact r); (· exact r2)
  · intro b hb; simp at hb; rcases hb with rfl | rfl; (· exact e); (· exact e2)
end
/-- A branch: its condition, its block, and, behind else, the other one. -/
def branchI (ts : List Tok) (fin : Int) (R : RecI) (t : Tok) (s : T) : Option (P × T) :=
  match R .cond s with
  | none => none
  | some (p, s1) =>
    match blockI ts fin R s1 with
    | none => none
    | some (p1, b1, s2) =>
      if seesT ts fin s2 ⟨#[101, 108, 115, 101]⟩ then
        match blockI ts fin R (upT s2) with
        | none => none
        | some (p2, b2, s3) => some (.node 141 ⟨14, t.pos, 0, ⟨#[]⟩⟩ [p, .node 134 ⟨8, p1, 0, ⟨#[]⟩⟩ b1, .node 134 ⟨8, p2, 0, ⟨#[]⟩⟩ b2], s3)
      else some (.node 141 ⟨14, t.pos, 0, ⟨#[]⟩⟩ [p, .node 134 ⟨8, p1, 0, ⟨#[]⟩⟩ b1], s2)
end
end Go.Proofs.YtjikjejfobnfnaaGreatDoor.imp
