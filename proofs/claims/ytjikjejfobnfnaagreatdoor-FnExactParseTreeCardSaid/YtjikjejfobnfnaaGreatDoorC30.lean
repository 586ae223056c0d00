/-
  Declarations, walked.
  A program, walked.
-/
import Derived.Test.YtjikjejfobnfnaaGreatDoorC25
namespace Go.Proofs.YtjikjejfobnfnaaGreatDoor.imp
open Go.RowKit Go.Proofs.YtjikjejfobnfnaaGreatDoor.num Go.Proofs.YtjikjejfobnfnaaGreatDoor.lex Go.Proofs.YtjikjejfobnfnaaGreatDoor.par
set_option linter.unusedVariables false
section
def declarationI (ts : List Tok) (fin : Int) (R : RecI) (s : T) : Option (P × T) :=
  if seesT ts fin s ⟨#[97, 114, 114, 97, 121]⟩ then some (arrayI ts fin (upT s))
  else if seesT ts fin s ⟨#[118, 97, 114]⟩ then some (.node 132 (nmH ts fin 3 (upT s)) [], upT (mustT ts fin (nmT ts fin (upT s)) ⟨#[59]⟩))
  else if seesT ts fin s ⟨#[102, 117, 110, 99]⟩ then functionI ts fin R (upT s)
  else some (.nil, failT ts fin s 6)
section
variable {x : Cx} {Q : List (Value × P)} {L : List (Nat × Obj)} {s s' : T} {w w' : World} {R : RecI} {p : P}
set_option maxHeartbeats 8000000 in
set_option maxRecDepth 100000 in
theorem declaration_walk (ok : x.Ok) (S : GoodS x R) (h : PT x Q L s w) (hr : declarationI x.ts x.fin R s = some (p, s')) : Calls Tryz.prog 61 #[.pointer (some ⟨x.B, 0, none⟩)] w fun e w' => ∃ v, e = .returned v ∧ PT x ((v, p) :: Q) L s' w' := by
  have hsz := h.size
  unfold declarationI at hr
  split at hr
  · have hA := fun (w : World) (Q : List (Value × P)) (L : List (Nat × Obj)) (h : PT x Q L (upT s) w) => array_walk ok h
    have e1 : (arrayI x.ts x.fin (upT s)) = (p, s') := Option.some.inj hr
    rw [e1] at hA
    clear hr e1
    go_enter Tryz.func61, Tryz.ntmps61
    go_wp2_with (first | (go_at_call 104; refine (accept_yes ok _ (by decide) (by first | exact h | exact h.drewN _ | exact h.hold _ | exact (h.hold _).drew | exact (h.hold _).drewN _ | exact h.drew | exact h.alloc _ | exact h.less | exact (h.alloc _).drewN _ | exact (h.less).alloc _) (by assumption)).mono ?_; rintro e w' ⟨rfl, h⟩; have hsz := h.size; (try (obtain ⟨r0, r1, r2, r3, z0, z1, z2, z3⟩ := h.four; have hs4 := (Array.getElem?_eq_some_iff.1 h.head).1))) | (go_at_call 104; refine (accept_no ok _ (by first | exact h | exact h.drewN _ | exact h.hold _ | exact (h.hold _).drew | exact (h.hold _).drewN _ | exact h.drew | exact h.alloc _ | exact h.less | exact (h.alloc _).drewN _ | exact (h.less).alloc _) (by first | assumption | exact eq_false_of_ne_true (by assumption))).mono ?_; rintro e w' ⟨rfl, h⟩; have hsz := h.size; (try (obtain ⟨r0, r1, r2, r3, z0, z1, z2, z3⟩ := h.four; have hs4 := (Array.getElem?_eq_some_iff.1 h.head).1))) | (go_at_call 105; refine (hA _ _ _ (by first | exact h | exact h.drewN _ | exact h.hold _ | exact (h.hold _).drew | exact (h.hold _).drewN _ | exact h.drew | exact h.alloc _ | exact h.less | exact (h.alloc _).drewN _ | exact (h.less).alloc _)).mono ?_; rintro e w' ⟨v, rfl, h⟩; have hsz := h.size; (try (obtain ⟨r0, r1, r2, r3, z0, z1, z2, z3⟩ := h.four; have hs4 := (Array.getElem?_eq_some_iff.1 h.head).1)); rcases h.top.shp with rfl | ⟨ty, u, rfl⟩))
    all_goals go_ret
    all_goals exact ⟨_, rfl, h⟩
  · split at hr
    · cases hr
      have hN := fun (w : World) (Q : List (Value × P)) (L : List (Nat × Obj)) (h : PT x Q L (upT s) w) => named2 ok 3 h
      have hU : nmH x.ts x.fin 3 (upT s) = ⟨3, (nmH x.ts x.fin 3 (upT s)).pos, 0, (nmH x.ts x.fin 3 (upT s)).name⟩ := rfl
      rw [hU]
      clear hU
      generalize (nmH x.ts x.fin 3 (upT s)).pos = hp at *
      generalize (nmH x.ts x.fin 3 (upT s)).name = hm at *
      go_enter Tryz.func61, Tryz.ntmps61
      go_wp2_with (first | (go_at_call 104; refine (accept_yes ok _ (by decide) (by first | exact h | exact h.drewN _ | exact h.hold _ | exact (h.hold _).drew | exact (h.hold _).drewN _ | exact h.drew | exact h.alloc _ | exact h.less | exact (h.alloc _).drewN _ | exact (h.less).alloc _) (by assumption)).mono ?_; rintro e w' ⟨rfl, h⟩; have hsz := h.size; (try (obtain ⟨r0, r1, r2, r3, z0, z1, z2, z3⟩ := h.four; have hs4 := (Array.getElem?_eq_some_iff.1 h.head).1))) | (go_at_call 104; refine (accept_no ok _ (by first | exact h | exact h.drewN _ | exact h.hold _ | exact (h.hold _).drew | exact (h.hold _).drewN _ | exact h.drew | exact h.alloc _ | exact h.less | exact (h.alloc _).drewN _ | exact (h.less).alloc _) (by first | assumption | exact eq_false_of_ne_true (by assumption))).mono ?_; rintro e w' ⟨rfl, h⟩; have hsz := h.size; (try (obtain ⟨r0, r1, r2, r3, z0, z1, z2, z3⟩ := h.four; have hs4 := (Array.getElem?_eq_some_iff.1 h.head).1))) | (go_at_call 106; refine (hN _ _ _ (by first | exact h | exact h.drewN _ | exact h.hold _ | exact (h.hold _).drew | exact (h.hold _).drewN _ | exact h.drew | exact h.alloc _ | exact h.less | exact (h.alloc _).drewN _ | exact (h.less).alloc _)).mono ?_; rintro e w' ⟨rfl, h⟩; have hsz := h.size; (try (obtain ⟨r0, r1, r2, r3, z0, z1, z2, z3⟩ := h.four; have hs4 := (Array.getElem?_eq_some_iff.1 h.head).1))) | (go_at_call 107; refine (must_any ok _ (by decide) (by first | exact h | exact h.drewN _ | exact h.hold _ | exact (h.hold _).drew | exact (h.hold _).drewN _ | exact h.drew | exact h.alloc _ | exact h.less | exact (h.alloc _).drewN _ | exact (h.less).alloc _)).mono ?_; rintro e w' ⟨rfl, h⟩; have hsz := h.size; (try (obtain ⟨r0, r1, r2, r3, z0, z1, z2, z3⟩ := h.four; have hs4 := (Array.getElem?_eq_some_iff.1 h.head).1))))
      all_goals go_ret
      all_goals exact ⟨_, rfl, h.drop.push (.leaf 132 ⟨3, hp, 0, hm⟩)⟩
    · split at hr
      · have hFn := fun (w : World) (Q : List (Value × P)) (L : List (Nat × Obj)) (h : PT x Q L (upT s) w) => function_walk ok S h hr
        go_enter Tryz.func61, Tryz.ntmps61
        go_wp2_with (first | (go_at_call 104; refine (accept_yes ok _ (by decide) (by first | exact h | exact h.drewN _ | exact h.hold _ | exact (h.hold _).drew | exact (h.hold _).drewN _ | exact h.drew | exact h.alloc _ | exact h.less | exact (h.alloc _).drewN _ | exact (h.less).alloc _) (by assumption)).mono ?_; rintro e w' ⟨rfl, h⟩; have hsz := h.size; (try (obtain ⟨r0, r1, r2, r3, z0, z1, z2, z3⟩ := h.four; have hs4 := (Array.getElem?_eq_some_iff.1 h.head).1))) | (go_at_call 104; refine (accept_no ok _ (by first | exact h | exact h.drewN _ | exact h.hold _ | exact (h.hold _).drew | exact (h.hold _).drewN _ | exact h.drew | exact h.alloc _ | exact h.less | exact (h.alloc _).drewN _ | exact (h.less).alloc _) (by first | assumption | exact eq_false_of_ne_true (by assumption))).mono ?_; rintro e w' ⟨rfl, h⟩; have hsz := h.size; (try (obtain ⟨r0, r1, r2, r3, z0, z1, z2, z3⟩ := h.four; have hs4 := (Array.getElem?_eq_some_iff.1 h.head).1))) | (go_at_call 108; refine (hFn _ _ _ (by first | exact h | exact h.drewN _ | exact h.hold _ | exact (h.hold _).drew | exact (h.hold _).drewN _ | exact h.drew | exact h.alloc _ | exact h.less | exact (h.alloc _).drewN _ | exact (h.less).alloc _)).mono ?_; rintro e w' ⟨v, rfl, h⟩; have hsz := h.size; (try (obtain ⟨r0, r1, r2, r3, z0, z1, z2, z3⟩ := h.four; have hs4 := (Array.getElem?_eq_some_iff.1 h.head).1)); rcases h.top.shp with rfl | ⟨ty, u, rfl⟩))
        all_goals go_ret
        all_goals exact ⟨_, rfl, h⟩
      · cases hr
        go_enter Tryz.func61, Tryz.ntmps61
        go_wp2_with (first | (go_at_call 104; refine (accept_yes ok _ (by decide) (by first | exact h | exact h.drewN _ | exact h.hold _ | exact (h.hold _).drew | exact (h.hold _).drewN _ | exact h.drew | exact h.alloc _ | exact h.less | exact (h.alloc _).drewN _ | exact (h.less).alloc _) (by assumption)).mono ?_; rintro e w' ⟨rfl, h⟩; have hsz := h.size; (try (obtain ⟨r0, r1, r2, r3, z0, z1, z2, z3⟩ := h.four; have hs4 := (Array.getElem?_eq_some_iff.1 h.head).1))) | (go_at_call 104; refine (accept_no ok _ (by first | exact h | exact h.drewN _ | exact h.hold _ | exact (h.hold _).drew | exact (h.hold _).drewN _ | exact h.drew | exact h.alloc _ | exact h.less | exact (h.alloc _).drewN _ | exact (h.less).alloc _) (by first | assumption | exact eq_false_of_ne_true (by assumption))).mono ?_; rintro e w' ⟨rfl, h⟩; have hsz := h.size; (try (obtain ⟨r0, r1, r2, r3, z0, z1, z2, z3⟩ := h.four; have hs4 := (Array.getElem?_eq_some_iff.1 h.head).1))) | (go_at_call 109; refine (fail_any ok _ (by decide) (by first | exact h | exact h.drewN _ | exact h.hold _ | exact (h.hold _).drew | exact (h.hold _).drewN _ | exact h.drew | exact h.alloc _ | exact h.less | exact (h.alloc _).drewN _ | exact (h.less).alloc _)).mono ?_; rintro e w' ⟨rfl, h⟩; have hsz := h.size; (try (obtain ⟨r0, r1, r2, r3, z0, z1, z2, z3⟩ := h.four; have hs4 := (Array.getElem?_eq_some_iff.1 h.head).1))))
        all_goals go_ret
        all_goals exact ⟨_, rfl, h.push .nil⟩
end
end
section
def progLI (ts : List Tok) (fin : Int) (R : RecI) : Nat → List P → T → Option (List P × T)
  | 0, _, _ => none
  | f + 1, ps, s =>
    if (tokT ts fin s).kind = 0 then some (ps, s)
    else
      match declarationI ts fin R s with
      | none => none
      | some (q, s1) => progLI ts fin R f (ps ++ [q]) s1
def progI (ts : List Tok) (fin : Int) (R : RecI) (s : T) : Option (List P × T) := progLI ts fin R 1000 [] s
theorem results_cell_tmp {P : Program} {fn : Func} {p q : Tmp} {ty : TypeId} (h : fn.results = #[.cell p ty, .tmp q]) (tmps : Array Value) (w : World) (g : Nat) (t : TypeId) (cs : Array Value) (fr : Nat × Nat) (d : TypeDesc)
    (hp : tmps.getD p undef = .pointer (some ⟨g, 0, none⟩)) (hg : w.heap[g]? = some (.cells cs t fr))
    (hu : P.underlying ty = some d) (hd : (match d with | .struct _ | .array _ _ => true | _ => false) = true) (hi : (P.info? ty).map (·.size) = some cs.size) :
    (results fn tmps).run P w = .ok (.tuple #[.agg cs, tmps.getD q undef]) w := by
  have hp' : tmps[p]?.getD undef = .pointer (some ⟨g, 0, none⟩) := by simpa using hp
  simp [results, h, hp', asAddr, run_loadVar_row w g t ty cs fr d hg hu hd hi]
section
variable {x : Cx} {Q : List (Value × P)} {L : List (Nat × Obj)} {s s' : T} {w w' : World} {R : RecI} {ps : List P}
def PrI (x : Cx) (Q : List (Value × P)) (L : List (Nat × Obj)) (R : RecI) (ps : List P) (s' : T) (v : Value) (wr : World) (f : Nat) : Prop := ∃ (qs : List P) (s1 : T), Lst x Q L s1 v qs wr ∧ qs.length + f ≤ 1000 ∧ progLI x.ts x.fin R f qs s1 = some (ps, s')
/-- What a program's reading tells: the program, or what is wrong with it. -/
def progV (s : T) (n : Nat) (lv : Value) : Value := if s.c = 0 then .tuple #[.agg #[.int .i64 1, .int .i64 0, .int .i64 0, .string ⟨#[]⟩, lv], .nilIface] else .tuple #[.agg #[.int .i64 0, .int .i64 0, .int .i64 0, .string ⟨#[]⟩, .slice none 0 0], .iface 113 (.agg #[.int .i64 n, .iface 77 (.agg #[.int .i64 s.c, .int .i64 s.a])])]
set_option maxHeartbeats 8000000 in
set_option maxRecDepth 100000 in
theorem program_walk (ok : x.Ok) (S : GoodS x R) (h : PT x Q L s w) (hr : progI x.ts x.fin R s = some (ps, s')) : Calls Tryz.prog 39 #[.pointer (some ⟨x.B, 0, none⟩)] w fun e w' => ∃ lv, e = .returned (progV s' ps.length lv) ∧ PT x ((rowV lv, rowP ps) :: Q) L s' w' := by
  have hsz := h.size
  have g0 := fTok0
  have n1 := nilE
  unfold progI at hr
  have h := h.hold (.cells #[.int .i64 0, .int .i64 0, .int .i64 0, .string ⟨#[]⟩, .slice none 0 0] 46)
  go_enter Tryz.func39, Tryz.ntmps39
  go_wp2
  go_loopw [4] (fun v wr => ∃ f, PrI x Q ((w.heap.size, .cells #[.int .i64 0, .int .i64 0, .int .i64 0, .string ⟨#[]⟩, .slice none 0 0] 46) :: L) R ps s' v wr f) (fun v wr => least (PrI x Q ((w.heap.size, .cells #[.int .i64 0, .int .i64 0, .int .i64 0, .string ⟨#[]⟩, .slice none 0 0] 46) :: L) R ps s' v wr))
  case atStart => exact ⟨1000, _, _, Lst.nil h, by simp, hr⟩
  case round =>
    clear h hr
    have hr := least_is hrel
    generalize hF : least (PrI x Q ((w.heap.size, .cells #[.int .i64 0, .int .i64 0, .int .i64 0, .string ⟨#[]⟩, .slice none 0 0] 46) :: L) R ps s' _ wr) = F at hr
    obtain ⟨qs, s1, ⟨Q', L', h, ho⟩, hlen, hl⟩ := hr
    cases F with
    | zero => simp [progLI] at hl
    | succ f =>
      rw [progLI] at hl
      have hM := hide (Nat.lt_of_lt_of_eq (Nat.lt_succ_self f) hF.symm)
      have hsz := h.size
      have hT := fun (w : World) (Q : List (Value × P)) (L : List (Nat × Obj)) (h : PT x Q L s1 w) => token_any ok h
      by_cases hk : (tokT x.ts x.fin s1).kind = 0
      · rw [if_pos hk] at hl
        cases hl
        obtain ⟨la, lc, rfl⟩ := ho.shape
        generalize tokT x.ts x.fin s' = t at *
        obtain ⟨tk, tp, tx, tn⟩ := t
        simp only at hk
        subst hk
        simp only [Tok.val] at hT
        go_wp2_with fail
        refine (hT _ _ _ h).mono ?_
        rintro e w' ⟨rfl, h⟩
        have hsz := h.size
        have c4 := h.c4
        obtain ⟨m0, m1, m2, m3, m4, y0, y1, y2, y3, y4, hb2⟩ := h.at5 (b := w.heap.size) (List.mem_append_right _ (List.mem_cons_self ..))
        by_cases hc : s'.c = 0
        · rw [errV_nil hc] at c4
          go_wp2
          have k := (h.perm List.perm_middle).fill5 (.int .i64 1) (.int .i64 0) (.int .i64 0) (.string ⟨#[]⟩) (.slice la ps.length lc)
          refine bodyPost_ret (results_cell_tmp rfl _ _ w.heap.size 46 _ (0, 0) _ rfl k.head Tryz.underlying46 rfl (by kernel_rfl)) rfl ?_
          exact ⟨.slice la ps.length lc, by simp [progV, hc], Lst.done ⟨Q', L', k.drop, ho⟩⟩
        · rw [errV_some hc] at c4
          have n2 := someE s'.c s'.a
          go_wp2
          go_region
          all_goals go_wp2
          all_goals have k := ((h.perm List.perm_middle).fill5 (.int .i64 0) (.int .i64 0) (.int .i64 0) (.string ⟨#[]⟩) (.slice none 0 0)).drew
          all_goals refine bodyPost_ret (results_cell_tmp rfl _ _ w.heap.size 46 _ (0, 0) _ rfl k.head Tryz.underlying46 rfl (by kernel_rfl)) rfl ?_
          all_goals exact ⟨.slice la ps.length lc, by simp [progV, hc], Lst.done ⟨Q', L', k.drop, ho⟩⟩
      · rw [if_neg hk] at hl
        have e1 : ((tokT x.ts x.fin s1).kind != 0) = true := by simpa using hk
        split at hl
        · cases hl
        · rename_i q s2 eq
          generalize tokT x.ts x.fin s1 = t at *
          obtain ⟨tk, tp, tx, tn⟩ := t
          simp only [Tok.val] at hT e1
          clear hk
          go_wp2_with (first | (go_at_call 60; refine (hT _ _ _ h).mono ?_; rintro e w' ⟨rfl, h⟩; have hsz := h.size) | (go_at_call 61; refine (declaration_walk ok S h eq).mono ?_; rintro e w' ⟨v, rfl, h⟩; have hsz := h.size; rcases h.top.shp with rfl | ⟨ty, u, rfl⟩) | (at_builtin; refine wpList_append_part rfl _ _ rfl _ _ _ _ h ho (by omega) rfl rfl ?_; intro lv' w2 hL))
          all_goals go_roundw
          all_goals first | exact ⟨f, _, _, hL, by simp; omega, hl⟩ | ((repeat apply Exists.intro); exact ⟨⟨f, _, _, hL, by simp; omega, hl⟩, rfl⟩) | exact Nat.lt_of_le_of_lt (least_le (show PrI x Q _ R ps s' _ _ f from ⟨_, _, hL, by simp; omega, hl⟩)) (unhide hM)
end
end
end Go.Proofs.YtjikjejfobnfnaaGreatDoor.imp
