/-
  The reader goes deeper; it lays a node down.
  The reader's tables: the operator of a sign at a level, the comparison of a sign; a node that is laid, or not.
  Terms: a primary.
  Terms: a level; conditions joined by and, by or.
  Terms: a unary. A use.
  Rows of places that grow while a text is read.
-/
import Derived.Test.YtjikjejfobnfnaaGreatDoorC09
import Derived.OwnWalk
import Derived.Deep.RegionLaw
import Derived.Maps.AppendAt
namespace Go.Proofs.YtjikjejfobnfnaaGreatDoor.par
open Go.RowKit Go.Proofs.YtjikjejfobnfnaaGreatDoor.num Go.Proofs.YtjikjejfobnfnaaGreatDoor.lex
set_option linter.unusedVariables false
section
section
variable {x : Cx} {L : List (Nat × Obj)} {s : S} {w : World}
set_option maxRecDepth 100000 in
theorem down_any (ok : x.Ok) (h : PS x L s w) : Calls Tryz.prog 84 #[.pointer (some ⟨x.B, 0, none⟩)] w fun e w' => e = .returned (.bool ((downP x.ts x.fin s).c == 0)) ∧ PS x L (downP x.ts x.fin s) w' := by
  have c4 := h.c4
  have f4 := h.fz 4
  have k := h.deep (wrap64 (s.d + 1))
  have d5 := k.c5
  by_cases hd : 10 < wrap64 (s.d + 1)
  · have e2 : downP x.ts x.fin s = failP x.ts x.fin (more s) 7 := by simp [downP, more, hd]
    rw [e2]
    go_enter Tryz.func84, Tryz.ntmps84
    go_wp2_with (go_at_call 83; refine (fail_any ok 7 k).mono ?_; rintro e w' ⟨rfl, h⟩; have c5 := h.c5)
    go_ret
    exact ⟨rfl, h⟩
  · have e2 : downP x.ts x.fin s = more s := by simp [downP, more, hd]
    rw [e2]
    go_enter Tryz.func84, Tryz.ntmps84
    go_wp2
    go_ret
    exact ⟨rfl, k⟩
theorem down_yes (ok : x.Ok) (h : PS x L s w) (hi : (downP x.ts x.fin s).c = 0) : Calls Tryz.prog 84 #[.pointer (some ⟨x.B, 0, none⟩)] w fun e w' => e = .returned (.bool true) ∧ PS x L (downP x.ts x.fin s) w' := by
  have := down_any ok h
  rwa [show ((downP x.ts x.fin s).c == 0) = true by simpa using hi] at this
theorem down_no (ok : x.Ok) (h : PS x L s w) (hi : ¬ (downP x.ts x.fin s).c = 0) : Calls Tryz.prog 84 #[.pointer (some ⟨x.B, 0, none⟩)] w fun e w' => e = .returned (.bool false) ∧ PS x L (downP x.ts x.fin s) w' := by
  have := down_any ok h
  rwa [show ((downP x.ts x.fin s).c == 0) = false by simpa using hi] at this
theorem infoNode : (Tryz.prog.info? 33).map (fun i => (i.zero, i.size, i.bytes)) = some (some (.agg #[.int .i64 0, .int .i64 0, .int .i64 0, .string ⟨#[]⟩, .slice none 0 0]), 5, 64) := by kernel_rfl
set_option maxRecDepth 100000 in
theorem node_bad (ok : x.Ok) (n : Nd) (kv : Value) (h : PS x L s w) (hc : s.c ≠ 0) : Calls Tryz.prog 51 #[.pointer (some ⟨x.B, 0, none⟩), .agg #[.int .i64 n.kind, .int .i64 n.pos, .int .i64 n.num, .string n.name, kv]] w fun e w' => e = .returned (.int .i64 0) ∧ PS x L s w' := by
  have c5 := h.c5
  have e3 : (s.c != 0) = true := by simpa using hc
  have hsz : x.B < w.heap.size := by obtain ⟨nv, hB, _, _⟩ := h.blk; exact (Array.getElem?_eq_some_iff.1 hB).1
  go_enter Tryz.func51, Tryz.ntmps51
  go_wp2
  go_ret
  exact ⟨rfl, by first | exact h | exact h.alloc _⟩
/-- append onto a row of one's own, as a step of a region that draws. -/
theorem step_append_own {P : Program} {ops : Array Oper} {o : Oper} {a : Act} {w : World} {K : Act → World → Prop} {Q : Exit → Act → World → Prop} {E : Prop}
    (hg : o.guard = none) (s x : Operand) (t : TypeId) (hop : o.op = Op.call { callee := Callee.builtin Builtin.append, args := #[s, x], argTypes := #[t, t] })
    (base : Nat) (e : TypeId) (i : TypeInfo) (z : Value) (size bytes : Nat) (h1 : P.underlying t = some (.slice e)) (h2 : P.info? e = some i) (h3 : i.zero = some z) (h4 : i.size = size) (h5 : i.bytes = bytes) (h6 : z.cells.size = size) (h7 : 0 < size)
    (v : Value) (n : Nat) (xs : List Value) (hs : a.eval s = v) (hown : w.ownsRow base e size v n xs)
    (ad : Addr) (m c : Nat) (news : List Value) (hx : a.eval x = .slice (some ad) m c) (hn : news.length = m * size) (hc : ∀ j u, news[j]? = some u → w.cell? (ad.add j) = some u) (h1c : ∀ u ∈ news, u.oneCell' = true)
    (b1 : n + m ≤ maxLen) (b2 : (n + m) * bytes ≤ 140737488355328) (hbase : base ≤ w.heap.size)
    (hK : ∀ v' w', w'.ownsRow base e size v' (n + m) (xs ++ news) → w.grownBy w' v.ownBlock → (v'.ownBlock = v.ownBlock ∨ v'.ownBlock = some w.heap.size) → K (a.put o.dst v') w') :
    if Region.wanted o (yielded ops a.tmps) = true then Oper.wp P o a w K Q else E := by
  have hw : Region.wanted o (yielded ops a.tmps) = true := by simp [Region.wanted, hg]
  rw [if_pos hw]
  obtain ⟨v', w', hrun, r1, r2, _, r3⟩ := run_append_own_at (P := P) w base t o.type e i z size bytes h1 h2 h3 h4 h5 h6 h7 v n xs hown ad m c news hn hc h1c b1 b2 hbase
  unfold Oper.wp
  simp [execOp, hop, resolve, invoke, builtin, hs, hx, hrun, Result.andThen]
  exact hK v' w' r1 r2 r3
/-- A node is laid behind the others. -/
theorem PS.push {w1 w2 : World} {nv v' kv : Value} {M : List (Nd × Value)} {n : Nd} {k : Nat} (hkM : k = M.length) (h : PS x L s w1) (hB : w1.heap[x.B]? = some (.cells (rdCells x nv s) 67)) (hM : M.map (·.1) = s.N)
    (hrow : w1.ownsRow (x.B + 1) 33 5 nv k (flatN M)) (hks : ∀ m ∈ M, KRow x L w1 m.2 m.1.kids) (hk : KRow x L w1 kv n.kids)
    (hown : w2.ownsRow (x.B + 1) 33 5 v' (k + 1) (flatN M ++ nCells (n, kv))) (hg : w1.grownBy w2 nv.ownBlock) (hat : v'.ownBlock = nv.ownBlock ∨ v'.ownBlock = some w1.heap.size) (hL : ∀ b o, (b, o) ∈ L → nv.ownBlock ≠ some b) :
    PS x L ⟨s.p, s.N ++ [n], s.d, s.c, s.a⟩ (w2.setCell ⟨x.B, 3, none⟩ v') := by
  have hne : ∀ (b : Nat) (cur : Array Value) (ty : TypeId), w1.heap[b]? = some (Obj.cells cur ty) → ty ≠ 33 → some b ≠ nv.ownBlock := by
    intro b cur ty hb hty e
    rcases hrow.2 with ⟨rfl, _⟩ | ⟨g, cap, cr, rfl, hg, hh, r⟩
    · cases e
    · cases e
      rw [hb] at hh
      cases hh
      exact hty rfl
  have lift3 : ∀ (b : Nat) (cur : Array Value), w1.heap[b]? = some (Obj.cells cur 3) → w2.heap[b]? = some (Obj.cells cur 3) := fun b cur hb =>
    (hg.block b (Array.getElem?_eq_some_iff.1 hb).1 (hne b cur 3 hb (by decide))).trans hb
  have hB2 : w2.heap[x.B]? = some (.cells (rdCells x nv s) 67) := (hg.block x.B (Array.getElem?_eq_some_iff.1 hB).1 (hne _ _ 67 hB (by decide))).trans hB
  have row3 : ∀ v l, KRow x L w1 v l → KRow x L (w2.setCell ⟨x.B, 3, none⟩ v') v l := fun v l hr =>
    hr.of_block fun b cur _ hb hlt => at_other (lift3 _ _ hb) (by omega)
  refine ⟨h.le, ⟨v', ?_, ⟨M ++ [(n, kv)], by simp [hM], ?_, fun m hm => ?_⟩, fun b o hm => ?_⟩, fun b o hm => ?_, h.nd, ?_⟩
  · have := at_same (i := 3) (v := v') hB2
    simpa [rdCells] using this
  · rw [flatN_snoc, List.length_append, ← hkM]
    exact row_set hown (by simp) _
  · rcases List.mem_append.1 hm with hm | hm
    · exact row3 _ _ (hks m hm)
    · obtain rfl := List.mem_singleton.1 hm
      exact row3 _ _ hk
  · rcases hat with e | e
    · rw [e]; exact hL b o hm
    · rw [e]
      intro e2
      cases e2
      exact Nat.lt_irrefl _ (Array.getElem?_eq_some_iff.1 (h.keep _ o hm).2).1
  · have hk := h.keep b o hm
    exact ⟨hk.1, at_other ((hg.block b (Array.getElem?_eq_some_iff.1 hk.2).1 (fun e => hL b o hm e.symm)).trans hk.2) (by omega)⟩
  · have hsz : x.B ≤ w1.heap.size := Nat.le_of_lt (Array.getElem?_eq_some_iff.1 hB).1
    exact (h.bel.grown hg hsz (fun g hgg => by have := row_block hrow g hgg; omega)).setCell (p := ⟨x.B, 3, none⟩) (Nat.le_refl _) _
theorem push_blk {w1 w2 : World} {nv : Value} {k : Nat} {xs : List Value} {cs : Array Value} (hB : w1.heap[x.B]? = some (.cells cs 67)) (hrow : w1.ownsRow (x.B + 1) 33 5 nv k xs) (hg : w1.grownBy w2 nv.ownBlock) : w2.heap[x.B]? = some (.cells cs 67) :=
  (hg.block x.B (Array.getElem?_eq_some_iff.1 hB).1 (fun e => by have := row_block hrow x.B e.symm; omega)).trans hB
theorem five_new (w : World) (a b c d e : Value) (t : TypeId) : ∀ j u, [a, b, c, d, e][j]? = some u → (w.alloc (.cells #[a, b, c, d, e] t)).cell? ((⟨w.heap.size, 0, none⟩ : Addr).add j) = some u := by
  intro j u h
  match j, h with
  | 0, h => simpa [Addr.add] using h
  | 1, h => simpa [Addr.add] using h
  | 2, h => simpa [Addr.add] using h
  | 3, h => simpa [Addr.add] using h
  | 4, h => simpa [Addr.add] using h
theorem five_drew (w : World) (o : Obj) (a b c d e : Value) (t : TypeId) : ∀ j u, [a, b, c, d, e][j]? = some u → ((w.alloc o).alloc (.cells #[a, b, c, d, e] t)).drew.cell? ((⟨w.heap.size + 1, 0, none⟩ : Addr).add j) = some u := by
  have h := five_new (w.alloc o) a b c d e t
  have e : (w.alloc o).heap.size = w.heap.size + 1 := by simp
  rw [e] at h
  exact h
theorem five_one (n : Nd) (ka : Option Addr) (kl kc : Nat) : ∀ u ∈ nCells (n, .slice ka kl kc), u.oneCell' = true := by
  intro u hu
  simp only [nCells, List.mem_cons, List.not_mem_nil, or_false] at hu
  rcases hu with rfl | rfl | rfl | rfl | rfl <;> rfl
theorem at_drew {w : World} {b : Nat} {o : Obj} (h : w.heap[b]? = some o) : w.drew.heap[b]? = some o := h
theorem row_drew {w : World} {base : Nat} {e : TypeId} {size : Nat} {v : Value} {n : Nat} {xs : List Value} (h : w.ownsRow base e size v n xs) : w.drew.ownsRow base e size v n xs := h
set_option maxHeartbeats 1000000 in
set_option maxRecDepth 100000 in
theorem node_ok (ok : x.Ok) (n : Nd) (kv : Value) (h : PS x L s w) (hc : s.c = 0) (hN : s.N.length < 1000000) (hk : KRow x L w kv n.kids) : Calls Tryz.prog 51 #[.pointer (some ⟨x.B, 0, none⟩), .agg #[.int .i64 n.kind, .int .i64 n.pos, .int .i64 n.num, .string n.name, kv]] w fun e w' => e = .returned (.int .i64 s.N.length) ∧ PS x L ⟨s.p, s.N ++ [n], s.d, s.c, s.a⟩ w' := by
  have c5 := h.c5
  rw [hc] at c5
  obtain ⟨nv, hB, hNs, hL⟩ := h.blk
  obtain ⟨M, hM, hrow, hks⟩ := hNs.rows
  have hML : M.length = s.N.length := by rw [← hM]; simp
  rw [hML] at hrow
  have c3 : w.cell? ⟨x.B, 3, none⟩ = some nv := cell_of hB rfl
  obtain ⟨i0, hi, hz0, hz1, hz2⟩ := info_parts infoNode
  obtain ⟨na, nc, rfl⟩ := row_slice hrow
  obtain ⟨ka, kc, rfl⟩ := row_slice hk.row
  have hsz : x.B < w.heap.size := (Array.getElem?_eq_some_iff.1 hB).1
  have HR := hide hrow
  have HB := hide hB
  have HM := hide hML
  clear hrow hB hML hNs
  go_enter Tryz.func51, Tryz.ntmps51
  go_wp2
  go_region_law (refine step_append_own rfl (.tmp 15) (.tmp 17) 28 rfl (x.B + 1) 33 i0 (.agg #[.int .i64 0, .int .i64 0, .int .i64 0, .string ⟨#[]⟩, .slice none 0 0]) 5 64 Tryz.underlying28 hi hz0 hz1 hz2 rfl (by decide) (.slice na s.N.length nc) s.N.length (flatN M) (by simp [Act.eval]) (row_drew (((unhide HR).alloc _).alloc _)) ⟨w.heap.size + 1, 0, none⟩ 1 1 (nCells (n, .slice ka n.kids.length kc)) (by simp [Act.eval]) rfl (five_drew _ _ _ _ _ _ _ _) (five_one _ _ _ _) (by unfold maxLen; omega) (by omega) (by simp; omega) ?_; intro v' w2 hown' hgrow hat; obtain ⟨na', nc', rfl⟩ := row_slice hown'; have q0 := push_blk (at_drew (at_alloc (at_alloc (unhide HB)))) (row_drew (((unhide HR).alloc _).alloc _)) hgrow; have c3 : w2.cell? ⟨x.B, 3, none⟩ = some (.slice na s.N.length nc) := cell_of q0 rfl; have f3 : w2.frozen? ⟨x.B, 3, none⟩ = false := frozen_of q0; clear q0; have HO := hide hown'; have HG := hide hgrow; clear hown' hgrow)
  all_goals go_wp2
  all_goals go_ret
  all_goals refine ⟨ret_int (by omega), ?_⟩
  all_goals exact PS.push (unhide HM).symm ((h.alloc _).alloc _).drew (at_drew (at_alloc (at_alloc (unhide HB)))) hM (row_drew (((unhide HR).alloc _).alloc _)) (fun m hm => (hks m hm).of_block fun b cur _ hb _ => at_drew (at_alloc (at_alloc hb))) (hk.of_block fun b cur _ hb _ => at_drew (at_alloc (at_alloc hb))) (unhide HO) (unhide HG) (by simpa using hat) hL
end
end
section
theorem ba_ne' {a : ByteArray} {l : List UInt8} (h : ¬ a = ⟨l.toArray⟩) : (a.toList == l) = false := by
  rw [beq_eq_false_iff_ne]
  intro e
  rw [ByteArray.toList_eq] at e
  exact h (by rcases a with ⟨⟨a⟩⟩; simp at e; rw [e])
set_option maxRecDepth 100000 in
theorem op_1 (X : ByteArray) (w : World) : Calls Tryz.prog 155 #[.string X, .int .i64 1] w fun e w' => e = .returned (.int .i64 (opP X 1)) ∧ w' = w := by
  by_cases h0 : X = ⟨#[124]⟩
  · subst h0
    go_enter Tryz.func155, Tryz.ntmps155
    go_wp2
    go_ret
    exact ⟨rfl, rfl⟩
  have k0 : (X.toList == [124]) = false := ba_ne' h0
  have e : opP X 1 = 0 := by simp [opP, h0]
  rw [e]
  go_enter Tryz.func155, Tryz.ntmps155
  go_wp2
  go_ret
  exact ⟨rfl, rfl⟩
set_option maxRecDepth 100000 in
theorem op_2 (X : ByteArray) (w : World) : Calls Tryz.prog 155 #[.string X, .int .i64 2] w fun e w' => e = .returned (.int .i64 (opP X 2)) ∧ w' = w := by
  by_cases h0 : X = ⟨#[94]⟩
  · subst h0
    go_enter Tryz.func155, Tryz.ntmps155
    go_wp2
    go_ret
    exact ⟨rfl, rfl⟩
  have k0 : (X.toList == [94]) = false := ba_ne' h0
  have e : opP X 2 = 0 := by simp [opP, h0]
  rw [e]
  go_enter Tryz.func155, Tryz.ntmps155
  go_wp2
  go_ret
  exact ⟨rfl, rfl⟩
set_option maxRecDepth 100000 in
theorem op_3 (X : ByteArray) (w : World) : Calls Tryz.prog 155 #[.string X, .int .i64 3] w fun e w' => e = .returned (.int .i64 (opP X 3)) ∧ w' = w := by
  by_cases h0 : X = ⟨#[38]⟩
  · subst h0
    go_enter Tryz.func155, Tryz.ntmps155
    go_wp2
    go_ret
    exact ⟨rfl, rfl⟩
  have k0 : (X.toList == [38]) = false := ba_ne' h0
  have e : opP X 3 = 0 := by simp [opP, h0]
  rw [e]
  go_enter Tryz.func155, Tryz.ntmps155
  go_wp2
  go_ret
  exact ⟨rfl, rfl⟩
set_option maxRecDepth 100000 in
theorem op_4 (X : ByteArray) (w : World) : Calls Tryz.prog 155 #[.string X, .int .i64 4] w fun e w' => e = .returned (.int .i64 (opP X 4)) ∧ w' = w := by
  by_cases h0 : X = ⟨#[60, 60]⟩
  · subst h0
    go_enter Tryz.func155, Tryz.ntmps155
    go_wp2
    go_ret
    exact ⟨rfl, rfl⟩
  by_cases h1 : X = ⟨#[62, 62]⟩
  · subst h1
    go_enter Tryz.func155, Tryz.ntmps155
    go_wp2
    go_ret
    exact ⟨rfl, rfl⟩
  have k0 : (X.toList == [60, 60]) = false := ba_ne' h0
  have k1 : (X.toList == [62, 62]) = false := ba_ne' h1
  have e : opP X 4 = 0 := by simp [opP, h0, h1]
  rw [e]
  go_enter Tryz.func155, Tryz.ntmps155
  go_wp2
  go_ret
  exact ⟨rfl, rfl⟩
set_option maxRecDepth 100000 in
theorem op_5 (X : ByteArray) (w : World) : Calls Tryz.prog 155 #[.string X, .int .i64 5] w fun e w' => e = .returned (.int .i64 (opP X 5)) ∧ w' = w := by
  by_cases h0 : X = ⟨#[43]⟩
  · subst h0
    go_enter Tryz.func155, Tryz.ntmps155
    go_wp2
    go_ret
    exact ⟨rfl, rfl⟩
  by_cases h1 : X = ⟨#[45]⟩
  · subst h1
    go_enter Tryz.func155, Tryz.ntmps155
    go_wp2
    go_ret
    exact ⟨rfl, rfl⟩
  by_cases h2 : X = ⟨#[43, 37]⟩
  · subst h2
    go_enter Tryz.func155, Tryz.ntmps155
    go_wp2
    go_ret
    exact ⟨rfl, rfl⟩
  by_cases h3 : X = ⟨#[45, 37]⟩
  · subst h3
    go_enter Tryz.func155, Tryz.ntmps155
    go_wp2
    go_ret
    exact ⟨rfl, rfl⟩
  have k0 : (X.toList == [43]) = false := ba_ne' h0
  have k1 : (X.toList == [45]) = false := ba_ne' h1
  have k2 : (X.toList == [43, 37]) = false := ba_ne' h2
  have k3 : (X.toList == [45, 37]) = false := ba_ne' h3
  have e : opP X 5 = 0 := by simp [opP, h0, h1, h2, h3]
  rw [e]
  go_enter Tryz.func155, Tryz.ntmps155
  go_wp2
  go_ret
  exact ⟨rfl, rfl⟩
set_option maxRecDepth 100000 in
theorem op_6 (X : ByteArray) (w : World) : Calls Tryz.prog 155 #[.string X, .int .i64 6] w fun e w' => e = .returned (.int .i64 (opP X 6)) ∧ w' = w := by
  by_cases h0 : X = ⟨#[42]⟩
  · subst h0
    go_enter Tryz.func155, Tryz.ntmps155
    go_wp2
    go_ret
    exact ⟨rfl, rfl⟩
  by_cases h1 : X = ⟨#[47]⟩
  · subst h1
    go_enter Tryz.func155, Tryz.ntmps155
    go_wp2
    go_ret
    exact ⟨rfl, rfl⟩
  by_cases h2 : X = ⟨#[37]⟩
  · subst h2
    go_enter Tryz.func155, Tryz.ntmps155
    go_wp2
    go_ret
    exact ⟨rfl, rfl⟩
  by_cases h3 : X = ⟨#[42, 37]⟩
  · subst h3
    go_enter Tryz.func155, Tryz.ntmps155
    go_wp2
    go_ret
    exact ⟨rfl, rfl⟩
  have k0 : (X.toList == [42]) = false := ba_ne' h0
  have k1 : (X.toList == [47]) = false := ba_ne' h1
  have k2 : (X.toList == [37]) = false := ba_ne' h2
  have k3 : (X.toList == [42, 37]) = false := ba_ne' h3
  have e : opP X 6 = 0 := by simp [opP, h0, h1, h2, h3]
  rw [e]
  go_enter Tryz.func155, Tryz.ntmps155
  go_wp2
  go_ret
  exact ⟨rfl, rfl⟩
theorem op_any (X : ByteArray) (n : Nat) (w : World) (h1 : 1 ≤ n) (h6 : n ≤ 6) : Calls Tryz.prog 155 #[.string X, .int .i64 (n : Int)] w fun e w' => e = .returned (.int .i64 (opP X n)) ∧ w' = w := by
  match n, h1, h6 with
  | 1, _, _ => exact op_1 X w
  | 2, _, _ => exact op_2 X w
  | 3, _, _ => exact op_3 X w
  | 4, _, _ => exact op_4 X w
  | 5, _, _ => exact op_5 X w
  | 6, _, _ => exact op_6 X w
  | n + 7, _, h => exact absurd h (by omega)
set_option maxRecDepth 100000 in
theorem cmp_any (X : ByteArray) (w : World) : Calls Tryz.prog 168 #[.string X] w fun e w' => e = .returned (.int .i64 (cmpP X)) ∧ w' = w := by
  by_cases h0 : X = ⟨#[61, 61]⟩
  · subst h0
    go_enter Tryz.func168, Tryz.ntmps168
    go_wp2
    go_ret
    exact ⟨rfl, rfl⟩
  by_cases h1 : X = ⟨#[33, 61]⟩
  · subst h1
    go_enter Tryz.func168, Tryz.ntmps168
    go_wp2
    go_ret
    exact ⟨rfl, rfl⟩
  by_cases h2 : X = ⟨#[60]⟩
  · subst h2
    go_enter Tryz.func168, Tryz.ntmps168
    go_wp2
    go_ret
    exact ⟨rfl, rfl⟩
  by_cases h3 : X = ⟨#[60, 61]⟩
  · subst h3
    go_enter Tryz.func168, Tryz.ntmps168
    go_wp2
    go_ret
    exact ⟨rfl, rfl⟩
  by_cases h4 : X = ⟨#[62]⟩
  · subst h4
    go_enter Tryz.func168, Tryz.ntmps168
    go_wp2
    go_ret
    exact ⟨rfl, rfl⟩
  by_cases h5 : X = ⟨#[62, 61]⟩
  · subst h5
    go_enter Tryz.func168, Tryz.ntmps168
    go_wp2
    go_ret
    exact ⟨rfl, rfl⟩
  have k0 : (X.toList == [61, 61]) = false := ba_ne' h0
  have k1 : (X.toList == [33, 61]) = false := ba_ne' h1
  have k2 : (X.toList == [60]) = false := ba_ne' h2
  have k3 : (X.toList == [60, 61]) = false := ba_ne' h3
  have k4 : (X.toList == [62]) = false := ba_ne' h4
  have k5 : (X.toList == [62, 61]) = false := ba_ne' h5
  have e : cmpP X = 0 := by simp [cmpP, h0, h1, h2, h3, h4, h5]
  rw [e]
  go_enter Tryz.func168, Tryz.ntmps168
  go_wp2
  go_ret
  exact ⟨rfl, rfl⟩
section
variable {x : Cx} {L : List (Nat × Obj)} {s : S} {w : World}
theorem node_any (ok : x.Ok) (h : PS x L s w) {k a m : Int} {nm : ByteArray} {kids : List Nat} {kv : Value} {r : Nat} {s' : S} (hn : nodeP s ⟨k, a, m, nm, kids⟩ = some (r, s')) (hk : KRow x L w kv kids) :
    Calls Tryz.prog 51 #[.pointer (some ⟨x.B, 0, none⟩), .agg #[.int .i64 k, .int .i64 a, .int .i64 m, .string nm, kv]] w fun e w' => e = .returned (.int .i64 (r : Int)) ∧ PS x L s' w' := by
  unfold nodeP at hn
  split at hn
  · rename_i hc
    cases hn
    exact node_bad ok ⟨k, a, m, nm, kids⟩ kv h hc
  · rename_i hc
    split at hn
    · rename_i hl
      cases hn
      exact node_ok ok ⟨k, a, m, nm, kids⟩ kv h (by omega) hl hk
    · cases hn
theorem PS.size (h : PS x L s w) : x.B < w.heap.size := by obtain ⟨nv, hB, _, _⟩ := h.blk; exact (Array.getElem?_eq_some_iff.1 hB).1
theorem nil_row (x : Cx) (L : List (Nat × Obj)) (w : World) : KRow x L w (.slice none 0 0) [] := ⟨World.ownsRow_nil w _ _ _, fun b o _ e => by cases e⟩
/-- Numbers that were written out just now. -/
theorem new_row (h : PS x L s w) (l : List Nat) (hl : l.length ≤ 100) : KRow x L (w.alloc (.cells (ints l).toArray 3)) (.slice (some ⟨w.heap.size, 0, none⟩) l.length l.length) l :=
  ⟨⟨by simp [ints], .inr ⟨w.heap.size, l.length, (ints l).toArray, rfl, h.size, one_first _ _, Nat.le_refl _, by unfold maxLen; omega, by simp [ints], List.take_of_length_le (by simp [ints])⟩⟩, fun b o hm e => by
    cases e
    exact Nat.lt_irrefl _ (Array.getElem?_eq_some_iff.1 (h.keep _ o hm).2).1⟩
theorem PS.less (h : PS x L s w) : PS x L (par.less s) (w.setCell ⟨x.B, 4, none⟩ (.int .i64 (wrap64 (s.d - 1)))) := h.deep _
end
section
variable {x : Cx} {L : List (Nat × Obj)} {s : S} {w : World} {p q : Nat × Obj} {b : Nat} {o : Obj}
theorem Nodes.less {L L' : List (Nat × Obj)} {nv : Value} {N : List Nd} (h : Nodes x L nv N w) (hs : ∀ b o, (b, o) ∈ L' → ∃ o', (b, o') ∈ L) : Nodes x L' nv N w := by
  obtain ⟨M, hM, hr, hm⟩ := h.rows
  exact ⟨M, hM, hr, fun m hmm => ⟨(hm m hmm).row, fun b o hb => by obtain ⟨o', ho'⟩ := hs b o hb; exact (hm m hmm).apart b o' ho'⟩⟩
theorem PS.drop (h : PS x (p :: L) s w) : PS x L s w := by
  obtain ⟨nv, h1, h2, h3⟩ := h.blk
  exact ⟨h.le, ⟨nv, h1, h2.less fun b o hm => ⟨o, List.mem_cons_of_mem _ hm⟩, fun b o hm => h3 b o (List.mem_cons_of_mem _ hm)⟩, fun b o hm => h.keep b o (List.mem_cons_of_mem _ hm), (List.nodup_cons.1 h.nd).2, h.bel⟩
/-- A new block is held. -/
theorem PS.hold (h : PS x L s w) (o : Obj) : PS x ((w.heap.size, o) :: L) s (w.alloc o) := by
  have k := h.alloc o
  obtain ⟨nv, h1, h2, h3⟩ := k.blk
  obtain ⟨nv', h1', h2', _⟩ := h.blk
  have e : nv' = nv := by
    have := at_alloc (a := o) h1'
    rw [h1] at this
    have e2 := congrArg (fun u => match u with | some (Obj.cells cs _ _) => cs[3]? | _ => none) this
    simpa [rdCells] using e2.symm
  subst e
  have h2n : Nodes x ((w.heap.size, o) :: L) nv' s.N (w.alloc o) := by
    obtain ⟨M, hM, hr, hm⟩ := h2'.rows
    refine ⟨M, hM, hr.alloc o, fun m hmm => ⟨(hm m hmm).row.alloc o, fun b o' hb => ?_⟩⟩
    rcases List.mem_cons.1 hb with e | hb
    · cases e
      intro e
      rcases (hm m hmm).row.2 with ⟨e1, _⟩ | ⟨g, cap, cur, e1, _, hh, _⟩
      · rw [e1] at e; cases e
      · rw [e1] at e
        cases e
        exact Nat.lt_irrefl _ (Array.getElem?_eq_some_iff.1 hh).1
    · exact (hm m hmm).apart b o' hb
  refine ⟨k.le, ⟨nv', h1, h2n, fun b o' hm => ?_⟩, fun b o' hm => ?_, ?_, k.bel⟩
  · rcases List.mem_cons.1 hm with e | hm
    · cases e
      obtain ⟨M, _, hr, _⟩ := h2'.rows
      intro e
      rcases hr.2 with ⟨rfl, _⟩ | ⟨g, cap, cur, rfl, _, hh, _⟩
      · cases e
      · cases e
        exact Nat.lt_irrefl _ (Array.getElem?_eq_some_iff.1 hh).1
    · exact h3 b o' hm
  · rcases List.mem_cons.1 hm with e | hm
    · cases e
      exact ⟨h.size, one_first _ _⟩
    · exact k.keep b o' hm
  · refine List.nodup_cons.2 ⟨fun hm => ?_, h.nd⟩
    obtain ⟨⟨b, o'⟩, hm, e⟩ := List.mem_map.1 hm
    have := (Array.getElem?_eq_some_iff.1 (h.keep b o' hm).2).1
    simp at e
    omega
theorem PS.hold' (h : PS x L s w) (o : Obj) (g : Nat) (hg : g = w.heap.size) : PS x ((g, o) :: L) s (w.alloc o) := by subst hg; exact h.hold o
/-- A cell of a block that is held is turned. -/
theorem PS.turns {cs : Array Value} {t : TypeId} {A : List (Nat × Obj)} (h : PS x (A ++ (b, .cells cs t) :: L) s w) (i : Nat) (v : Value) : PS x (A ++ (b, .cells (cs.setIfInBounds i v) t) :: L) s (w.setCell ⟨b, i, none⟩ v) := by
  have hb := h.keep b _ (by simp : (b, Obj.cells cs t) ∈ A ++ (b, .cells cs t) :: L)
  obtain ⟨nv, h1, h2, h3⟩ := h.blk
  have hn := h3 b _ (by simp : (b, Obj.cells cs t) ∈ A ++ (b, .cells cs t) :: L)
  have hnd : ∀ b' o', (b', o') ∈ A ∨ (b', o') ∈ L → b' ≠ b := by
    intro b' o' hm e
    subst e
    have nd := h.nd
    rw [List.map_append, List.map_cons, List.nodup_append] at nd
    rcases hm with hm | hm
    · exact nd.2.2 _ (List.mem_map.2 ⟨_, hm, rfl⟩) _ (by simp) rfl
    · exact (List.nodup_cons.1 nd.2.1).1 (List.mem_map.2 ⟨_, hm, rfl⟩)
  refine ⟨h.le, ⟨nv, at_other h1 (by omega), ?_, fun b' o' hm => ?_⟩, fun b' o' hm => ?_, ?_, h.bel.setCell (p := ⟨b, i, none⟩) (by exact Nat.le_of_lt hb.1) _⟩
  · refine (h2.of_blocks fun g u hu hlt hc => at_other hu (fun e => ?_)).less fun b' o' hm => ?_
    · subst e
      rcases hc with hc | hc
      · exact hn hc
      · exact hc (Obj.cells cs t) (by simp)
    · rcases List.mem_append.1 hm with hm | hm
      · exact ⟨o', List.mem_append_left _ hm⟩
      · rcases List.mem_cons.1 hm with e | hm
        · cases e; exact ⟨Obj.cells cs t, by simp⟩
        · exact ⟨o', by simp [hm]⟩
  · rcases List.mem_append.1 hm with hm | hm
    · exact h3 b' o' (List.mem_append_left _ hm)
    · rcases List.mem_cons.1 hm with e | hm
      · cases e; exact hn
      · exact h3 b' o' (by simp [hm])
  · rcases List.mem_append.1 hm with hm | hm
    · have := h.keep b' o' (List.mem_append_left _ hm)
      exact ⟨this.1, at_other this.2 (hnd b' o' (.inl hm))⟩
    · rcases List.mem_cons.1 hm with e | hm
      · cases e; exact ⟨hb.1, at_same hb.2⟩
      · have := h.keep b' o' (by simp [hm])
        exact ⟨this.1, at_other this.2 (hnd b' o' (.inr hm))⟩
  · have nd := h.nd
    simpa using nd
theorem PS.turn {cs : Array Value} {t : TypeId} (h : PS x ((b, .cells cs t) :: L) s w) (i : Nat) (v : Value) : PS x ((b, .cells (cs.setIfInBounds i v) t) :: L) s (w.setCell ⟨b, i, none⟩ v) := PS.turns (A := []) h i v
theorem PS.turn2 {cs : Array Value} {t : TypeId} (h : PS x (p :: (b, .cells cs t) :: L) s w) (i : Nat) (v : Value) : PS x (p :: (b, .cells (cs.setIfInBounds i v) t) :: L) s (w.setCell ⟨b, i, none⟩ v) := PS.turns (A := [p]) h i v
theorem PS.head {cs : Array Value} (h : PS x ((b, .cells cs 33) :: L) s w) : w.heap[b]? = some (.cells cs 33) := (h.keep b _ (by simp)).2
theorem PS.second {cs : Array Value} (h : PS x (p :: (b, .cells cs 33) :: L) s w) : w.heap[b]? = some (.cells cs 33) := (h.keep b _ (by simp)).2
/-- A row of numbers that is held, ready to be a node's kids: it is held no more. -/
theorem PS.krow {cur : Array Value} {cap : Nat} {l : List Nat} (h : PS x ((b, .cells cur 3) :: L) s w) (hc : l.length ≤ cap) (hm : cap ≤ maxLen) (hs : cur.size = cap) (ht : cur.toList.take l.length = ints l) : KRow x L w (.slice (some ⟨b, 0, none⟩) l.length cap) l := by
  have hb := h.keep b _ (by simp : (b, Obj.cells cur 3) ∈ (b, .cells cur 3) :: L)
  refine ⟨⟨by simp [ints], .inr ⟨b, cap, cur, rfl, hb.1, hb.2, hc, hm, by omega, by simpa using ht⟩⟩, fun b' o' hm e => ?_⟩
  cases e
  exact (List.nodup_cons.1 h.nd).1 (List.mem_map.2 ⟨_, hm, rfl⟩)
/-- A row of numbers that is held has grown. -/
theorem PS.regrow {w2 : World} {cur cur' : Array Value} {g' : Nat} (h : PS x ((b, .cells cur 3) :: L) s w) (hg : w.grownBy w2 (some b)) (hat : some g' = some b ∨ some g' = some w.heap.size) (hh : w2.heap[g']? = some (.cells cur' 3)) : PS x ((g', .cells cur' 3) :: L) s w2 := by
  have hb := h.keep b _ (by simp : (b, Obj.cells cur 3) ∈ (b, .cells cur 3) :: L)
  have lift : ∀ (k : Nat) (o : Obj), w.heap[k]? = some o → k ≠ b → w2.heap[k]? = some o := fun k o hk hne => (hg.block k (Array.getElem?_eq_some_iff.1 hk).1 (fun e => hne (by cases e; rfl))).trans hk
  have hsz : b < w.heap.size := (Array.getElem?_eq_some_iff.1 hb.2).1
  have hgb : x.B < g' := by
    rcases hat with e | e
    · cases e; exact hb.1
    · cases e; exact h.size
  have new : ∀ (k : Nat) (o : Obj), w.heap[k]? = some o → k ≠ b → g' ≠ k := by
    intro k o hk hne e
    subst e
    rcases hat with e | e
    · cases e; exact hne rfl
    · cases e; exact Nat.lt_irrefl _ (Array.getElem?_eq_some_iff.1 hk).1
  obtain ⟨nv, h1, h2, h3⟩ := h.blk
  have hn := h3 b _ (by simp : (b, Obj.cells cur 3) ∈ (b, .cells cur 3) :: L)
  obtain ⟨M, hM, hr, hm⟩ := h2.rows
  have hLne : ∀ b' o', (b', o') ∈ L → b' ≠ b := by
    intro b' o' hin e
    exact (List.nodup_cons.1 h.nd).1 (List.mem_map.2 ⟨_, hin, e⟩)
  refine ⟨h.le, ⟨nv, lift _ _ h1 (by omega), ⟨M, hM, ⟨hr.1, ?_⟩, fun m hmm => ?_⟩, fun b' o' hm' => ?_⟩, fun b' o' hm' => ?_, ?_, ?_⟩
  · rcases hr.2 with e | ⟨g, cap, c, hv, hg2, hh2, r⟩
    · exact .inl e
    · exact .inr ⟨g, cap, c, hv, hg2, lift _ _ hh2 (fun e => hn (by rw [hv]; exact congrArg some e)), r⟩
  · have ha := (hm m hmm).apart b _ (by simp : (b, Obj.cells cur 3) ∈ (b, .cells cur 3) :: L)
    have kr := (hm m hmm).row
    refine ⟨⟨kr.1, ?_⟩, fun b' o' hb' => ?_⟩
    · rcases kr.2 with e | ⟨g, cap, c, hv, hg2, hh2, r⟩
      · exact .inl e
      · exact .inr ⟨g, cap, c, hv, hg2, lift _ _ hh2 (fun e => ha (by rw [hv]; exact congrArg some e)), r⟩
    · rcases List.mem_cons.1 hb' with e | hb'
      · cases e
        rcases kr.2 with ⟨e, _⟩ | ⟨g, cap, c, hv, hg2, hh2, r⟩
        · rw [e]; intro e; cases e
        · rw [hv]
          intro e
          cases e
          exact new _ _ hh2 (fun e => ha (by rw [hv]; exact congrArg some e)) rfl
      · exact (hm m hmm).apart b' o' (List.mem_cons_of_mem _ hb')
  · rcases List.mem_cons.1 hm' with e | hm'
    · cases e
      rcases hr.2 with ⟨e, _⟩ | ⟨g, cap, c, hv, hg2, hh2, r⟩
      · rw [e]; intro e; cases e
      · rw [hv]
        intro e
        cases e
        exact new _ _ hh2 (fun e => hn (by rw [hv]; exact congrArg some e)) rfl
    · exact h3 b' o' (List.mem_cons_of_mem _ hm')
  · rcases List.mem_cons.1 hm' with e | hm'
    · cases e; exact ⟨hgb, hh⟩
    · have := h.keep b' o' (List.mem_cons_of_mem _ hm')
      exact ⟨this.1, lift _ _ this.2 (hLne b' o' hm')⟩
  · refine List.nodup_cons.2 ⟨fun hm' => ?_, (List.nodup_cons.1 h.nd).2⟩
    obtain ⟨⟨b', o'⟩, hin, e⟩ := List.mem_map.1 hm'
    have := h.keep b' o' (List.mem_cons_of_mem _ hin)
    exact new _ _ this.2 (hLne b' o' hin) e.symm
  · exact h.bel.grown hg (by have := h.size; omega) (fun k hk => by cases hk; exact Nat.le_of_lt hb.1)
end
/-- What the rules that call one another must do. -/
structure Good (x : Cx) (R : Rec) : Prop where
  primary : ∀ {L s w r s'}, PS x L s w → R .primary s = some (r, s') → Calls Tryz.prog 169 #[.pointer (some ⟨x.B, 0, none⟩)] w fun e w' => e = .returned (.int .i64 (r : Nat)) ∧ PS x L s' w'
  unary : ∀ {L s w r s'}, PS x L s w → R .unary s = some (r, s') → Calls Tryz.prog 154 #[.pointer (some ⟨x.B, 0, none⟩)] w fun e w' => e = .returned (.int .i64 (r : Nat)) ∧ PS x L s' w'
  level : ∀ {n L s w r s'}, 1 ≤ n → n ≤ 7 → PS x L s w → R (.level n) s = some (r, s') → Calls Tryz.prog 125 #[.pointer (some ⟨x.B, 0, none⟩), .int .i64 (n : Nat)] w fun e w' => e = .returned (.int .i64 (r : Nat)) ∧ PS x L s' w'
  last : ∀ {L s w r s'}, PS x L s w → R .last s = some (r, s') → Calls Tryz.prog 170 #[.pointer (some ⟨x.B, 0, none⟩)] w fun e w' => e = .returned (.int .i64 (r : Nat)) ∧ PS x L s' w'
  both : ∀ {L s w r s'}, PS x L s w → R .both s = some (r, s') → Calls Tryz.prog 157 #[.pointer (some ⟨x.B, 0, none⟩)] w fun e w' => e = .returned (.int .i64 (r : Nat)) ∧ PS x L s' w'
  cond : ∀ {L s w r s'}, PS x L s w → R .cond s = some (r, s') → Calls Tryz.prog 126 #[.pointer (some ⟨x.B, 0, none⟩)] w fun e w' => e = .returned (.int .i64 (r : Nat)) ∧ PS x L s' w'
  block : ∀ {L s w r s'}, PS x L s w → R .block s = some (r, s') → Calls Tryz.prog 153 #[.pointer (some ⟨x.B, 0, none⟩)] w fun e w' => e = .returned (.int .i64 (r : Nat)) ∧ PS x L s' w'
  named : ∀ {L s w r s'}, PS x L s w → R .named s = some (r, s') → Calls Tryz.prog 123 #[.pointer (some ⟨x.B, 0, none⟩)] w fun e w' => e = .returned (.int .i64 (r : Nat)) ∧ PS x L s' w'
  branch : ∀ {L s w r s'}, PS x L s w → R .branch s = some (r, s') → Calls Tryz.prog 124 #[.pointer (some ⟨x.B, 0, none⟩)] w fun e w' => e = .returned (.int .i64 (r : Nat)) ∧ PS x L s' w'
  statement : ∀ {L s w r s'}, PS x L s w → R .statement s = some (r, s') → Calls Tryz.prog 86 #[.pointer (some ⟨x.B, 0, none⟩)] w fun e w' => e = .returned (.int .i64 (r : Nat)) ∧ PS x L s' w'
  function : ∀ {L s w r s'}, PS x L s w → R .function s = some (r, s') → Calls Tryz.prog 52 #[.pointer (some ⟨x.B, 0, none⟩)] w fun e w' => e = .returned (.int .i64 (r : Nat)) ∧ PS x L s' w'
end
section
theorem row_drewN {w : World} {base : Nat} {e : TypeId} {size : Nat} {v : Value} {n k : Nat} {xs : List Value} (h : w.ownsRow base e size v n xs) : (w.drewN k).ownsRow base e size v n xs := h
theorem krow_drewN {x : Cx} {L : List (Nat × Obj)} {w : World} {kv : Value} {l : List Nat} {k : Nat} (h : KRow x L w kv l) : KRow x L (w.drewN k) kv l := h.of_block fun _ _ _ hb _ => hb
section
variable {x : Cx} {L : List (Nat × Obj)} {s : S} {w : World} {R : Rec} {r : Nat} {s' : S}
theorem node_lt {ts : List Tok} {X : ByteArray} {n : Nd} (h : isP ts s X = true) (hn : nodeP s n = some (r, s')) : s'.p < ts.length := by
  have := isP_lt h
  unfold nodeP at hn
  split at hn
  · cases hn; exact this
  · split at hn
    · cases hn; exact this
    · cases hn
theorem beq_zero {a : Int} (h : a = 0) : (a == 0) = true := by simpa using h
theorem beq_some {a : Int} (h : ¬ a = 0) : (a == 0) = false := by simpa using h
theorem sign_lt {ts : List Tok} (h : signP ts s ≠ ⟨#[]⟩) : s.p < ts.length := by
  unfold signP at h
  split at h
  · rename_i hk; exact kindP_lt hk
  · exact absurd rfl h
theorem cmp_zero {ts : List Tok} (h : cmpP (signP ts s) = 0) : (cmpP (signP ts s) == 0) = true := beq_zero h
theorem cmp_some {ts : List Tok} (h : ¬ cmpP (signP ts s) = 0) : (cmpP (signP ts s) == 0) = false := beq_some h
theorem cmp_lt {ts : List Tok} (h : ¬ cmpP (signP ts s) = 0) : s.p < ts.length := sign_lt (fun e => h (by rw [e]; rfl))
theorem op_lt {ts : List Tok} {n : Nat} (h : ¬ opP (signP ts s) n = 0) : s.p < ts.length := sign_lt (fun e => h (by rw [e]; simp [opP]))
theorem new_at (h : PS x L s w) (l : List Nat) (g : Nat) (hg : g = w.heap.size) (hl : l.length ≤ 100) : KRow x L (w.alloc (.cells (ints l).toArray 3)) (.slice (some ⟨g, 0, none⟩) l.length l.length) l := by
  subst hg
  exact new_row h l hl
set_option maxHeartbeats 2000000 in
set_option maxRecDepth 100000 in
theorem primary_walk (ok : x.Ok) (G : Good x R) (h : PS x L s w) (hr : primaryF x.ts x.fin R s = some (r, s')) : Calls Tryz.prog 169 #[.pointer (some ⟨x.B, 0, none⟩)] w fun e w' => e = .returned (.int .i64 (r : Nat)) ∧ PS x L s' w' := by
  unfold primaryF at hr
  split at hr
  · go_enter Tryz.func169, Tryz.ntmps169
    go_wp2_with (first | (go_at_call 47; refine (at_any ok (by first | exact h | exact h.drewN _ | exact h.alloc _ | exact (h.drewN _).alloc _ | exact (h.alloc _).drewN _ | exact h.less | exact (h.less).drewN _ | exact (h.less).alloc _ | exact ((h.less).drewN _).alloc _ | exact ((h.less).alloc _).drewN _ | exact h.up (by first | assumption | exact isP_lt (by assumption) | exact kindP_lt (by assumption)))).mono ?_; rintro e w' ⟨rfl, h⟩; have c0 := h.c0; have c1 := h.c1; have f1 := h.fz 1; have c4 := h.c4; have f4 := h.fz 4; have c5 := h.c5) | (go_at_call 82; refine (kind_yes ok _ (by first | exact h | exact h.drewN _ | exact h.alloc _ | exact (h.drewN _).alloc _ | exact (h.alloc _).drewN _ | exact h.less | exact (h.less).drewN _ | exact (h.less).alloc _ | exact ((h.less).drewN _).alloc _ | exact ((h.less).alloc _).drewN _ | exact h.up (by first | assumption | exact isP_lt (by assumption) | exact kindP_lt (by assumption))) (by assumption)).mono ?_; rintro e w' ⟨rfl, h⟩; have c0 := h.c0; have c1 := h.c1; have f1 := h.fz 1; have c4 := h.c4; have f4 := h.fz 4; have c5 := h.c5) | (go_at_call 82; refine (kind_no ok _ (by first | exact h | exact h.drewN _ | exact h.alloc _ | exact (h.drewN _).alloc _ | exact (h.alloc _).drewN _ | exact h.less | exact (h.less).drewN _ | exact (h.less).alloc _ | exact ((h.less).drewN _).alloc _ | exact ((h.less).alloc _).drewN _ | exact h.up (by first | assumption | exact isP_lt (by assumption) | exact kindP_lt (by assumption))) (by first | assumption | exact eq_false_of_ne_true (by assumption))).mono ?_; rintro e w' ⟨rfl, h⟩; have c0 := h.c0; have c1 := h.c1; have f1 := h.fz 1; have c4 := h.c4; have f4 := h.fz 4; have c5 := h.c5) | (go_at_call 50; refine (number_any ok (by first | exact h | exact h.drewN _ | exact h.alloc _ | exact (h.drewN _).alloc _ | exact (h.alloc _).drewN _ | exact h.less | exact (h.less).drewN _ | exact (h.less).alloc _ | exact ((h.less).drewN _).alloc _ | exact ((h.less).alloc _).drewN _ | exact h.up (by first | assumption | exact isP_lt (by assumption) | exact kindP_lt (by assumption)))).mono ?_; rintro e w' ⟨rfl, h⟩; have c0 := h.c0; have c1 := h.c1; have f1 := h.fz 1; have c4 := h.c4; have f4 := h.fz 4; have c5 := h.c5) | (go_at_call 51; refine (node_any ok (by first | exact h | exact h.drewN _ | exact h.alloc _ | exact (h.drewN _).alloc _ | exact (h.alloc _).drewN _ | exact h.less | exact (h.less).drewN _ | exact (h.less).alloc _ | exact ((h.less).drewN _).alloc _ | exact ((h.less).alloc _).drewN _ | exact h.up (by first | assumption | exact isP_lt (by assumption) | exact kindP_lt (by assumption))) (by assumption) (by first | exact nil_row _ _ _ | exact new_row h [_] (by simp) | exact new_row h [_, _] (by simp) | exact new_row h [_, _, _] (by simp) | exact krow_drewN (new_row h [_] (by simp)) | exact new_at (h.drewN _) [_] _ (by simp) (by simp) | exact new_at h.less [_] _ (by simp) (by simp) | exact new_at ((h.less).drewN _) [_] _ (by simp) (by simp) | exact krow_drewN (new_row h [_, _] (by simp)) | exact new_at (h.drewN _) [_, _] _ (by simp) (by simp) | exact new_at h.less [_, _] _ (by simp) (by simp) | exact new_at ((h.less).drewN _) [_, _] _ (by simp) (by simp) | exact krow_drewN (new_row h [_, _, _] (by simp)) | exact new_at (h.drewN _) [_, _, _] _ (by simp) (by simp) | exact new_at h.less [_, _, _] _ (by simp) (by simp) | exact new_at ((h.less).drewN _) [_, _, _] _ (by simp) (by simp))).mono ?_; rintro e w' ⟨rfl, h⟩; have c0 := h.c0; have c1 := h.c1; have f1 := h.fz 1; have c4 := h.c4; have f4 := h.fz 4; have c5 := h.c5) | (go_at_call 46; refine (take_yes ok _ (by first | exact h | exact h.drewN _ | exact h.alloc _ | exact (h.drewN _).alloc _ | exact (h.alloc _).drewN _ | exact h.less | exact (h.less).drewN _ | exact (h.less).alloc _ | exact ((h.less).drewN _).alloc _ | exact ((h.less).alloc _).drewN _ | exact h.up (by first | assumption | exact isP_lt (by assumption) | exact kindP_lt (by assumption))) (by assumption)).mono ?_; rintro e w' ⟨rfl, h⟩; have c0 := h.c0; have c1 := h.c1; have f1 := h.fz 1; have c4 := h.c4; have f4 := h.fz 4; have c5 := h.c5) | (go_at_call 46; refine (take_no ok _ (by first | exact h | exact h.drewN _ | exact h.alloc _ | exact (h.drewN _).alloc _ | exact (h.alloc _).drewN _ | exact h.less | exact (h.less).drewN _ | exact (h.less).alloc _ | exact ((h.less).drewN _).alloc _ | exact ((h.less).alloc _).drewN _ | exact h.up (by first | assumption | exact isP_lt (by assumption) | exact kindP_lt (by assumption))) (by first | assumption | exact eq_false_of_ne_true (by assumption))).mono ?_; rintro e w' ⟨rfl, h⟩; have c0 := h.c0; have c1 := h.c1; have f1 := h.fz 1; have c4 := h.c4; have f4 := h.fz 4; have c5 := h.c5) | (go_at_call 84; refine (down_yes ok (by first | exact h | exact h.drewN _ | exact h.alloc _ | exact (h.drewN _).alloc _ | exact (h.alloc _).drewN _ | exact h.less | exact (h.less).drewN _ | exact (h.less).alloc _ | exact ((h.less).drewN _).alloc _ | exact ((h.less).alloc _).drewN _ | exact h.up (by first | assumption | exact isP_lt (by assumption) | exact kindP_lt (by assumption))) (by assumption)).mono ?_; rintro e w' ⟨rfl, h⟩; have c0 := h.c0; have c1 := h.c1; have f1 := h.fz 1; have c4 := h.c4; have f4 := h.fz 4; have c5 := h.c5) | (go_at_call 84; refine (down_no ok (by first | exact h | exact h.drewN _ | exact h.alloc _ | exact (h.drewN _).alloc _ | exact (h.alloc _).drewN _ | exact h.less | exact (h.less).drewN _ | exact (h.less).alloc _ | exact ((h.less).drewN _).alloc _ | exact ((h.less).alloc _).drewN _ | exact h.up (by first | assumption | exact isP_lt (by assumption) | exact kindP_lt (by assumption))) (by assumption)).mono ?_; rintro e w' ⟨rfl, h⟩; have c0 := h.c0; have c1 := h.c1; have f1 := h.fz 1; have c4 := h.c4; have f4 := h.fz 4; have c5 := h.c5) | (go_at_call 125; refine (G.level (n := 1) (by omega) (by omega) (by first | exact h | exact h.drewN _ | exact h.alloc _ | exact (h.drewN _).alloc _ | exact (h.alloc _).drewN _ | exact h.less | exact (h.less).drewN _ | exact (h.less).alloc _ | exact ((h.less).drewN _).alloc _ | exact ((h.less).alloc _).drewN _ | exact h.up (by first | assumption | exact isP_lt (by assumption) | exact kindP_lt (by assumption))) (by assumption)).mono ?_; rintro e w' ⟨rfl, h⟩; have c0 := h.c0; have c1 := h.c1; have f1 := h.fz 1; have c4 := h.c4; have f4 := h.fz 4; have c5 := h.c5) | (go_at_call 49; refine (must_any ok _ (by first | exact h | exact h.drewN _ | exact h.alloc _ | exact (h.drewN _).alloc _ | exact (h.alloc _).drewN _ | exact h.less | exact (h.less).drewN _ | exact (h.less).alloc _ | exact ((h.less).drewN _).alloc _ | exact ((h.less).alloc _).drewN _ | exact h.up (by first | assumption | exact isP_lt (by assumption) | exact kindP_lt (by assumption)))).mono ?_; rintro e w' ⟨rfl, h⟩; have c0 := h.c0; have c1 := h.c1; have f1 := h.fz 1; have c4 := h.c4; have f4 := h.fz 4; have c5 := h.c5) | (go_at_call 48; refine (name_any ok (by first | exact h | exact h.drewN _ | exact h.alloc _ | exact (h.drewN _).alloc _ | exact (h.alloc _).drewN _ | exact h.less | exact (h.less).drewN _ | exact (h.less).alloc _ | exact ((h.less).drewN _).alloc _ | exact ((h.less).alloc _).drewN _ | exact h.up (by first | assumption | exact isP_lt (by assumption) | exact kindP_lt (by assumption)))).mono ?_; rintro e w' ⟨rfl, h⟩; have c0 := h.c0; have c1 := h.c1; have f1 := h.fz 1; have c4 := h.c4; have f4 := h.fz 4; have c5 := h.c5))
    go_ret
    exact ⟨rfl, h⟩
  · split at hr
    · split at hr
      · split at hr
        · cases hr
        · cases hr
          go_enter Tryz.func169, Tryz.ntmps169
          go_wp2_with (first | (go_at_call 47; refine (at_any ok (by first | exact h | exact h.drewN _ | exact h.alloc _ | exact (h.drewN _).alloc _ | exact (h.alloc _).drewN _ | exact h.less | exact (h.less).drewN _ | exact (h.less).alloc _ | exact ((h.less).drewN _).alloc _ | exact ((h.less).alloc _).drewN _ | exact h.up (by first | assumption | exact isP_lt (by assumption) | exact kindP_lt (by assumption)))).mono ?_; rintro e w' ⟨rfl, h⟩; have c0 := h.c0; have c1 := h.c1; have f1 := h.fz 1; have c4 := h.c4; have f4 := h.fz 4; have c5 := h.c5) | (go_at_call 82; refine (kind_yes ok _ (by first | exact h | exact h.drewN _ | exact h.alloc _ | exact (h.drewN _).alloc _ | exact (h.alloc _).drewN _ | exact h.less | exact (h.less).drewN _ | exact (h.less).alloc _ | exact ((h.less).drewN _).alloc _ | exact ((h.less).alloc _).drewN _ | exact h.up (by first | assumption | exact isP_lt (by assumption) | exact kindP_lt (by assumption))) (by assumption)).mono ?_; rintro e w' ⟨rfl, h⟩; have c0 := h.c0; have c1 := h.c1; have f1 := h.fz 1; have c4 := h.c4; have f4 := h.fz 4; have c5 := h.c5) | (go_at_call 82; refine (kind_no ok _ (by first | exact h | exact h.drewN _ | exact h.alloc _ | exact (h.drewN _).alloc _ | exact (h.alloc _).drewN _ | exact h.less | exact (h.less).drewN _ | exact (h.less).alloc _ | exact ((h.less).drewN _).alloc _ | exact ((h.less).alloc _).drewN _ | exact h.up (by first | assumption | exact isP_lt (by assumption) | exact kindP_lt (by assumption))) (by first | assumption | exact eq_false_of_ne_true (by assumption))).mono ?_; rintro e w' ⟨rfl, h⟩; have c0 := h.c0; have c1 := h.c1; have f1 := h.fz 1; have c4 := h.c4; have f4 := h.fz 4; have c5 := h.c5) | (go_at_call 50; refine (number_any ok (by first | exact h | exact h.drewN _ | exact h.alloc _ | exact (h.drewN _).alloc _ | exact (h.alloc _).drewN _ | exact h.less | exact (h.less).drewN _ | exact (h.less).alloc _ | exact ((h.less).drewN _).alloc _ | exact ((h.less).alloc _).drewN _ | exact h.up (by first | assumption | exact isP_lt (by assumption) | exact kindP_lt (by assumption)))).mono ?_; rintro e w' ⟨rfl, h⟩; have c0 := h.c0; have c1 := h.c1; have f1 := h.fz 1; have c4 := h.c4; have f4 := h.fz 4; have c5 := h.c5) | (go_at_call 51; refine (node_any ok (by first | exact h | exact h.drewN _ | exact h.alloc _ | exact (h.drewN _).alloc _ | exact (h.alloc _).drewN _ | exact h.less | exact (h.less).drewN _ | exact (h.less).alloc _ | exact ((h.less).drewN _).alloc _ | exact ((h.less).alloc _).drewN _ | exact h.up (by first | assumption | exact isP_lt (by assumption) | exact kindP_lt (by assumption))) (by assumption) (by first | exact nil_row _ _ _ | exact new_row h [_] (by simp) | exact new_row h [_, _] (by simp) | exact new_row h [_, _, _] (by simp) | exact krow_drewN (new_row h [_] (by simp)) | exact new_at (h.drewN _) [_] _ (by simp) (by simp) | exact new_at h.less [_] _ (by simp) (by simp) | exact new_at ((h.less).drewN _) [_] _ (by simp) (by simp) | exact krow_drewN (new_row h [_, _] (by simp)) | exact new_at (h.drewN _) [_, _] _ (by simp) (by simp) | exact new_at h.less [_, _] _ (by simp) (by simp) | exact new_at ((h.less).drewN _) [_, _] _ (by simp) (by simp) | exact krow_drewN (new_row h [_, _, _] (by simp)) | exact new_at (h.drewN _) [_, _, _] _ (by simp) (by simp) | exact new_at h.less [_, _, _] _ (by simp) (by simp) | exact new_at ((h.less).drewN _) [_, _, _] _ (by simp) (by simp))).mono ?_; rintro e w' ⟨rfl, h⟩; have c0 := h.c0; have c1 := h.c1; have f1 := h.fz 1; have c4 := h.c4; have f4 := h.fz 4; have c5 := h.c5) | (go_at_call 46; refine (take_yes ok _ (by first | exact h | exact h.drewN _ | exact h.alloc _ | exact (h.drewN _).alloc _ | exact (h.alloc _).drewN _ | exact h.less | exact (h.less).drewN _ | exact (h.less).alloc _ | exact ((h.less).drewN _).alloc _ | exact ((h.less).alloc _).drewN _ | exact h.up (by first | assumption | exact isP_lt (by assumption) | exact kindP_lt (by assumption))) (by assumption)).mono ?_; rintro e w' ⟨rfl, h⟩; have c0 := h.c0; have c1 := h.c1; have f1 := h.fz 1; have c4 := h.c4; have f4 := h.fz 4; have c5 := h.c5) | (go_at_call 46; refine (take_no ok _ (by first | exact h | exact h.drewN _ | exact h.alloc _ | exact (h.drewN _).alloc _ | exact (h.alloc _).drewN _ | exact h.less | exact (h.less).drewN _ | exact (h.less).alloc _ | exact ((h.less).drewN _).alloc _ | exact ((h.less).alloc _).drewN _ | exact h.up (by first | assumption | exact isP_lt (by assumption) | exact kindP_lt (by assumption))) (by first | assumption | exact eq_false_of_ne_true (by assumption))).mono ?_; rintro e w' ⟨rfl, h⟩; have c0 := h.c0; have c1 := h.c1; have f1 := h.fz 1; have c4 := h.c4; have f4 := h.fz 4; have c5 := h.c5) | (go_at_call 84; refine (down_yes ok (by first | exact h | exact h.drewN _ | exact h.alloc _ | exact (h.drewN _).alloc _ | exact (h.alloc _).drewN _ | exact h.less | exact (h.less).drewN _ | exact (h.less).alloc _ | exact ((h.less).drewN _).alloc _ | exact ((h.less).alloc _).drewN _ | exact h.up (by first | assumption | exact isP_lt (by assumption) | exact kindP_lt (by assumption))) (by assumption)).mono ?_; rintro e w' ⟨rfl, h⟩; have c0 := h.c0; have c1 := h.c1; have f1 := h.fz 1; have c4 := h.c4; have f4 := h.fz 4; have c5 := h.c5) | (go_at_call 84; refine (down_no ok (by first | exact h | exact h.drewN _ | exact h.alloc _ | exact (h.drewN _).alloc _ | exact (h.alloc _).drewN _ | exact h.less | exact (h.less).drewN _ | exact (h.less).alloc _ | exact ((h.less).drewN _).alloc _ | exact ((h.less).alloc _).drewN _ | exact h.up (by first | assumption | exact isP_lt (by assumption) | exact kindP_lt (by assumption))) (by assumption)).mono ?_; rintro e w' ⟨rfl, h⟩; have c0 := h.c0; have c1 := h.c1; have f1 := h.fz 1; have c4 := h.c4; have f4 := h.fz 4; have c5 := h.c5) | (go_at_call 125; refine (G.level (n := 1) (by omega) (by omega) (by first | exact h | exact h.drewN _ | exact h.alloc _ | exact (h.drewN _).alloc _ | exact (h.alloc _).drewN _ | exact h.less | exact (h.less).drewN _ | exact (h.less).alloc _ | exact ((h.less).drewN _).alloc _ | exact ((h.less).alloc _).drewN _ | exact h.up (by first | assumption | exact isP_lt (by assumption) | exact kindP_lt (by assumption))) (by assumption)).mono ?_; rintro e w' ⟨rfl, h⟩; have c0 := h.c0; have c1 := h.c1; have f1 := h.fz 1; have c4 := h.c4; have f4 := h.fz 4; have c5 := h.c5) | (go_at_call 49; refine (must_any ok _ (by first | exact h | exact h.drewN _ | exact h.alloc _ | exact (h.drewN _).alloc _ | exact (h.alloc _).drewN _ | exact h.less | exact (h.less).drewN _ | exact (h.less).alloc _ | exact ((h.less).drewN _).alloc _ | exact ((h.less).alloc _).drewN _ | exact h.up (by first | assumption | exact isP_lt (by assumption) | exact kindP_lt (by assumption)))).mono ?_; rintro e w' ⟨rfl, h⟩; have c0 := h.c0; have c1 := h.c1; have f1 := h.fz 1; have c4 := h.c4; have f4 := h.fz 4; have c5 := h.c5) | (go_at_call 48; refine (name_any ok (by first | exact h | exact h.drewN _ | exact h.alloc _ | exact (h.drewN _).alloc _ | exact (h.alloc _).drewN _ | exact h.less | exact (h.less).drewN _ | exact (h.less).alloc _ | exact ((h.less).drewN _).alloc _ | exact ((h.less).alloc _).drewN _ | exact h.up (by first | assumption | exact isP_lt (by assumption) | exact kindP_lt (by assumption)))).mono ?_; rintro e w' ⟨rfl, h⟩; have c0 := h.c0; have c1 := h.c1; have f1 := h.fz 1; have c4 := h.c4; have f4 := h.fz 4; have c5 := h.c5))
          go_ret
          exact ⟨rfl, h⟩
      · cases hr
        go_enter Tryz.func169, Tryz.ntmps169
        go_wp2_with (first | (go_at_call 47; refine (at_any ok (by first | exact h | exact h.drewN _ | exact h.alloc _ | exact (h.drewN _).alloc _ | exact (h.alloc _).drewN _ | exact h.less | exact (h.less).drewN _ | exact (h.less).alloc _ | exact ((h.less).drewN _).alloc _ | exact ((h.less).alloc _).drewN _ | exact h.up (by first | assumption | exact isP_lt (by assumption) | exact kindP_lt (by assumption)))).mono ?_; rintro e w' ⟨rfl, h⟩; have c0 := h.c0; have c1 := h.c1; have f1 := h.fz 1; have c4 := h.c4; have f4 := h.fz 4; have c5 := h.c5) | (go_at_call 82; refine (kind_yes ok _ (by first | exact h | exact h.drewN _ | exact h.alloc _ | exact (h.drewN _).alloc _ | exact (h.alloc _).drewN _ | exact h.less | exact (h.less).drewN _ | exact (h.less).alloc _ | exact ((h.less).drewN _).alloc _ | exact ((h.less).alloc _).drewN _ | exact h.up (by first | assumption | exact isP_lt (by assumption) | exact kindP_lt (by assumption))) (by assumption)).mono ?_; rintro e w' ⟨rfl, h⟩; have c0 := h.c0; have c1 := h.c1; have f1 := h.fz 1; have c4 := h.c4; have f4 := h.fz 4; have c5 := h.c5) | (go_at_call 82; refine (kind_no ok _ (by first | exact h | exact h.drewN _ | exact h.alloc _ | exact (h.drewN _).alloc _ | exact (h.alloc _).drewN _ | exact h.less | exact (h.less).drewN _ | exact (h.less).alloc _ | exact ((h.less).drewN _).alloc _ | exact ((h.less).alloc _).drewN _ | exact h.up (by first | assumption | exact isP_lt (by assumption) | exact kindP_lt (by assumption))) (by first | assumption | exact eq_false_of_ne_true (by assumption))).mono ?_; rintro e w' ⟨rfl, h⟩; have c0 := h.c0; have c1 := h.c1; have f1 := h.fz 1; have c4 := h.c4; have f4 := h.fz 4; have c5 := h.c5) | (go_at_call 50; refine (number_any ok (by first | exact h | exact h.drewN _ | exact h.alloc _ | exact (h.drewN _).alloc _ | exact (h.alloc _).drewN _ | exact h.less | exact (h.less).drewN _ | exact (h.less).alloc _ | exact ((h.less).drewN _).alloc _ | exact ((h.less).alloc _).drewN _ | exact h.up (by first | assumption | exact isP_lt (by assumption) | exact kindP_lt (by assumption)))).mono ?_; rintro e w' ⟨rfl, h⟩; have c0 := h.c0; have c1 := h.c1; have f1 := h.fz 1; have c4 := h.c4; have f4 := h.fz 4; have c5 := h.c5) | (go_at_call 51; refine (node_any ok (by first | exact h | exact h.drewN _ | exact h.alloc _ | exact (h.drewN _).alloc _ | exact (h.alloc _).drewN _ | exact h.less | exact (h.less).drewN _ | exact (h.less).alloc _ | exact ((h.less).drewN _).alloc _ | exact ((h.less).alloc _).drewN _ | exact h.up (by first | assumption | exact isP_lt (by assumption) | exact kindP_lt (by assumption))) (by assumption) (by first | exact nil_row _ _ _ | exact new_row h [_] (by simp) | exact new_row h [_, _] (by simp) | exact new_row h [_, _, _] (by simp) | exact krow_drewN (new_row h [_] (by simp)) | exact new_at (h.drewN _) [_] _ (by simp) (by simp) | exact new_at h.less [_] _ (by simp) (by simp) | exact new_at ((h.less).drewN _) [_] _ (by simp) (by simp) | exact krow_drewN (new_row h [_, _] (by simp)) | exact new_at (h.drewN _) [_, _] _ (by simp) (by simp) | exact new_at h.less [_, _] _ (by simp) (by simp) | exact new_at ((h.less).drewN _) [_, _] _ (by simp) (by simp) | exact krow_drewN (new_row h [_, _, _] (by simp)) | exact new_at (h.drewN _) [_, _, _] _ (by simp) (by simp) | exact new_at h.less [_, _, _] _ (by simp) (by simp) | exact new_at ((h.less).drewN _) [_, _, _] _ (by simp) (by simp))).mono ?_; rintro e w' ⟨rfl, h⟩; have c0 := h.c0; have c1 := h.c1; have f1 := h.fz 1; have c4 := h.c4; have f4 := h.fz 4; have c5 := h.c5) | (go_at_call 46; refine (take_yes ok _ (by first | exact h | exact h.drewN _ | exact h.alloc _ | exact (h.drewN _).alloc _ | exact (h.alloc _).drewN _ | exact h.less | exact (h.less).drewN _ | exact (h.less).alloc _ | exact ((h.less).drewN _).alloc _ | exact ((h.less).alloc _).drewN _ | exact h.up (by first | assumption | exact isP_lt (by assumption) | exact kindP_lt (by assumption))) (by assumption)).mono ?_; rintro e w' ⟨rfl, h⟩; have c0 := h.c0; have c1 := h.c1; have f1 := h.fz 1; have c4 := h.c4; have f4 := h.fz 4; have c5 := h.c5) | (go_at_call 46; refine (take_no ok _ (by first | exact h | exact h.drewN _ | exact h.alloc _ | exact (h.drewN _).alloc _ | exact (h.alloc _).drewN _ | exact h.less | exact (h.less).drewN _ | exact (h.less).alloc _ | exact ((h.less).drewN _).alloc _ | exact ((h.less).alloc _).drewN _ | exact h.up (by first | assumption | exact isP_lt (by assumption) | exact kindP_lt (by assumption))) (by first | assumption | exact eq_false_of_ne_true (by assumption))).mono ?_; rintro e w' ⟨rfl, h⟩; have c0 := h.c0; have c1 := h.c1; have f1 := h.fz 1; have c4 := h.c4; have f4 := h.fz 4; have c5 := h.c5) | (go_at_call 84; refine (down_yes ok (by first | exact h | exact h.drewN _ | exact h.alloc _ | exact (h.drewN _).alloc _ | exact (h.alloc _).drewN _ | exact h.less | exact (h.less).drewN _ | exact (h.less).alloc _ | exact ((h.less).drewN _).alloc _ | exact ((h.less).alloc _).drewN _ | exact h.up (by first | assumption | exact isP_lt (by assumption) | exact kindP_lt (by assumption))) (by assumption)).mono ?_; rintro e w' ⟨rfl, h⟩; have c0 := h.c0; have c1 := h.c1; have f1 := h.fz 1; have c4 := h.c4; have f4 := h.fz 4; have c5 := h.c5) | (go_at_call 84; refine (down_no ok (by first | exact h | exact h.drewN _ | exact h.alloc _ | exact (h.drewN _).alloc _ | exact (h.alloc _).drewN _ | exact h.less | exact (h.less).drewN _ | exact (h.less).alloc _ | exact ((h.less).drewN _).alloc _ | exact ((h.less).alloc _).drewN _ | exact h.up (by first | assumption | exact isP_lt (by assumption) | exact kindP_lt (by assumption))) (by assumption)).mono ?_; rintro e w' ⟨rfl, h⟩; have c0 := h.c0; have c1 := h.c1; have f1 := h.fz 1; have c4 := h.c4; have f4 := h.fz 4; have c5 := h.c5) | (go_at_call 125; refine (G.level (n := 1) (by omega) (by omega) (by first | exact h | exact h.drewN _ | exact h.alloc _ | exact (h.drewN _).alloc _ | exact (h.alloc _).drewN _ | exact h.less | exact (h.less).drewN _ | exact (h.less).alloc _ | exact ((h.less).drewN _).alloc _ | exact ((h.less).alloc _).drewN _ | exact h.up (by first | assumption | exact isP_lt (by assumption) | exact kindP_lt (by assumption))) (by assumption)).mono ?_; rintro e w' ⟨rfl, h⟩; have c0 := h.c0; have c1 := h.c1; have f1 := h.fz 1; have c4 := h.c4; have f4 := h.fz 4; have c5 := h.c5) | (go_at_call 49; refine (must_any ok _ (by first | exact h | exact h.drewN _ | exact h.alloc _ | exact (h.drewN _).alloc _ | exact (h.alloc _).drewN _ | exact h.less | exact (h.less).drewN _ | exact (h.less).alloc _ | exact ((h.less).drewN _).alloc _ | exact ((h.less).alloc _).drewN _ | exact h.up (by first | assumption | exact isP_lt (by assumption) | exact kindP_lt (by assumption)))).mono ?_; rintro e w' ⟨rfl, h⟩; have c0 := h.c0; have c1 := h.c1; have f1 := h.fz 1; have c4 := h.c4; have f4 := h.fz 4; have c5 := h.c5) | (go_at_call 48; refine (name_any ok (by first | exact h | exact h.drewN _ | exact h.alloc _ | exact (h.drewN _).alloc _ | exact (h.alloc _).drewN _ | exact h.less | exact (h.less).drewN _ | exact (h.less).alloc _ | exact ((h.less).drewN _).alloc _ | exact ((h.less).alloc _).drewN _ | exact h.up (by first | assumption | exact isP_lt (by assumption) | exact kindP_lt (by assumption)))).mono ?_; rintro e w' ⟨rfl, h⟩; have c0 := h.c0; have c1 := h.c1; have f1 := h.fz 1; have c4 := h.c4; have f4 := h.fz 4; have c5 := h.c5))
        go_ret
        exact ⟨rfl, h⟩
    · split at hr
      · go_enter Tryz.func169, Tryz.ntmps169
        go_wp2_with (first | (go_at_call 47; refine (at_any ok (by first | exact h | exact h.drewN _ | exact h.alloc _ | exact (h.drewN _).alloc _ | exact (h.alloc _).drewN _ | exact h.less | exact (h.less).drewN _ | exact (h.less).alloc _ | exact ((h.less).drewN _).alloc _ | exact ((h.less).alloc _).drewN _ | exact h.up (by first | assumption | exact isP_lt (by assumption) | exact kindP_lt (by assumption)))).mono ?_; rintro e w' ⟨rfl, h⟩; have c0 := h.c0; have c1 := h.c1; have f1 := h.fz 1; have c4 := h.c4; have f4 := h.fz 4; have c5 := h.c5) | (go_at_call 82; refine (kind_yes ok _ (by first | exact h | exact h.drewN _ | exact h.alloc _ | exact (h.drewN _).alloc _ | exact (h.alloc _).drewN _ | exact h.less | exact (h.less).drewN _ | exact (h.less).alloc _ | exact ((h.less).drewN _).alloc _ | exact ((h.less).alloc _).drewN _ | exact h.up (by first | assumption | exact isP_lt (by assumption) | exact kindP_lt (by assumption))) (by assumption)).mono ?_; rintro e w' ⟨rfl, h⟩; have c0 := h.c0; have c1 := h.c1; have f1 := h.fz 1; have c4 := h.c4; have f4 := h.fz 4; have c5 := h.c5) | (go_at_call 82; refine (kind_no ok _ (by first | exact h | exact h.drewN _ | exact h.alloc _ | exact (h.drewN _).alloc _ | exact (h.alloc _).drewN _ | exact h.less | exact (h.less).drewN _ | exact (h.less).alloc _ | exact ((h.less).drewN _).alloc _ | exact ((h.less).alloc _).drewN _ | exact h.up (by first | assumption | exact isP_lt (by assumption) | exact kindP_lt (by assumption))) (by first | assumption | exact eq_false_of_ne_true (by assumption))).mono ?_; rintro e w' ⟨rfl, h⟩; have c0 := h.c0; have c1 := h.c1; have f1 := h.fz 1; have c4 := h.c4; have f4 := h.fz 4; have c5 := h.c5) | (go_at_call 50; refine (number_any ok (by first | exact h | exact h.drewN _ | exact h.alloc _ | exact (h.drewN _).alloc _ | exact (h.alloc _).drewN _ | exact h.less | exact (h.less).drewN _ | exact (h.less).alloc _ | exact ((h.less).drewN _).alloc _ | exact ((h.less).alloc _).drewN _ | exact h.up (by first | assumption | exact isP_lt (by assumption) | exact kindP_lt (by assumption)))).mono ?_; rintro e w' ⟨rfl, h⟩; have c0 := h.c0; have c1 := h.c1; have f1 := h.fz 1; have c4 := h.c4; have f4 := h.fz 4; have c5 := h.c5) | (go_at_call 51; refine (node_any ok (by first | exact h | exact h.drewN _ | exact h.alloc _ | exact (h.drewN _).alloc _ | exact (h.alloc _).drewN _ | exact h.less | exact (h.less).drewN _ | exact (h.less).alloc _ | exact ((h.less).drewN _).alloc _ | exact ((h.less).alloc _).drewN _ | exact h.up (by first | assumption | exact isP_lt (by assumption) | exact kindP_lt (by assumption))) (by assumption) (by first | exact nil_row _ _ _ | exact new_row h [_] (by simp) | exact new_row h [_, _] (by simp) | exact new_row h [_, _, _] (by simp) | exact krow_drewN (new_row h [_] (by simp)) | exact new_at (h.drewN _) [_] _ (by simp) (by simp) | exact new_at h.less [_] _ (by simp) (by simp) | exact new_at ((h.less).drewN _) [_] _ (by simp) (by simp) | exact krow_drewN (new_row h [_, _] (by simp)) | exact new_at (h.drewN _) [_, _] _ (by simp) (by simp) | exact new_at h.less [_, _] _ (by simp) (by simp) | exact new_at ((h.less).drewN _) [_, _] _ (by simp) (by simp) | exact krow_drewN (new_row h [_, _, _] (by simp)) | exact new_at (h.drewN _) [_, _, _] _ (by simp) (by simp) | exact new_at h.less [_, _, _] _ (by simp) (by simp) | exact new_at ((h.less).drewN _) [_, _, _] _ (by simp) (by simp))).mono ?_; rintro e w' ⟨rfl, h⟩; have c0 := h.c0; have c1 := h.c1; have f1 := h.fz 1; have c4 := h.c4; have f4 := h.fz 4; have c5 := h.c5) | (go_at_call 46; refine (take_yes ok _ (by first | exact h | exact h.drewN _ | exact h.alloc _ | exact (h.drewN _).alloc _ | exact (h.alloc _).drewN _ | exact h.less | exact (h.less).drewN _ | exact (h.less).alloc _ | exact ((h.less).drewN _).alloc _ | exact ((h.less).alloc _).drewN _ | exact h.up (by first | assumption | exact isP_lt (by assumption) | exact kindP_lt (by assumption))) (by assumption)).mono ?_; rintro e w' ⟨rfl, h⟩; have c0 := h.c0; have c1 := h.c1; have f1 := h.fz 1; have c4 := h.c4; have f4 := h.fz 4; have c5 := h.c5) | (go_at_call 46; refine (take_no ok _ (by first | exact h | exact h.drewN _ | exact h.alloc _ | exact (h.drewN _).alloc _ | exact (h.alloc _).drewN _ | exact h.less | exact (h.less).drewN _ | exact (h.less).alloc _ | exact ((h.less).drewN _).alloc _ | exact ((h.less).alloc _).drewN _ | exact h.up (by first | assumption | exact isP_lt (by assumption) | exact kindP_lt (by assumption))) (by first | assumption | exact eq_false_of_ne_true (by assumption))).mono ?_; rintro e w' ⟨rfl, h⟩; have c0 := h.c0; have c1 := h.c1; have f1 := h.fz 1; have c4 := h.c4; have f4 := h.fz 4; have c5 := h.c5) | (go_at_call 84; refine (down_yes ok (by first | exact h | exact h.drewN _ | exact h.alloc _ | exact (h.drewN _).alloc _ | exact (h.alloc _).drewN _ | exact h.less | exact (h.less).drewN _ | exact (h.less).alloc _ | exact ((h.less).drewN _).alloc _ | exact ((h.less).alloc _).drewN _ | exact h.up (by first | assumption | exact isP_lt (by assumption) | exact kindP_lt (by assumption))) (by assumption)).mono ?_; rintro e w' ⟨rfl, h⟩; have c0 := h.c0; have c1 := h.c1; have f1 := h.fz 1; have c4 := h.c4; have f4 := h.fz 4; have c5 := h.c5) | (go_at_call 84; refine (down_no ok (by first | exact h | exact h.drewN _ | exact h.alloc _ | exact (h.drewN _).alloc _ | exact (h.alloc _).drewN _ | exact h.less | exact (h.less).drewN _ | exact (h.less).alloc _ | exact ((h.less).drewN _).alloc _ | exact ((h.less).alloc _).drewN _ | exact h.up (by first | assumption | exact isP_lt (by assumption) | exact kindP_lt (by assumption))) (by assumption)).mono ?_; rintro e w' ⟨rfl, h⟩; have c0 := h.c0; have c1 := h.c1; have f1 := h.fz 1; have c4 := h.c4; have f4 := h.fz 4; have c5 := h.c5) | (go_at_call 125; refine (G.level (n := 1) (by omega) (by omega) (by first | exact h | exact h.drewN _ | exact h.alloc _ | exact (h.drewN _).alloc _ | exact (h.alloc _).drewN _ | exact h.less | exact (h.less).drewN _ | exact (h.less).alloc _ | exact ((h.less).drewN _).alloc _ | exact ((h.less).alloc _).drewN _ | exact h.up (by first | assumption | exact isP_lt (by assumption) | exact kindP_lt (by assumption))) (by assumption)).mono ?_; rintro e w' ⟨rfl, h⟩; have c0 := h.c0; have c1 := h.c1; have f1 := h.fz 1; have c4 := h.c4; have f4 := h.fz 4; have c5 := h.c5) | (go_at_call 49; refine (must_any ok _ (by first | exact h | exact h.drewN _ | exact h.alloc _ | exact (h.drewN _).alloc _ | exact (h.alloc _).drewN _ | exact h.less | exact (h.less).drewN _ | exact (h.less).alloc _ | exact ((h.less).drewN _).alloc _ | exact ((h.less).alloc _).drewN _ | exact h.up (by first | assumption | exact isP_lt (by assumption) | exact kindP_lt (by assumption)))).mono ?_; rintro e w' ⟨rfl, h⟩; have c0 := h.c0; have c1 := h.c1; have f1 := h.fz 1; have c4 := h.c4; have f4 := h.fz 4; have c5 := h.c5) | (go_at_call 48; refine (name_any ok (by first | exact h | exact h.drewN _ | exact h.alloc _ | exact (h.drewN _).alloc _ | exact (h.alloc _).drewN _ | exact h.less | exact (h.less).drewN _ | exact (h.less).alloc _ | exact ((h.less).drewN _).alloc _ | exact ((h.less).alloc _).drewN _ | exact h.up (by first | assumption | exact isP_lt (by assumption) | exact kindP_lt (by assumption)))).mono ?_; rintro e w' ⟨rfl, h⟩; have c0 := h.c0; have c1 := h.c1; have f1 := h.fz 1; have c4 := h.c4; have f4 := h.fz 4; have c5 := h.c5))
        go_ret
        exact ⟨rfl, h⟩
      · split at hr
        · split at hr
          · split at hr
            · cases hr
            · go_enter Tryz.func169, Tryz.ntmps169
              go_wp2_with (first | (go_at_call 47; refine (at_any ok (by first | exact h | exact h.drewN _ | exact h.alloc _ | exact (h.drewN _).alloc _ | exact (h.alloc _).drewN _ | exact h.less | exact (h.less).drewN _ | exact (h.less).alloc _ | exact ((h.less).drewN _).alloc _ | exact ((h.less).alloc _).drewN _ | exact h.up (by first | assumption | exact isP_lt (by assumption) | exact kindP_lt (by assumption)))).mono ?_; rintro e w' ⟨rfl, h⟩; have c0 := h.c0; have c1 := h.c1; have f1 := h.fz 1; have c4 := h.c4; have f4 := h.fz 4; have c5 := h.c5) | (go_at_call 82; refine (kind_yes ok _ (by first | exact h | exact h.drewN _ | exact h.alloc _ | exact (h.drewN _).alloc _ | exact (h.alloc _).drewN _ | exact h.less | exact (h.less).drewN _ | exact (h.less).alloc _ | exact ((h.less).drewN _).alloc _ | exact ((h.less).alloc _).drewN _ | exact h.up (by first | assumption | exact isP_lt (by assumption) | exact kindP_lt (by assumption))) (by assumption)).mono ?_; rintro e w' ⟨rfl, h⟩; have c0 := h.c0; have c1 := h.c1; have f1 := h.fz 1; have c4 := h.c4; have f4 := h.fz 4; have c5 := h.c5) | (go_at_call 82; refine (kind_no ok _ (by first | exact h | exact h.drewN _ | exact h.alloc _ | exact (h.drewN _).alloc _ | exact (h.alloc _).drewN _ | exact h.less | exact (h.less).drewN _ | exact (h.less).alloc _ | exact ((h.less).drewN _).alloc _ | exact ((h.less).alloc _).drewN _ | exact h.up (by first | assumption | exact isP_lt (by assumption) | exact kindP_lt (by assumption))) (by first | assumption | exact eq_false_of_ne_true (by assumption))).mono ?_; rintro e w' ⟨rfl, h⟩; have c0 := h.c0; have c1 := h.c1; have f1 := h.fz 1; have c4 := h.c4; have f4 := h.fz 4; have c5 := h.c5) | (go_at_call 50; refine (number_any ok (by first | exact h | exact h.drewN _ | exact h.alloc _ | exact (h.drewN _).alloc _ | exact (h.alloc _).drewN _ | exact h.less | exact (h.less).drewN _ | exact (h.less).alloc _ | exact ((h.less).drewN _).alloc _ | exact ((h.less).alloc _).drewN _ | exact h.up (by first | assumption | exact isP_lt (by assumption) | exact kindP_lt (by assumption)))).mono ?_; rintro e w' ⟨rfl, h⟩; have c0 := h.c0; have c1 := h.c1; have f1 := h.fz 1; have c4 := h.c4; have f4 := h.fz 4; have c5 := h.c5) | (go_at_call 51; refine (node_any ok (by first | exact h | exact h.drewN _ | exact h.alloc _ | exact (h.drewN _).alloc _ | exact (h.alloc _).drewN _ | exact h.less | exact (h.less).drewN _ | exact (h.less).alloc _ | exact ((h.less).drewN _).alloc _ | exact ((h.less).alloc _).drewN _ | exact h.up (by first | assumption | exact isP_lt (by assumption) | exact kindP_lt (by assumption))) (by assumption) (by first | exact nil_row _ _ _ | exact new_row h [_] (by simp) | exact new_row h [_, _] (by simp) | exact new_row h [_, _, _] (by simp) | exact krow_drewN (new_row h [_] (by simp)) | exact new_at (h.drewN _) [_] _ (by simp) (by simp) | exact new_at h.less [_] _ (by simp) (by simp) | exact new_at ((h.less).drewN _) [_] _ (by simp) (by simp) | exact krow_drewN (new_row h [_, _] (by simp)) | exact new_at (h.drewN _) [_, _] _ (by simp) (by simp) | exact new_at h.less [_, _] _ (by simp) (by simp) | exact new_at ((h.less).drewN _) [_, _] _ (by simp) (by simp) | exact krow_drewN (new_row h [_, _, _] (by simp)) | exact new_at (h.drewN _) [_, _, _] _ (by simp) (by simp) | exact new_at h.less [_, _, _] _ (by simp) (by simp) | exact new_at ((h.less).drewN _) [_, _, _] _ (by simp) (by simp))).mono ?_; rintro e w' ⟨rfl, h⟩; have c0 := h.c0; have c1 := h.c1; have f1 := h.fz 1; have c4 := h.c4; have f4 := h.fz 4; have c5 := h.c5) | (go_at_call 46; refine (take_yes ok _ (by first | exact h | exact h.drewN _ | exact h.alloc _ | exact (h.drewN _).alloc _ | exact (h.alloc _).drewN _ | exact h.less | exact (h.less).drewN _ | exact (h.less).alloc _ | exact ((h.less).drewN _).alloc _ | exact ((h.less).alloc _).drewN _ | exact h.up (by first | assumption | exact isP_lt (by assumption) | exact kindP_lt (by assumption))) (by assumption)).mono ?_; rintro e w' ⟨rfl, h⟩; have c0 := h.c0; have c1 := h.c1; have f1 := h.fz 1; have c4 := h.c4; have f4 := h.fz 4; have c5 := h.c5) | (go_at_call 46; refine (take_no ok _ (by first | exact h | exact h.drewN _ | exact h.alloc _ | exact (h.drewN _).alloc _ | exact (h.alloc _).drewN _ | exact h.less | exact (h.less).drewN _ | exact (h.less).alloc _ | exact ((h.less).drewN _).alloc _ | exact ((h.less).alloc _).drewN _ | exact h.up (by first | assumption | exact isP_lt (by assumption) | exact kindP_lt (by assumption))) (by first | assumption | exact eq_false_of_ne_true (by assumption))).mono ?_; rintro e w' ⟨rfl, h⟩; have c0 := h.c0; have c1 := h.c1; have f1 := h.fz 1; have c4 := h.c4; have f4 := h.fz 4; have c5 := h.c5) | (go_at_call 84; refine (down_yes ok (by first | exact h | exact h.drewN _ | exact h.alloc _ | exact (h.drewN _).alloc _ | exact (h.alloc _).drewN _ | exact h.less | exact (h.less).drewN _ | exact (h.less).alloc _ | exact ((h.less).drewN _).alloc _ | exact ((h.less).alloc _).drewN _ | exact h.up (by first | assumption | exact isP_lt (by assumption) | exact kindP_lt (by assumption))) (by assumption)).mono ?_; rintro e w' ⟨rfl, h⟩; have c0 := h.c0; have c1 := h.c1; have f1 := h.fz 1; have c4 := h.c4; have f4 := h.fz 4; have c5 := h.c5) | (go_at_call 84; refine (down_no ok (by first | exact h | exact h.drewN _ | exact h.alloc _ | exact (h.drewN _).alloc _ | exact (h.alloc _).drewN _ | exact h.less | exact (h.less).drewN _ | exact (h.less).alloc _ | exact ((h.less).drewN _).alloc _ | exact ((h.less).alloc _).drewN _ | exact h.up (by first | assumption | exact isP_lt (by assumption) | exact kindP_lt (by assumption))) (by assumption)).mono ?_; rintro e w' ⟨rfl, h⟩; have c0 := h.c0; have c1 := h.c1; have f1 := h.fz 1; have c4 := h.c4; have f4 := h.fz 4; have c5 := h.c5) | (go_at_call 125; refine (G.level (n := 1) (by omega) (by omega) (by first | exact h | exact h.drewN _ | exact h.alloc _ | exact (h.drewN _).alloc _ | exact (h.alloc _).drewN _ | exact h.less | exact (h.less).drewN _ | exact (h.less).alloc _ | exact ((h.less).drewN _).alloc _ | exact ((h.less).alloc _).drewN _ | exact h.up (by first | assumption | exact isP_lt (by assumption) | exact kindP_lt (by assumption))) (by assumption)).mono ?_; rintro e w' ⟨rfl, h⟩; have c0 := h.c0; have c1 := h.c1; have f1 := h.fz 1; have c4 := h.c4; have f4 := h.fz 4; have c5 := h.c5) | (go_at_call 49; refine (must_any ok _ (by first | exact h | exact h.drewN _ | exact h.alloc _ | exact (h.drewN _).alloc _ | exact (h.alloc _).drewN _ | exact h.less | exact (h.less).drewN _ | exact (h.less).alloc _ | exact ((h.less).drewN _).alloc _ | exact ((h.less).alloc _).drewN _ | exact h.up (by first | assumption | exact isP_lt (by assumption) | exact kindP_lt (by assumption)))).mono ?_; rintro e w' ⟨rfl, h⟩; have c0 := h.c0; have c1 := h.c1; have f1 := h.fz 1; have c4 := h.c4; have f4 := h.fz 4; have c5 := h.c5) | (go_at_call 48; refine (name_any ok (by first | exact h | exact h.drewN _ | exact h.alloc _ | exact (h.drewN _).alloc _ | exact (h.alloc _).drewN _ | exact h.less | exact (h.less).drewN _ | exact (h.less).alloc _ | exact ((h.less).drewN _).alloc _ | exact ((h.less).alloc _).drewN _ | exact h.up (by first | assumption | exact isP_lt (by assumption) | exact kindP_lt (by assumption)))).mono ?_; rintro e w' ⟨rfl, h⟩; have c0 := h.c0; have c1 := h.c1; have f1 := h.fz 1; have c4 := h.c4; have f4 := h.fz 4; have c5 := h.c5))
              go_ret
              exact ⟨rfl, h⟩
          · cases hr
            go_enter Tryz.func169, Tryz.ntmps169
            go_wp2_with (first | (go_at_call 47; refine (at_any ok (by first | exact h | exact h.drewN _ | exact h.alloc _ | exact (h.drewN _).alloc _ | exact (h.alloc _).drewN _ | exact h.less | exact (h.less).drewN _ | exact (h.less).alloc _ | exact ((h.less).drewN _).alloc _ | exact ((h.less).alloc _).drewN _ | exact h.up (by first | assumption | exact isP_lt (by assumption) | exact kindP_lt (by assumption)))).mono ?_; rintro e w' ⟨rfl, h⟩; have c0 := h.c0; have c1 := h.c1; have f1 := h.fz 1; have c4 := h.c4; have f4 := h.fz 4; have c5 := h.c5) | (go_at_call 82; refine (kind_yes ok _ (by first | exact h | exact h.drewN _ | exact h.alloc _ | exact (h.drewN _).alloc _ | exact (h.alloc _).drewN _ | exact h.less | exact (h.less).drewN _ | exact (h.less).alloc _ | exact ((h.less).drewN _).alloc _ | exact ((h.less).alloc _).drewN _ | exact h.up (by first | assumption | exact isP_lt (by assumption) | exact kindP_lt (by assumption))) (by assumption)).mono ?_; rintro e w' ⟨rfl, h⟩; have c0 := h.c0; have c1 := h.c1; have f1 := h.fz 1; have c4 := h.c4; have f4 := h.fz 4; have c5 := h.c5) | (go_at_call 82; refine (kind_no ok _ (by first | exact h | exact h.drewN _ | exact h.alloc _ | exact (h.drewN _).alloc _ | exact (h.alloc _).drewN _ | exact h.less | exact (h.less).drewN _ | exact (h.less).alloc _ | exact ((h.less).drewN _).alloc _ | exact ((h.less).alloc _).drewN _ | exact h.up (by first | assumption | exact isP_lt (by assumption) | exact kindP_lt (by assumption))) (by first | assumption | exact eq_false_of_ne_true (by assumption))).mono ?_; rintro e w' ⟨rfl, h⟩; have c0 := h.c0; have c1 := h.c1; have f1 := h.fz 1; have c4 := h.c4; have f4 := h.fz 4; have c5 := h.c5) | (go_at_call 50; refine (number_any ok (by first | exact h | exact h.drewN _ | exact h.alloc _ | exact (h.drewN _).alloc _ | exact (h.alloc _).drewN _ | exact h.less | exact (h.less).drewN _ | exact (h.less).alloc _ | exact ((h.less).drewN _).alloc _ | exact ((h.less).alloc _).drewN _ | exact h.up (by first | assumption | exact isP_lt (by assumption) | exact kindP_lt (by assumption)))).mono ?_; rintro e w' ⟨rfl, h⟩; have c0 := h.c0; have c1 := h.c1; have f1 := h.fz 1; have c4 := h.c4; have f4 := h.fz 4; have c5 := h.c5) | (go_at_call 51; refine (node_any ok (by first | exact h | exact h.drewN _ | exact h.alloc _ | exact (h.drewN _).alloc _ | exact (h.alloc _).drewN _ | exact h.less | exact (h.less).drewN _ | exact (h.less).alloc _ | exact ((h.less).drewN _).alloc _ | exact ((h.less).alloc _).drewN _ | exact h.up (by first | assumption | exact isP_lt (by assumption) | exact kindP_lt (by assumption))) (by assumption) (by first | exact nil_row _ _ _ | exact new_row h [_] (by simp) | exact new_row h [_, _] (by simp) | exact new_row h [_, _, _] (by simp) | exact krow_drewN (new_row h [_] (by simp)) | exact new_at (h.drewN _) [_] _ (by simp) (by simp) | exact new_at h.less [_] _ (by simp) (by simp) | exact new_at ((h.less).drewN _) [_] _ (by simp) (by simp) | exact krow_drewN (new_row h [_, _] (by simp)) | exact new_at (h.drewN _) [_, _] _ (by simp) (by simp) | exact new_at h.less [_, _] _ (by simp) (by simp) | exact new_at ((h.less).drewN _) [_, _] _ (by simp) (by simp) | exact krow_drewN (new_row h [_, _, _] (by simp)) | exact new_at (h.drewN _) [_, _, _] _ (by simp) (by simp) | exact new_at h.less [_, _, _] _ (by simp) (by simp) | exact new_at ((h.less).drewN _) [_, _, _] _ (by simp) (by simp))).mono ?_; rintro e w' ⟨rfl, h⟩; have c0 := h.c0; have c1 := h.c1; have f1 := h.fz 1; have c4 := h.c4; have f4 := h.fz 4; have c5 := h.c5) | (go_at_call 46; refine (take_yes ok _ (by first | exact h | exact h.drewN _ | exact h.alloc _ | exact (h.drewN _).alloc _ | exact (h.alloc _).drewN _ | exact h.less | exact (h.less).drewN _ | exact (h.less).alloc _ | exact ((h.less).drewN _).alloc _ | exact ((h.less).alloc _).drewN _ | exact h.up (by first | assumption | exact isP_lt (by assumption) | exact kindP_lt (by assumption))) (by assumption)).mono ?_; rintro e w' ⟨rfl, h⟩; have c0 := h.c0; have c1 := h.c1; have f1 := h.fz 1; have c4 := h.c4; have f4 := h.fz 4; have c5 := h.c5) | (go_at_call 46; refine (take_no ok _ (by first | exact h | exact h.drewN _ | exact h.alloc _ | exact (h.drewN _).alloc _ | exact (h.alloc _).drewN _ | exact h.less | exact (h.less).drewN _ | exact (h.less).alloc _ | exact ((h.less).drewN _).alloc _ | exact ((h.less).alloc _).drewN _ | exact h.up (by first | assumption | exact isP_lt (by assumption) | exact kindP_lt (by assumption))) (by first | assumption | exact eq_false_of_ne_true (by assumption))).mono ?_; rintro e w' ⟨rfl, h⟩; have c0 := h.c0; have c1 := h.c1; have f1 := h.fz 1; have c4 := h.c4; have f4 := h.fz 4; have c5 := h.c5) | (go_at_call 84; refine (down_yes ok (by first | exact h | exact h.drewN _ | exact h.alloc _ | exact (h.drewN _).alloc _ | exact (h.alloc _).drewN _ | exact h.less | exact (h.less).drewN _ | exact (h.less).alloc _ | exact ((h.less).drewN _).alloc _ | exact ((h.less).alloc _).drewN _ | exact h.up (by first | assumption | exact isP_lt (by assumption) | exact kindP_lt (by assumption))) (by assumption)).mono ?_; rintro e w' ⟨rfl, h⟩; have c0 := h.c0; have c1 := h.c1; have f1 := h.fz 1; have c4 := h.c4; have f4 := h.fz 4; have c5 := h.c5) | (go_at_call 84; refine (down_no ok (by first | exact h | exact h.drewN _ | exact h.alloc _ | exact (h.drewN _).alloc _ | exact (h.alloc _).drewN _ | exact h.less | exact (h.less).drewN _ | exact (h.less).alloc _ | exact ((h.less).drewN _).alloc _ | exact ((h.less).alloc _).drewN _ | exact h.up (by first | assumption | exact isP_lt (by assumption) | exact kindP_lt (by assumption))) (by assumption)).mono ?_; rintro e w' ⟨rfl, h⟩; have c0 := h.c0; have c1 := h.c1; have f1 := h.fz 1; have c4 := h.c4; have f4 := h.fz 4; have c5 := h.c5) | (go_at_call 125; refine (G.level (n := 1) (by omega) (by omega) (by first | exact h | exact h.drewN _ | exact h.alloc _ | exact (h.drewN _).alloc _ | exact (h.alloc _).drewN _ | exact h.less | exact (h.less).drewN _ | exact (h.less).alloc _ | exact ((h.less).drewN _).alloc _ | exact ((h.less).alloc _).drewN _ | exact h.up (by first | assumption | exact isP_lt (by assumption) | exact kindP_lt (by assumption))) (by assumption)).mono ?_; rintro e w' ⟨rfl, h⟩; have c0 := h.c0; have c1 := h.c1; have f1 := h.fz 1; have c4 := h.c4; have f4 := h.fz 4; have c5 := h.c5) | (go_at_call 49; refine (must_any ok _ (by first | exact h | exact h.drewN _ | exact h.alloc _ | exact (h.drewN _).alloc _ | exact (h.alloc _).drewN _ | exact h.less | exact (h.less).drewN _ | exact (h.less).alloc _ | exact ((h.less).drewN _).alloc _ | exact ((h.less).alloc _).drewN _ | exact h.up (by first | assumption | exact isP_lt (by assumption) | exact kindP_lt (by assumption)))).mono ?_; rintro e w' ⟨rfl, h⟩; have c0 := h.c0; have c1 := h.c1; have f1 := h.fz 1; have c4 := h.c4; have f4 := h.fz 4; have c5 := h.c5) | (go_at_call 48; refine (name_any ok (by first | exact h | exact h.drewN _ | exact h.alloc _ | exact (h.drewN _).alloc _ | exact (h.alloc _).drewN _ | exact h.less | exact (h.less).drewN _ | exact (h.less).alloc _ | exact ((h.less).drewN _).alloc _ | exact ((h.less).alloc _).drewN _ | exact h.up (by first | assumption | exact isP_lt (by assumption) | exact kindP_lt (by assumption)))).mono ?_; rintro e w' ⟨rfl, h⟩; have c0 := h.c0; have c1 := h.c1; have f1 := h.fz 1; have c4 := h.c4; have f4 := h.fz 4; have c5 := h.c5))
            go_ret
            exact ⟨rfl, h⟩
        · go_enter Tryz.func169, Tryz.ntmps169
          go_wp2_with (first | (go_at_call 47; refine (at_any ok (by first | exact h | exact h.drewN _ | exact h.alloc _ | exact (h.drewN _).alloc _ | exact (h.alloc _).drewN _ | exact h.less | exact (h.less).drewN _ | exact (h.less).alloc _ | exact ((h.less).drewN _).alloc _ | exact ((h.less).alloc _).drewN _ | exact h.up (by first | assumption | exact isP_lt (by assumption) | exact kindP_lt (by assumption)))).mono ?_; rintro e w' ⟨rfl, h⟩; have c0 := h.c0; have c1 := h.c1; have f1 := h.fz 1; have c4 := h.c4; have f4 := h.fz 4; have c5 := h.c5) | (go_at_call 82; refine (kind_yes ok _ (by first | exact h | exact h.drewN _ | exact h.alloc _ | exact (h.drewN _).alloc _ | exact (h.alloc _).drewN _ | exact h.less | exact (h.less).drewN _ | exact (h.less).alloc _ | exact ((h.less).drewN _).alloc _ | exact ((h.less).alloc _).drewN _ | exact h.up (by first | assumption | exact isP_lt (by assumption) | exact kindP_lt (by assumption))) (by assumption)).mono ?_; rintro e w' ⟨rfl, h⟩; have c0 := h.c0; have c1 := h.c1; have f1 := h.fz 1; have c4 := h.c4; have f4 := h.fz 4; have c5 := h.c5) | (go_at_call 82; refine (kind_no ok _ (by first | exact h | exact h.drewN _ | exact h.alloc _ | exact (h.drewN _).alloc _ | exact (h.alloc _).drewN _ | exact h.less | exact (h.less).drewN _ | exact (h.less).alloc _ | exact ((h.less).drewN _).alloc _ | exact ((h.less).alloc _).drewN _ | exact h.up (by first | assumption | exact isP_lt (by assumption) | exact kindP_lt (by assumption))) (by first | assumption | exact eq_false_of_ne_true (by assumption))).mono ?_; rintro e w' ⟨rfl, h⟩; have c0 := h.c0; have c1 := h.c1; have f1 := h.fz 1; have c4 := h.c4; have f4 := h.fz 4; have c5 := h.c5) | (go_at_call 50; refine (number_any ok (by first | exact h | exact h.drewN _ | exact h.alloc _ | exact (h.drewN _).alloc _ | exact (h.alloc _).drewN _ | exact h.less | exact (h.less).drewN _ | exact (h.less).alloc _ | exact ((h.less).drewN _).alloc _ | exact ((h.less).alloc _).drewN _ | exact h.up (by first | assumption | exact isP_lt (by assumption) | exact kindP_lt (by assumption)))).mono ?_; rintro e w' ⟨rfl, h⟩; have c0 := h.c0; have c1 := h.c1; have f1 := h.fz 1; have c4 := h.c4; have f4 := h.fz 4; have c5 := h.c5) | (go_at_call 51; refine (node_any ok (by first | exact h | exact h.drewN _ | exact h.alloc _ | exact (h.drewN _).alloc _ | exact (h.alloc _).drewN _ | exact h.less | exact (h.less).drewN _ | exact (h.less).alloc _ | exact ((h.less).drewN _).alloc _ | exact ((h.less).alloc _).drewN _ | exact h.up (by first | assumption | exact isP_lt (by assumption) | exact kindP_lt (by assumption))) (by assumption) (by first | exact nil_row _ _ _ | exact new_row h [_] (by simp) | exact new_row h [_, _] (by simp) | exact new_row h [_, _, _] (by simp) | exact krow_drewN (new_row h [_] (by simp)) | exact new_at (h.drewN _) [_] _ (by simp) (by simp) | exact new_at h.less [_] _ (by simp) (by simp) | exact new_at ((h.less).drewN _) [_] _ (by simp) (by simp) | exact krow_drewN (new_row h [_, _] (by simp)) | exact new_at (h.drewN _) [_, _] _ (by simp) (by simp) | exact new_at h.less [_, _] _ (by simp) (by simp) | exact new_at ((h.less).drewN _) [_, _] _ (by simp) (by simp) | exact krow_drewN (new_row h [_, _, _] (by simp)) | exact new_at (h.drewN _) [_, _, _] _ (by simp) (by simp) | exact new_at h.less [_, _, _] _ (by simp) (by simp) | exact new_at ((h.less).drewN _) [_, _, _] _ (by simp) (by simp))).mono ?_; rintro e w' ⟨rfl, h⟩; have c0 := h.c0; have c1 := h.c1; have f1 := h.fz 1; have c4 := h.c4; have f4 := h.fz 4; have c5 := h.c5) | (go_at_call 46; refine (take_yes ok _ (by first | exact h | exact h.drewN _ | exact h.alloc _ | exact (h.drewN _).alloc _ | exact (h.alloc _).drewN _ | exact h.less | exact (h.less).drewN _ | exact (h.less).alloc _ | exact ((h.less).drewN _).alloc _ | exact ((h.less).alloc _).drewN _ | exact h.up (by first | assumption | exact isP_lt (by assumption) | exact kindP_lt (by assumption))) (by assumption)).mono ?_; rintro e w' ⟨rfl, h⟩; have c0 := h.c0; have c1 := h.c1; have f1 := h.fz 1; have c4 := h.c4; have f4 := h.fz 4; have c5 := h.c5) | (go_at_call 46; refine (take_no ok _ (by first | exact h | exact h.drewN _ | exact h.alloc _ | exact (h.drewN _).alloc _ | exact (h.alloc _).drewN _ | exact h.less | exact (h.less).drewN _ | exact (h.less).alloc _ | exact ((h.less).drewN _).alloc _ | exact ((h.less).alloc _).drewN _ | exact h.up (by first | assumption | exact isP_lt (by assumption) | exact kindP_lt (by assumption))) (by first | assumption | exact eq_false_of_ne_true (by assumption))).mono ?_; rintro e w' ⟨rfl, h⟩; have c0 := h.c0; have c1 := h.c1; have f1 := h.fz 1; have c4 := h.c4; have f4 := h.fz 4; have c5 := h.c5) | (go_at_call 84; refine (down_yes ok (by first | exact h | exact h.drewN _ | exact h.alloc _ | exact (h.drewN _).alloc _ | exact (h.alloc _).drewN _ | exact h.less | exact (h.less).drewN _ | exact (h.less).alloc _ | exact ((h.less).drewN _).alloc _ | exact ((h.less).alloc _).drewN _ | exact h.up (by first | assumption | exact isP_lt (by assumption) | exact kindP_lt (by assumption))) (by assumption)).mono ?_; rintro e w' ⟨rfl, h⟩; have c0 := h.c0; have c1 := h.c1; have f1 := h.fz 1; have c4 := h.c4; have f4 := h.fz 4; have c5 := h.c5) | (go_at_call 84; refine (down_no ok (by first | exact h | exact h.drewN _ | exact h.alloc _ | exact (h.drewN _).alloc _ | exact (h.alloc _).drewN _ | exact h.less | exact (h.less).drewN _ | exact (h.less).alloc _ | exact ((h.less).drewN _).alloc _ | exact ((h.less).alloc _).drewN _ | exact h.up (by first | assumption | exact isP_lt (by assumption) | exact kindP_lt (by assumption))) (by assumption)).mono ?_; rintro e w' ⟨rfl, h⟩; have c0 := h.c0; have c1 := h.c1; have f1 := h.fz 1; have c4 := h.c4; have f4 := h.fz 4; have c5 := h.c5) | (go_at_call 125; refine (G.level (n := 1) (by omega) (by omega) (by first | exact h | exact h.drewN _ | exact h.alloc _ | exact (h.drewN _).alloc _ | exact (h.alloc _).drewN _ | exact h.less | exact (h.less).drewN _ | exact (h.less).alloc _ | exact ((h.less).drewN _).alloc _ | exact ((h.less).alloc _).drewN _ | exact h.up (by first | assumption | exact isP_lt (by assumption) | exact kindP_lt (by assumption))) (by assumption)).mono ?_; rintro e w' ⟨rfl, h⟩; have c0 := h.c0; have c1 := h.c1; have f1 := h.fz 1; have c4 := h.c4; have f4 := h.fz 4; have c5 := h.c5) | (go_at_call 49; refine (must_any ok _ (by first | exact h | exact h.drewN _ | exact h.alloc _ | exact (h.drewN _).alloc _ | exact (h.alloc _).drewN _ | exact h.less | exact (h.less).drewN _ | exact (h.less).alloc _ | exact ((h.less).drewN _).alloc _ | exact ((h.less).alloc _).drewN _ | exact h.up (by first | assumption | exact isP_lt (by assumption) | exact kindP_lt (by assumption)))).mono ?_; rintro e w' ⟨rfl, h⟩; have c0 := h.c0; have c1 := h.c1; have f1 := h.fz 1; have c4 := h.c4; have f4 := h.fz 4; have c5 := h.c5) | (go_at_call 48; refine (name_any ok (by first | exact h | exact h.drewN _ | exact h.alloc _ | exact (h.drewN _).alloc _ | exact (h.alloc _).drewN _ | exact h.less | exact (h.less).drewN _ | exact (h.less).alloc _ | exact ((h.less).drewN _).alloc _ | exact ((h.less).alloc _).drewN _ | exact h.up (by first | assumption | exact isP_lt (by assumption) | exact kindP_lt (by assumption)))).mono ?_; rintro e w' ⟨rfl, h⟩; have c0 := h.c0; have c1 := h.c1; have f1 := h.fz 1; have c4 := h.c4; have f4 := h.fz 4; have c5 := h.c5))
          go_ret
          exact ⟨rfl, h⟩
end
end
section
/-- The least number of which something holds. -/
theorem least_ex {P : Nat → Prop} (h : ∃ n, P n) : ∃ n, P n ∧ ∀ m, P m → n ≤ m := by
  obtain ⟨n, hn⟩ := h
  induction n using Nat.strongRecOn with
  | _ n ih =>
    by_cases hm : ∃ m, m < n ∧ P m
    · obtain ⟨m, hlt, hp⟩ := hm
      exact ih m hlt hp
    · exact ⟨n, hn, fun m hp => Nat.le_of_not_lt fun hlt => hm ⟨m, hlt, hp⟩⟩
open Classical in
noncomputable def least (P : Nat → Prop) : Nat := if h : ∃ n, P n then Classical.choose (least_ex h) else 0
theorem least_is {P : Nat → Prop} (h : ∃ n, P n) : P (least P) := by
  rw [least, dif_pos h]
  exact (Classical.choose_spec (least_ex h)).1
theorem least_le {P : Nat → Prop} {n : Nat} (h : P n) : least P ≤ n := by
  have h' : ∃ n, P n := ⟨n, h⟩
  rw [least, dif_pos h']
  exact (Classical.choose_spec (least_ex h')).2 n h
section
variable {x : Cx} {L : List (Nat × Obj)} {s : S} {w : World} {R : Rec} {r : Nat} {s' : S}
theorem op_zero {ts : List Tok} {n : Nat} (h : opP (signP ts s) n = 0) : (opP (signP ts s) n != 0) = false := by simpa using h
theorem op_some {ts : List Tok} {n : Nat} (h : ¬ opP (signP ts s) n = 0) : (opP (signP ts s) n != 0) = true := by simpa using h
def LvP (x : Cx) (L : List (Nat × Obj)) (R : Rec) (n r : Nat) (s' : S) (v : Value) (wr : World) (f : Nat) : Prop := ∃ (y : Nat) (s1 : S), v = .int .i64 (y : Nat) ∧ PS x L s1 wr ∧ levelL x.ts x.fin R n f y s1 = some (r, s')
set_option maxHeartbeats 4000000 in
set_option maxRecDepth 100000 in
theorem level_walk (ok : x.Ok) (G : Good x R) {n : Nat} (hn1 : 1 ≤ n) (hn7 : n ≤ 7) (h : PS x L s w) (hr : levelF x.ts x.fin R n s = some (r, s')) : Calls Tryz.prog 125 #[.pointer (some ⟨x.B, 0, none⟩), .int .i64 (n : Nat)] w fun e w' => e = .returned (.int .i64 (r : Nat)) ∧ PS x L s' w' := by
  have l1 := ok.len
  unfold levelF at hr
  split at hr
  · go_enter Tryz.func125, Tryz.ntmps125
    go_wp2_with (first | (go_at_call 154; refine (G.unary (by first | exact h | exact h.drewN _ | exact h.alloc _ | exact (h.drewN _).alloc _ | exact (h.alloc _).drewN _ | exact h.less | exact (h.less).drewN _ | exact (h.less).alloc _ | exact ((h.less).drewN _).alloc _ | exact ((h.less).alloc _).drewN _ | exact h.up (by first | assumption | exact isP_lt (by assumption) | exact kindP_lt (by assumption))) (by assumption)).mono ?_; rintro e w' ⟨rfl, h⟩))
    go_ret
    exact ⟨rfl, h⟩
  · have hn6 : n ≤ 6 := by omega
    split at hr
    · cases hr
    · rename_i y s1 he
      go_enter Tryz.func125, Tryz.ntmps125
      go_wp2_with ((go_at_call 125; refine (G.level (n := n + 1) (by omega) (by omega) (by first | exact h | exact h.drewN _ | exact h.alloc _ | exact (h.drewN _).alloc _ | exact (h.alloc _).drewN _ | exact h.less | exact (h.less).drewN _ | exact (h.less).alloc _ | exact ((h.less).drewN _).alloc _ | exact ((h.less).alloc _).drewN _ | exact h.up (by first | assumption | exact isP_lt (by assumption) | exact kindP_lt (by assumption))) (by assumption)).mono ?_; rintro e w' ⟨rfl, h⟩; have c0 := h.c0; have c1 := h.c1; have f1 := h.fz 1; have c4 := h.c4; have f4 := h.fz 4; have c5 := h.c5))
      go_loopw [5] (fun v wr => ∃ f, LvP x L R n r s' v wr f) (fun v wr => least (LvP x L R n r s' v wr))
      case atStart => exact ⟨1000, y, s1, rfl, h, hr⟩
      case round =>
        clear h hr he
        obtain ⟨y, s1, rfl, h, hl⟩ := least_is hrel
        generalize hF : least (LvP x L R n r s' (Value.int .i64 (y : Nat)) wr) = F at hl
        cases F with
        | zero => simp [levelL] at hl
        | succ f =>
          rw [levelL] at hl
          have c5 := h.c5
          by_cases hc : s1.c = 0
          · rw [if_pos hc] at hl
            rw [hc] at c5
            by_cases ho : opP (signP x.ts s1) n = 0
            · rw [if_pos ho] at hl
              cases hl
              have ho' := op_zero ho
              go_wp2_with (first | (go_at_call 156; refine (sign_any ok (by first | exact h | exact h.drewN _ | exact h.alloc _ | exact (h.drewN _).alloc _ | exact (h.alloc _).drewN _ | exact h.less | exact (h.less).drewN _ | exact (h.less).alloc _ | exact ((h.less).drewN _).alloc _ | exact ((h.less).alloc _).drewN _ | exact h.up (by first | assumption | exact isP_lt (by assumption) | exact kindP_lt (by assumption)))).mono ?_; rintro e w' ⟨rfl, h⟩; have c0 := h.c0; have c1 := h.c1; have f1 := h.fz 1; have c4 := h.c4; have f4 := h.fz 4; have c5 := h.c5) | (go_at_call 155; refine (op_any _ _ _ (by omega) (by omega)).mono ?_; rintro e w' ⟨rfl, rfl⟩) | (go_at_call 47; refine (at_any ok (by first | exact h | exact h.drewN _ | exact h.alloc _ | exact (h.drewN _).alloc _ | exact (h.alloc _).drewN _ | exact h.less | exact (h.less).drewN _ | exact (h.less).alloc _ | exact ((h.less).drewN _).alloc _ | exact ((h.less).alloc _).drewN _ | exact h.up (by first | assumption | exact isP_lt (by assumption) | exact kindP_lt (by assumption)))).mono ?_; rintro e w' ⟨rfl, h⟩; have c0 := h.c0; have c1 := h.c1; have f1 := h.fz 1; have c4 := h.c4; have f4 := h.fz 4; have c5 := h.c5) | (go_at_call 51; refine (node_any ok (by first | exact h | exact h.drewN _ | exact h.alloc _ | exact (h.drewN _).alloc _ | exact (h.alloc _).drewN _ | exact h.less | exact (h.less).drewN _ | exact (h.less).alloc _ | exact ((h.less).drewN _).alloc _ | exact ((h.less).alloc _).drewN _ | exact h.up (by first | assumption | exact isP_lt (by assumption) | exact kindP_lt (by assumption))) (by assumption) (by first | exact nil_row _ _ _ | exact new_row h [_] (by simp) | exact new_row h [_, _] (by simp) | exact new_row h [_, _, _] (by simp) | exact krow_drewN (new_row h [_] (by simp)) | exact new_at (h.drewN _) [_] _ (by simp) (by simp) | exact new_at h.less [_] _ (by simp) (by simp) | exact new_at ((h.less).drewN _) [_] _ (by simp) (by simp) | exact krow_drewN (new_row h [_, _] (by simp)) | exact new_at (h.drewN _) [_, _] _ (by simp) (by simp) | exact new_at h.less [_, _] _ (by simp) (by simp) | exact new_at ((h.less).drewN _) [_, _] _ (by simp) (by simp) | exact krow_drewN (new_row h [_, _, _] (by simp)) | exact new_at (h.drewN _) [_, _, _] _ (by simp) (by simp) | exact new_at h.less [_, _, _] _ (by simp) (by simp) | exact new_at ((h.less).drewN _) [_, _, _] _ (by simp) (by simp))).mono ?_; rintro e w' ⟨rfl, h⟩; have c0 := h.c0; have c1 := h.c1; have f1 := h.fz 1; have c4 := h.c4; have f4 := h.fz 4; have c5 := h.c5))
              go_ret
              exact ⟨rfl, h⟩
            · rw [if_neg ho] at hl
              have ho' := op_some ho
              have hp := op_lt ho
              split at hl
              · cases hl
              · split at hl
                · cases hl
                · go_wp2_with (first | (go_at_call 156; refine (sign_any ok (by first | exact h | exact h.drewN _ | exact h.alloc _ | exact (h.drewN _).alloc _ | exact (h.alloc _).drewN _ | exact h.less | exact (h.less).drewN _ | exact (h.less).alloc _ | exact ((h.less).drewN _).alloc _ | exact ((h.less).alloc _).drewN _ | exact h.up (by first | assumption | exact isP_lt (by assumption) | exact kindP_lt (by assumption)))).mono ?_; rintro e w' ⟨rfl, h⟩; have c0 := h.c0; have c1 := h.c1; have f1 := h.fz 1; have c4 := h.c4; have f4 := h.fz 4; have c5 := h.c5) | (go_at_call 155; refine (op_any _ _ _ (by omega) (by omega)).mono ?_; rintro e w' ⟨rfl, rfl⟩) | (go_at_call 47; refine (at_any ok (by first | exact h | exact h.drewN _ | exact h.alloc _ | exact (h.drewN _).alloc _ | exact (h.alloc _).drewN _ | exact h.less | exact (h.less).drewN _ | exact (h.less).alloc _ | exact ((h.less).drewN _).alloc _ | exact ((h.less).alloc _).drewN _ | exact h.up (by first | assumption | exact isP_lt (by assumption) | exact kindP_lt (by assumption)))).mono ?_; rintro e w' ⟨rfl, h⟩; have c0 := h.c0; have c1 := h.c1; have f1 := h.fz 1; have c4 := h.c4; have f4 := h.fz 4; have c5 := h.c5) | (go_at_call 51; refine (node_any ok (by first | exact h | exact h.drewN _ | exact h.alloc _ | exact (h.drewN _).alloc _ | exact (h.alloc _).drewN _ | exact h.less | exact (h.less).drewN _ | exact (h.less).alloc _ | exact ((h.less).drewN _).alloc _ | exact ((h.less).alloc _).drewN _ | exact h.up (by first | assumption | exact isP_lt (by assumption) | exact kindP_lt (by assumption))) (by assumption) (by first | exact nil_row _ _ _ | exact new_row h [_] (by simp) | exact new_row h [_, _] (by simp) | exact new_row h [_, _, _] (by simp) | exact krow_drewN (new_row h [_] (by simp)) | exact new_at (h.drewN _) [_] _ (by simp) (by simp) | exact new_at h.less [_] _ (by simp) (by simp) | exact new_at ((h.less).drewN _) [_] _ (by simp) (by simp) | exact krow_drewN (new_row h [_, _] (by simp)) | exact new_at (h.drewN _) [_, _] _ (by simp) (by simp) | exact new_at h.less [_, _] _ (by simp) (by simp) | exact new_at ((h.less).drewN _) [_, _] _ (by simp) (by simp) | exact krow_drewN (new_row h [_, _, _] (by simp)) | exact new_at (h.drewN _) [_, _, _] _ (by simp) (by simp) | exact new_at h.less [_, _, _] _ (by simp) (by simp) | exact new_at ((h.less).drewN _) [_, _, _] _ (by simp) (by simp))).mono ?_; rintro e w' ⟨rfl, h⟩; have c0 := h.c0; have c1 := h.c1; have f1 := h.fz 1; have c4 := h.c4; have f4 := h.fz 4; have c5 := h.c5) | (go_at_call 125; refine (G.level (n := n + 1) (by omega) (by omega) (by first | exact h | exact h.drewN _ | exact h.alloc _ | exact (h.drewN _).alloc _ | exact (h.alloc _).drewN _ | exact h.less | exact (h.less).drewN _ | exact (h.less).alloc _ | exact ((h.less).drewN _).alloc _ | exact ((h.less).alloc _).drewN _ | exact h.up (by first | assumption | exact isP_lt (by assumption) | exact kindP_lt (by assumption))) (by assumption)).mono ?_; rintro e w' ⟨rfl, h⟩; have c0 := h.c0; have c1 := h.c1; have f1 := h.fz 1; have c4 := h.c4; have f4 := h.fz 4; have c5 := h.c5))
                  go_roundw
                  case rel => exact ⟨f, _, _, rfl, h, hl⟩
                  case measure => have := least_le (P := LvP x L R n r s' _ _) ⟨_, _, rfl, h, hl⟩; omega
          · rw [if_neg hc] at hl
            have e3 : (s1.c == 0) = false := by simpa using hc
            cases hl
            go_wp2
            go_ret
            exact ⟨rfl, h⟩
def JnP (x : Cx) (L : List (Nat × Obj)) (R : Rec) (word : ByteArray) (k : Int) (c : Cmd) (r : Nat) (s' : S) (v : Value) (wr : World) (f : Nat) : Prop := ∃ (y : Nat) (s1 : S), v = .int .i64 (y : Nat) ∧ PS x L s1 wr ∧ joinL x.ts x.fin R word k c f y s1 = some (r, s')
set_option maxHeartbeats 4000000 in
set_option maxRecDepth 100000 in
theorem both_walk (ok : x.Ok) (G : Good x R) (h : PS x L s w) (hr : bothF x.ts x.fin R s = some (r, s')) : Calls Tryz.prog 157 #[.pointer (some ⟨x.B, 0, none⟩)] w fun e w' => e = .returned (.int .i64 (r : Nat)) ∧ PS x L s' w' := by
  have l1 := ok.len
  unfold bothF at hr
  split at hr
  · cases hr
  · rename_i y s1 he
    go_enter Tryz.func157, Tryz.ntmps157
    go_wp2_with (first | (go_at_call 170; refine (G.last (by first | exact h | exact h.drewN _ | exact h.alloc _ | exact (h.drewN _).alloc _ | exact (h.alloc _).drewN _ | exact h.less | exact (h.less).drewN _ | exact (h.less).alloc _ | exact ((h.less).drewN _).alloc _ | exact ((h.less).alloc _).drewN _ | exact h.up (by first | assumption | exact isP_lt (by assumption) | exact kindP_lt (by assumption))) (by assumption)).mono ?_; rintro e w' ⟨rfl, h⟩))
    go_loopw [3] (fun v wr => ∃ f, JnP x L R ⟨#[97, 110, 100]⟩ 31 .last r s' v wr f) (fun v wr => least (JnP x L R ⟨#[97, 110, 100]⟩ 31 .last r s' v wr))
    case atStart => exact ⟨1000, y, s1, rfl, h, hr⟩
    case round =>
      clear h hr he
      obtain ⟨y, s1, rfl, h, hl⟩ := least_is hrel
      generalize hF : least (JnP x L R ⟨#[97, 110, 100]⟩ 31 .last r s' (Value.int .i64 (y : Nat)) wr) = F at hl
      cases F with
      | zero => simp [joinL] at hl
      | succ f =>
        rw [joinL] at hl
        by_cases hi : isP x.ts s1 ⟨#[97, 110, 100]⟩ = true
        · rw [if_pos hi] at hl
          have hp := isP_lt hi
          split at hl
          · cases hl
          · split at hl
            · cases hl
            · go_wp2_with (first | (go_at_call 81; refine (is_yes ok _ (by first | exact h | exact h.drewN _ | exact h.alloc _ | exact (h.drewN _).alloc _ | exact (h.alloc _).drewN _ | exact h.less | exact (h.less).drewN _ | exact (h.less).alloc _ | exact ((h.less).drewN _).alloc _ | exact ((h.less).alloc _).drewN _ | exact h.up (by first | assumption | exact isP_lt (by assumption) | exact kindP_lt (by assumption))) (by assumption)).mono ?_; rintro e w' ⟨rfl, h⟩; have c0 := h.c0; have c1 := h.c1; have f1 := h.fz 1; have c4 := h.c4; have f4 := h.fz 4; have c5 := h.c5) | (go_at_call 81; refine (is_no ok _ (by first | exact h | exact h.drewN _ | exact h.alloc _ | exact (h.drewN _).alloc _ | exact (h.alloc _).drewN _ | exact h.less | exact (h.less).drewN _ | exact (h.less).alloc _ | exact ((h.less).drewN _).alloc _ | exact ((h.less).alloc _).drewN _ | exact h.up (by first | assumption | exact isP_lt (by assumption) | exact kindP_lt (by assumption))) (by first | assumption | exact eq_false_of_ne_true (by assumption))).mono ?_; rintro e w' ⟨rfl, h⟩; have c0 := h.c0; have c1 := h.c1; have f1 := h.fz 1; have c4 := h.c4; have f4 := h.fz 4; have c5 := h.c5) | (go_at_call 47; refine (at_any ok (by first | exact h | exact h.drewN _ | exact h.alloc _ | exact (h.drewN _).alloc _ | exact (h.alloc _).drewN _ | exact h.less | exact (h.less).drewN _ | exact (h.less).alloc _ | exact ((h.less).drewN _).alloc _ | exact ((h.less).alloc _).drewN _ | exact h.up (by first | assumption | exact isP_lt (by assumption) | exact kindP_lt (by assumption)))).mono ?_; rintro e w' ⟨rfl, h⟩; have c0 := h.c0; have c1 := h.c1; have f1 := h.fz 1; have c4 := h.c4; have f4 := h.fz 4; have c5 := h.c5) | (go_at_call 170; refine (G.last (by first | exact h | exact h.drewN _ | exact h.alloc _ | exact (h.drewN _).alloc _ | exact (h.alloc _).drewN _ | exact h.less | exact (h.less).drewN _ | exact (h.less).alloc _ | exact ((h.less).drewN _).alloc _ | exact ((h.less).alloc _).drewN _ | exact h.up (by first | assumption | exact isP_lt (by assumption) | exact kindP_lt (by assumption))) (by assumption)).mono ?_; rintro e w' ⟨rfl, h⟩; have c0 := h.c0; have c1 := h.c1; have f1 := h.fz 1; have c4 := h.c4; have f4 := h.fz 4; have c5 := h.c5) | (go_at_call 51; refine (node_any ok (by first | exact h | exact h.drewN _ | exact h.alloc _ | exact (h.drewN _).alloc _ | exact (h.alloc _).drewN _ | exact h.less | exact (h.less).drewN _ | exact (h.less).alloc _ | exact ((h.less).drewN _).alloc _ | exact ((h.less).alloc _).drewN _ | exact h.up (by first | assumption | exact isP_lt (by assumption) | exact kindP_lt (by assumption))) (by assumption) (by first | exact nil_row _ _ _ | exact new_row h [_] (by simp) | exact new_row h [_, _] (by simp) | exact new_row h [_, _, _] (by simp) | exact krow_drewN (new_row h [_] (by simp)) | exact new_at (h.drewN _) [_] _ (by simp) (by simp) | exact new_at h.less [_] _ (by simp) (by simp) | exact new_at ((h.less).drewN _) [_] _ (by simp) (by simp) | exact krow_drewN (new_row h [_, _] (by simp)) | exact new_at (h.drewN _) [_, _] _ (by simp) (by simp) | exact new_at h.less [_, _] _ (by simp) (by simp) | exact new_at ((h.less).drewN _) [_, _] _ (by simp) (by simp) | exact krow_drewN (new_row h [_, _, _] (by simp)) | exact new_at (h.drewN _) [_, _, _] _ (by simp) (by simp) | exact new_at h.less [_, _, _] _ (by simp) (by simp) | exact new_at ((h.less).drewN _) [_, _, _] _ (by simp) (by simp))).mono ?_; rintro e w' ⟨rfl, h⟩; have c0 := h.c0; have c1 := h.c1; have f1 := h.fz 1; have c4 := h.c4; have f4 := h.fz 4; have c5 := h.c5))
              go_roundw
              case rel => exact ⟨f, _, _, rfl, h, hl⟩
              case measure => have := least_le (P := JnP x L R ⟨#[97, 110, 100]⟩ 31 .last r s' _ _) ⟨_, _, rfl, h, hl⟩; omega
        · rw [if_neg hi] at hl
          cases hl
          go_wp2_with (first | (go_at_call 81; refine (is_yes ok _ (by first | exact h | exact h.drewN _ | exact h.alloc _ | exact (h.drewN _).alloc _ | exact (h.alloc _).drewN _ | exact h.less | exact (h.less).drewN _ | exact (h.less).alloc _ | exact ((h.less).drewN _).alloc _ | exact ((h.less).alloc _).drewN _ | exact h.up (by first | assumption | exact isP_lt (by assumption) | exact kindP_lt (by assumption))) (by assumption)).mono ?_; rintro e w' ⟨rfl, h⟩) | (go_at_call 81; refine (is_no ok _ (by first | exact h | exact h.drewN _ | exact h.alloc _ | exact (h.drewN _).alloc _ | exact (h.alloc _).drewN _ | exact h.less | exact (h.less).drewN _ | exact (h.less).alloc _ | exact ((h.less).drewN _).alloc _ | exact ((h.less).alloc _).drewN _ | exact h.up (by first | assumption | exact isP_lt (by assumption) | exact kindP_lt (by assumption))) (by first | assumption | exact eq_false_of_ne_true (by assumption))).mono ?_; rintro e w' ⟨rfl, h⟩))
          go_ret
          exact ⟨rfl, h⟩
set_option maxHeartbeats 4000000 in
set_option maxRecDepth 100000 in
theorem cond_walk (ok : x.Ok) (G : Good x R) (h : PS x L s w) (hr : condF x.ts x.fin R s = some (r, s')) : Calls Tryz.prog 126 #[.pointer (some ⟨x.B, 0, none⟩)] w fun e w' => e = .returned (.int .i64 (r : Nat)) ∧ PS x L s' w' := by
  have l1 := ok.len
  unfold condF at hr
  split at hr
  · cases hr
  · rename_i y s1 he
    go_enter Tryz.func126, Tryz.ntmps126
    go_wp2_with (first | (go_at_call 157; refine (G.both (by first | exact h | exact h.drewN _ | exact h.alloc _ | exact (h.drewN _).alloc _ | exact (h.alloc _).drewN _ | exact h.less | exact (h.less).drewN _ | exact (h.less).alloc _ | exact ((h.less).drewN _).alloc _ | exact ((h.less).alloc _).drewN _ | exact h.up (by first | assumption | exact isP_lt (by assumption) | exact kindP_lt (by assumption))) (by assumption)).mono ?_; rintro e w' ⟨rfl, h⟩))
    go_loopw [3] (fun v wr => ∃ f, JnP x L R ⟨#[111, 114]⟩ 32 .both r s' v wr f) (fun v wr => least (JnP x L R ⟨#[111, 114]⟩ 32 .both r s' v wr))
    case atStart => exact ⟨1000, y, s1, rfl, h, hr⟩
    case round =>
      clear h hr he
      obtain ⟨y, s1, rfl, h, hl⟩ := least_is hrel
      generalize hF : least (JnP x L R ⟨#[111, 114]⟩ 32 .both r s' (Value.int .i64 (y : Nat)) wr) = F at hl
      cases F with
      | zero => simp [joinL] at hl
      | succ f =>
        rw [joinL] at hl
        by_cases hi : isP x.ts s1 ⟨#[111, 114]⟩ = true
        · rw [if_pos hi] at hl
          have hp := isP_lt hi
          split at hl
          · cases hl
          · split at hl
            · cases hl
            · go_wp2_with (first | (go_at_call 81; refine (is_yes ok _ (by first | exact h | exact h.drewN _ | exact h.alloc _ | exact (h.drewN _).alloc _ | exact (h.alloc _).drewN _ | exact h.less | exact (h.less).drewN _ | exact (h.less).alloc _ | exact ((h.less).drewN _).alloc _ | exact ((h.less).alloc _).drewN _ | exact h.up (by first | assumption | exact isP_lt (by assumption) | exact kindP_lt (by assumption))) (by assumption)).mono ?_; rintro e w' ⟨rfl, h⟩; have c0 := h.c0; have c1 := h.c1; have f1 := h.fz 1; have c4 := h.c4; have f4 := h.fz 4; have c5 := h.c5) | (go_at_call 81; refine (is_no ok _ (by first | exact h | exact h.drewN _ | exact h.alloc _ | exact (h.drewN _).alloc _ | exact (h.alloc _).drewN _ | exact h.less | exact (h.less).drewN _ | exact (h.less).alloc _ | exact ((h.less).drewN _).alloc _ | exact ((h.less).alloc _).drewN _ | exact h.up (by first | assumption | exact isP_lt (by assumption) | exact kindP_lt (by assumption))) (by first | assumption | exact eq_false_of_ne_true (by assumption))).mono ?_; rintro e w' ⟨rfl, h⟩; have c0 := h.c0; have c1 := h.c1; have f1 := h.fz 1; have c4 := h.c4; have f4 := h.fz 4; have c5 := h.c5) | (go_at_call 47; refine (at_any ok (by first | exact h | exact h.drewN _ | exact h.alloc _ | exact (h.drewN _).alloc _ | exact (h.alloc _).drewN _ | exact h.less | exact (h.less).drewN _ | exact (h.less).alloc _ | exact ((h.less).drewN _).alloc _ | exact ((h.less).alloc _).drewN _ | exact h.up (by first | assumption | exact isP_lt (by assumption) | exact kindP_lt (by assumption)))).mono ?_; rintro e w' ⟨rfl, h⟩; have c0 := h.c0; have c1 := h.c1; have f1 := h.fz 1; have c4 := h.c4; have f4 := h.fz 4; have c5 := h.c5) | (go_at_call 157; refine (G.both (by first | exact h | exact h.drewN _ | exact h.alloc _ | exact (h.drewN _).alloc _ | exact (h.alloc _).drewN _ | exact h.less | exact (h.less).drewN _ | exact (h.less).alloc _ | exact ((h.less).drewN _).alloc _ | exact ((h.less).alloc _).drewN _ | exact h.up (by first | assumption | exact isP_lt (by assumption) | exact kindP_lt (by assumption))) (by assumption)).mono ?_; rintro e w' ⟨rfl, h⟩; have c0 := h.c0; have c1 := h.c1; have f1 := h.fz 1; have c4 := h.c4; have f4 := h.fz 4; have c5 := h.c5) | (go_at_call 51; refine (node_any ok (by first | exact h | exact h.drewN _ | exact h.alloc _ | exact (h.drewN _).alloc _ | exact (h.alloc _).drewN _ | exact h.less | exact (h.less).drewN _ | exact (h.less).alloc _ | exact ((h.less).drewN _).alloc _ | exact ((h.less).alloc _).drewN _ | exact h.up (by first | assumption | exact isP_lt (by assumption) | exact kindP_lt (by assumption))) (by assumption) (by first | exact nil_row _ _ _ | exact new_row h [_] (by simp) | exact new_row h [_, _] (by simp) | exact new_row h [_, _, _] (by simp) | exact krow_drewN (new_row h [_] (by simp)) | exact new_at (h.drewN _) [_] _ (by simp) (by simp) | exact new_at h.less [_] _ (by simp) (by simp) | exact new_at ((h.less).drewN _) [_] _ (by simp) (by simp) | exact krow_drewN (new_row h [_, _] (by simp)) | exact new_at (h.drewN _) [_, _] _ (by simp) (by simp) | exact new_at h.less [_, _] _ (by simp) (by simp) | exact new_at ((h.less).drewN _) [_, _] _ (by simp) (by simp) | exact krow_drewN (new_row h [_, _, _] (by simp)) | exact new_at (h.drewN _) [_, _, _] _ (by simp) (by simp) | exact new_at h.less [_, _, _] _ (by simp) (by simp) | exact new_at ((h.less).drewN _) [_, _, _] _ (by simp) (by simp))).mono ?_; rintro e w' ⟨rfl, h⟩; have c0 := h.c0; have c1 := h.c1; have f1 := h.fz 1; have c4 := h.c4; have f4 := h.fz 4; have c5 := h.c5))
              go_roundw
              case rel => exact ⟨f, _, _, rfl, h, hl⟩
              case measure => have := least_le (P := JnP x L R ⟨#[111, 114]⟩ 32 .both r s' _ _) ⟨_, _, rfl, h, hl⟩; omega
        · rw [if_neg hi] at hl
          cases hl
          go_wp2_with (first | (go_at_call 81; refine (is_yes ok _ (by first | exact h | exact h.drewN _ | exact h.alloc _ | exact (h.drewN _).alloc _ | exact (h.alloc _).drewN _ | exact h.less | exact (h.less).drewN _ | exact (h.less).alloc _ | exact ((h.less).drewN _).alloc _ | exact ((h.less).alloc _).drewN _ | exact h.up (by first | assumption | exact isP_lt (by assumption) | exact kindP_lt (by assumption))) (by assumption)).mono ?_; rintro e w' ⟨rfl, h⟩) | (go_at_call 81; refine (is_no ok _ (by first | exact h | exact h.drewN _ | exact h.alloc _ | exact (h.drewN _).alloc _ | exact (h.alloc _).drewN _ | exact h.less | exact (h.less).drewN _ | exact (h.less).alloc _ | exact ((h.less).drewN _).alloc _ | exact ((h.less).alloc _).drewN _ | exact h.up (by first | assumption | exact isP_lt (by assumption) | exact kindP_lt (by assumption))) (by first | assumption | exact eq_false_of_ne_true (by assumption))).mono ?_; rintro e w' ⟨rfl, h⟩))
          go_ret
          exact ⟨rfl, h⟩
end
end
section
section
variable {x : Cx} {L : List (Nat × Obj)} {s : S} {w : World} {R : Rec} {r : Nat} {s' : S}
set_option maxHeartbeats 4000000 in
set_option maxRecDepth 100000 in
theorem unary_walk (ok : x.Ok) (G : Good x R) (h : PS x L s w) (hr : unaryF x.ts x.fin R s = some (r, s')) : Calls Tryz.prog 154 #[.pointer (some ⟨x.B, 0, none⟩)] w fun e w' => e = .returned (.int .i64 (r : Nat)) ∧ PS x L s' w' := by
  unfold unaryF at hr
  repeat' split at hr
  all_goals (try (cases hr; done))
  all_goals (try cases hr)
  all_goals go_enter Tryz.func154, Tryz.ntmps154
  all_goals go_wp2_with (first | (go_at_call 47; refine (at_any ok (by first | exact h | exact h.drewN _ | exact h.alloc _ | exact (h.drewN _).alloc _ | exact (h.alloc _).drewN _ | exact h.less | exact (h.less).drewN _ | exact (h.less).alloc _ | exact ((h.less).drewN _).alloc _ | exact ((h.less).alloc _).drewN _ | exact h.up (by first | assumption | exact isP_lt (by assumption) | exact kindP_lt (by assumption)))).mono ?_; rintro e w' ⟨rfl, h⟩; have c0 := h.c0; have c1 := h.c1; have f1 := h.fz 1; have c4 := h.c4; have f4 := h.fz 4; have c5 := h.c5) | (go_at_call 46; refine (take_yes ok _ (by first | exact h | exact h.drewN _ | exact h.alloc _ | exact (h.drewN _).alloc _ | exact (h.alloc _).drewN _ | exact h.less | exact (h.less).drewN _ | exact (h.less).alloc _ | exact ((h.less).drewN _).alloc _ | exact ((h.less).alloc _).drewN _ | exact h.up (by first | assumption | exact isP_lt (by assumption) | exact kindP_lt (by assumption))) (by assumption)).mono ?_; rintro e w' ⟨rfl, h⟩; have c0 := h.c0; have c1 := h.c1; have f1 := h.fz 1; have c4 := h.c4; have f4 := h.fz 4; have c5 := h.c5) | (go_at_call 46; refine (take_no ok _ (by first | exact h | exact h.drewN _ | exact h.alloc _ | exact (h.drewN _).alloc _ | exact (h.alloc _).drewN _ | exact h.less | exact (h.less).drewN _ | exact (h.less).alloc _ | exact ((h.less).drewN _).alloc _ | exact ((h.less).alloc _).drewN _ | exact h.up (by first | assumption | exact isP_lt (by assumption) | exact kindP_lt (by assumption))) (by first | assumption | exact eq_false_of_ne_true (by assumption))).mono ?_; rintro e w' ⟨rfl, h⟩; have c0 := h.c0; have c1 := h.c1; have f1 := h.fz 1; have c4 := h.c4; have f4 := h.fz 4; have c5 := h.c5) | (go_at_call 84; refine (down_yes ok (by first | exact h | exact h.drewN _ | exact h.alloc _ | exact (h.drewN _).alloc _ | exact (h.alloc _).drewN _ | exact h.less | exact (h.less).drewN _ | exact (h.less).alloc _ | exact ((h.less).drewN _).alloc _ | exact ((h.less).alloc _).drewN _ | exact h.up (by first | assumption | exact isP_lt (by assumption) | exact kindP_lt (by assumption))) (by assumption)).mono ?_; rintro e w' ⟨rfl, h⟩; have c0 := h.c0; have c1 := h.c1; have f1 := h.fz 1; have c4 := h.c4; have f4 := h.fz 4; have c5 := h.c5) | (go_at_call 84; refine (down_no ok (by first | exact h | exact h.drewN _ | exact h.alloc _ | exact (h.drewN _).alloc _ | exact (h.alloc _).drewN _ | exact h.less | exact (h.less).drewN _ | exact (h.less).alloc _ | exact ((h.less).drewN _).alloc _ | exact ((h.less).alloc _).drewN _ | exact h.up (by first | assumption | exact isP_lt (by assumption) | exact kindP_lt (by assumption))) (by assumption)).mono ?_; rintro e w' ⟨rfl, h⟩; have c0 := h.c0; have c1 := h.c1; have f1 := h.fz 1; have c4 := h.c4; have f4 := h.fz 4; have c5 := h.c5) | (go_at_call 51; refine (node_any ok (by first | exact h | exact h.drewN _ | exact h.alloc _ | exact (h.drewN _).alloc _ | exact (h.alloc _).drewN _ | exact h.less | exact (h.less).drewN _ | exact (h.less).alloc _ | exact ((h.less).drewN _).alloc _ | exact ((h.less).alloc _).drewN _ | exact h.up (by first | assumption | exact isP_lt (by assumption) | exact kindP_lt (by assumption))) (by assumption) (by first | exact nil_row _ _ _ | exact new_row h [_] (by simp) | exact new_row h [_, _] (by simp) | exact new_row h [_, _, _] (by simp) | exact krow_drewN (new_row h [_] (by simp)) | exact new_at (h.drewN _) [_] _ (by simp) (by simp) | exact new_at h.less [_] _ (by simp) (by simp) | exact new_at ((h.less).drewN _) [_] _ (by simp) (by simp) | exact krow_drewN (new_row h [_, _] (by simp)) | exact new_at (h.drewN _) [_, _] _ (by simp) (by simp) | exact new_at h.less [_, _] _ (by simp) (by simp) | exact new_at ((h.less).drewN _) [_, _] _ (by simp) (by simp) | exact krow_drewN (new_row h [_, _, _] (by simp)) | exact new_at (h.drewN _) [_, _, _] _ (by simp) (by simp) | exact new_at h.less [_, _, _] _ (by simp) (by simp) | exact new_at ((h.less).drewN _) [_, _, _] _ (by simp) (by simp))).mono ?_; rintro e w' ⟨rfl, h⟩; have c0 := h.c0; have c1 := h.c1; have f1 := h.fz 1; have c4 := h.c4; have f4 := h.fz 4; have c5 := h.c5) | (go_at_call 154; refine (G.unary (by first | exact h | exact h.drewN _ | exact h.alloc _ | exact (h.drewN _).alloc _ | exact (h.alloc _).drewN _ | exact h.less | exact (h.less).drewN _ | exact (h.less).alloc _ | exact ((h.less).drewN _).alloc _ | exact ((h.less).alloc _).drewN _ | exact h.up (by first | assumption | exact isP_lt (by assumption) | exact kindP_lt (by assumption))) (by assumption)).mono ?_; rintro e w' ⟨rfl, h⟩; have c0 := h.c0; have c1 := h.c1; have f1 := h.fz 1; have c4 := h.c4; have f4 := h.fz 4; have c5 := h.c5) | (go_at_call 169; refine (G.primary (by first | exact h | exact h.drewN _ | exact h.alloc _ | exact (h.drewN _).alloc _ | exact (h.alloc _).drewN _ | exact h.less | exact (h.less).drewN _ | exact (h.less).alloc _ | exact ((h.less).drewN _).alloc _ | exact ((h.less).alloc _).drewN _ | exact h.up (by first | assumption | exact isP_lt (by assumption) | exact kindP_lt (by assumption))) (by assumption)).mono ?_; rintro e w' ⟨rfl, h⟩; have c0 := h.c0; have c1 := h.c1; have f1 := h.fz 1; have c4 := h.c4; have f4 := h.fz 4; have c5 := h.c5))
  all_goals first | (go_ret; exact ⟨rfl, h⟩) | trace_state
set_option maxHeartbeats 4000000 in
set_option maxRecDepth 100000 in
theorem use_any (ok : x.Ok) (h : PS x L s w) (hr : useF x.ts x.fin s = some (r, s')) : Calls Tryz.prog 151 #[.pointer (some ⟨x.B, 0, none⟩)] w fun e w' => e = .returned (.int .i64 (r : Nat)) ∧ PS x L s' w' := by
  unfold useF at hr
  repeat' split at hr
  all_goals (try (cases hr; done))
  all_goals (try cases hr)
  all_goals go_enter Tryz.func151, Tryz.ntmps151
  all_goals go_wp2_with (first | (go_at_call 47; refine (at_any ok (by first | exact h | exact h.drewN _ | exact h.alloc _ | exact (h.drewN _).alloc _ | exact (h.alloc _).drewN _ | exact h.less | exact (h.less).drewN _ | exact (h.less).alloc _ | exact ((h.less).drewN _).alloc _ | exact ((h.less).alloc _).drewN _ | exact h.up (by first | assumption | exact isP_lt (by assumption) | exact kindP_lt (by assumption)))).mono ?_; rintro e w' ⟨rfl, h⟩) | (go_at_call 48; refine (name_any ok (by first | exact h | exact h.drewN _ | exact h.alloc _ | exact (h.drewN _).alloc _ | exact (h.alloc _).drewN _ | exact h.less | exact (h.less).drewN _ | exact (h.less).alloc _ | exact ((h.less).drewN _).alloc _ | exact ((h.less).alloc _).drewN _ | exact h.up (by first | assumption | exact isP_lt (by assumption) | exact kindP_lt (by assumption)))).mono ?_; rintro e w' ⟨rfl, h⟩) | (go_at_call 51; refine (node_any ok (by first | exact h | exact h.drewN _ | exact h.alloc _ | exact (h.drewN _).alloc _ | exact (h.alloc _).drewN _ | exact h.less | exact (h.less).drewN _ | exact (h.less).alloc _ | exact ((h.less).drewN _).alloc _ | exact ((h.less).alloc _).drewN _ | exact h.up (by first | assumption | exact isP_lt (by assumption) | exact kindP_lt (by assumption))) (by assumption) (by first | exact nil_row _ _ _ | exact new_row h [_] (by simp) | exact new_row h [_, _] (by simp) | exact new_row h [_, _, _] (by simp) | exact krow_drewN (new_row h [_] (by simp)) | exact new_at (h.drewN _) [_] _ (by simp) (by simp) | exact new_at h.less [_] _ (by simp) (by simp) | exact new_at ((h.less).drewN _) [_] _ (by simp) (by simp) | exact krow_drewN (new_row h [_, _] (by simp)) | exact new_at (h.drewN _) [_, _] _ (by simp) (by simp) | exact new_at h.less [_, _] _ (by simp) (by simp) | exact new_at ((h.less).drewN _) [_, _] _ (by simp) (by simp) | exact krow_drewN (new_row h [_, _, _] (by simp)) | exact new_at (h.drewN _) [_, _, _] _ (by simp) (by simp) | exact new_at h.less [_, _, _] _ (by simp) (by simp) | exact new_at ((h.less).drewN _) [_, _, _] _ (by simp) (by simp))).mono ?_; rintro e w' ⟨rfl, h⟩))
  all_goals first | (go_ret; exact ⟨rfl, h⟩) | trace_state
end
end
section
/-- A block of so many cells begins with these numbers. -/
structure Kd (l : List Nat) (cap : Nat) (cur : Array Value) : Prop where
  le : l.length ≤ cap
  max : cap ≤ maxLen
  size : cur.size = cap
  take : cur.toList.take l.length = ints l
theorem Kd.none : Kd [] 0 #[] := ⟨Nat.le_refl _, by unfold maxLen; omega, rfl, rfl⟩
theorem Kd.one (y : Nat) : Kd [y] 1 #[.int .i64 (y : Nat)] := ⟨Nat.le_refl _, by unfold maxLen; omega, rfl, rfl⟩
theorem infoInt : (Tryz.prog.info? 3).map (fun i => (i.zero, i.size, i.bytes)) = some (some (.int .i64 0), 1, 8) := by kernel_rfl
theorem one_int (y : Nat) : ∀ u ∈ [Value.int .i64 (y : Nat)], u.oneCell' = true := by
  intro u hu
  obtain rfl := List.mem_singleton.1 hu
  rfl
section
variable {x : Cx} {L : List (Nat × Obj)} {s : S} {w : World} {g cap : Nat} {cur : Array Value} {l : List Nat}
theorem PS.kd (h : PS x ((g, .cells cur 3) :: L) s w) (hK : Kd l cap cur) : KRow x L w (.slice (some ⟨g, 0, none⟩) l.length cap) l := h.krow hK.le hK.max hK.size hK.take
theorem kids_push {w2 : World} {v' : Value} (h : PS x ((g, .cells cur 3) :: L) s w) (y : Nat) (hown : w2.ownsRow (x.B + 1) 3 1 v' (l.length + 1) (ints l ++ [.int .i64 (y : Nat)])) (hg : w.grownBy w2 (some g)) (hat : v'.ownBlock = some g ∨ v'.ownBlock = some w.heap.size) (hnil : (v' = .slice none 0 0 ↔ Value.slice (some ⟨g, 0, none⟩) l.length cap = .slice none 0 0 ∧ 1 = 0)) :
    ∃ g' cap' cur', v' = .slice (some ⟨g', 0, none⟩) (l.length + 1) cap' ∧ PS x ((g', .cells cur' 3) :: L) s w2 ∧ Kd (l ++ [y]) cap' cur' := by
  rcases hown.2 with ⟨e, _⟩ | ⟨g', cap', cur', e, hgg, hh, h1, h2, h3, h4⟩
  · have := (hnil.1 e).2
    omega
  · subst e
    refine ⟨g', cap', cur', rfl, h.regrow hg hat hh, ⟨by simpa using h1, h2, by simpa using h3, ?_⟩⟩
    have : ints (l ++ [y]) = ints l ++ [.int .i64 (y : Nat)] := by simp [ints]
    rw [this]
    simpa using h4
end
end
end Go.Proofs.YtjikjejfobnfnaaGreatDoor.par
