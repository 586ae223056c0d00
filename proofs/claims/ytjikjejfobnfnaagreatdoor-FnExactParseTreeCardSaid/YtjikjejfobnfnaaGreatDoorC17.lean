/-
  The program's reader of programs: where it lies, what it has read, and its pieces.
  The program's reader: the next token, and whether it is a certain one.
  The program's reader: its short rules.
  The program's reader: heads of pieces.
-/
import Derived.Test.YtjikjejfobnfnaaGreatDoorC16
import Derived.Laws.EntriesVeiled
import Derived.Deep.RegionWith
namespace Go.Proofs.YtjikjejfobnfnaaGreatDoor.imp
open Go.RowKit Go.Proofs.YtjikjejfobnfnaaGreatDoor.num Go.Proofs.YtjikjejfobnfnaaGreatDoor.lex Go.Proofs.YtjikjejfobnfnaaGreatDoor.par
set_option linter.unusedVariables false
section
/-- What a piece says of itself. -/
structure Hd where
  kind : Int
  pos : Int
  num : Int
  name : ByteArray
/-- A piece: its type, its head, the pieces below it. -/
inductive P where
  | nil : P
  | node (ty : Nat) (h : Hd) (ks : List P) : P
def Hd.cells (h : Hd) : List Value := [.int .i64 h.kind, .int .i64 h.pos, .int .i64 h.num, .string h.name]
/-- Where the reader stands: the next token, the depth, the fault and its place. -/
structure T where
  n : Int
  d : Int
  c : Int
  a : Int
def errV (s : T) : Value := if s.c = 0 then .nilIface else .iface 77 (.agg #[.int .i64 s.c, .int .i64 s.a])
/-- The reader of a level's terms, as a value. -/
def lvl (B : Nat) : Nat → Value
  | 0 => .func (Fn.func 58) #[.pointer (some ⟨B, 0, none⟩)] #[]
  | k + 1 => .func (Fn.func 59) #[.agg #[.pointer (some ⟨B, 0, none⟩), .int .i64 (6 - k : Int), lvl B k]] #[]
/-- The reader's cells. -/
def rdI (x : Cx) (s : T) : Array Value := #[.slice x.ta x.ts.length x.tc, .int .i64 s.n, .int .i64 x.fin, .int .i64 s.d, errV s, .nilFunc, lvl x.B 6, lvl x.B 5, lvl x.B 4, lvl x.B 3, lvl x.B 2, lvl x.B 1, lvl x.B 0]
/-- A row of one's own, in none of the blocks of L, of which the cells are told. -/
structure ORow (x : Cx) (L : List (Nat × Obj)) (w : World) (e : TypeId) (size : Nat) (v : Value) (n : Nat) (vs : List Value) : Prop where
  row : w.ownsRow (x.B + 1) e size v n vs
  apart : ∀ b o, (b, o) ∈ L → v.ownBlock ≠ some b
/-- A block of statements: its head, its slice, its pieces, their values. -/
structure Bk where
  h : Hd
  v : Value
  ps : List P
  vs : List Value
def Bk.cells (b : Bk) : List Value := b.h.cells ++ [b.v]
/-- The types of pieces by what is below them. -/
def leafT : List Nat := [130, 132, 133, 199, 208, 198, 200, 201, 203, 193, 216, 219]
def oneT : List Nat := [202, 164, 194, 207, 213, 215, 217, 218, 220]
def twoT : List Nat := [169, 191, 196, 197, 214]
/-- A value is a piece. -/
inductive IsPart (x : Cx) (L : List (Nat × Obj)) (w : World) : Value → P → Prop where
  | nil : IsPart x L w .nilIface .nil
  | leaf (ty : Nat) (h : Hd) (ht : leafT.contains ty = true := by decide) : IsPart x L w (.iface ty (.agg h.cells.toArray)) (.node ty h [])
  | one (ty : Nat) (h : Hd) {v : Value} {p : P} (h1 : IsPart x L w v p) (ht : oneT.contains ty = true := by decide) : IsPart x L w (.iface ty (.agg (h.cells ++ [v]).toArray)) (.node ty h [p])
  | two (ty : Nat) (h : Hd) {v1 v2 : Value} {p1 p2 : P} (h1 : IsPart x L w v1 p1) (h2 : IsPart x L w v2 p2) (ht : twoT.contains ty = true := by decide) : IsPart x L w (.iface ty (.agg (h.cells ++ [v1, v2]).toArray)) (.node ty h [p1, p2])
  | addr (h u : Hd) {v : Value} {p : P} : IsPart x L w v p → IsPart x L w (.iface 210 (.agg (h.cells ++ u.cells ++ [v]).toArray)) (.node 210 h [.node 208 u [], p])
  | call (h u : Hd) {v : Value} {ps : List P} {vs : List Value} : ORow x L w 85 1 v ps.length vs → (∀ (i : Nat) (y : Value) (p : P), vs[i]? = some y → ps[i]? = some p → IsPart x L w y p) →
      IsPart x L w (.iface 212 (.agg (h.cells ++ u.cells ++ [v]).toArray)) (.node 212 h (.node 208 u [] :: ps))
  | whl (h : Hd) (b : Bk) {v : Value} {p : P} : IsPart x L w v p → ORow x L w 85 1 b.v b.ps.length b.vs → (∀ (i : Nat) (y : Value) (p : P), b.vs[i]? = some y → b.ps[i]? = some p → IsPart x L w y p) →
      IsPart x L w (.iface 144 (.agg (h.cells ++ [v] ++ b.cells).toArray)) (.node 144 h [p, .node 134 b.h b.ps])
  | loop (h : Hd) (b : Bk) {v1 v2 : Value} {p1 p2 : P} : IsPart x L w v1 p1 → IsPart x L w v2 p2 → ORow x L w 85 1 b.v b.ps.length b.vs → (∀ (i : Nat) (y : Value) (p : P), b.vs[i]? = some y → b.ps[i]? = some p → IsPart x L w y p) →
      IsPart x L w (.iface 146 (.agg (h.cells ++ [v1, v2] ++ b.cells).toArray)) (.node 146 h [p1, p2, .node 134 b.h b.ps])
  | ife (h : Hd) (bs : List Bk) {v u : Value} {p : P} : IsPart x L w v p → ORow x L w 134 5 u bs.length (bs.flatMap Bk.cells) → (∀ b ∈ bs, ORow x L w 85 1 b.v b.ps.length b.vs) → (∀ b ∈ bs, ∀ (i : Nat) (y : Value) (p : P), b.vs[i]? = some y → b.ps[i]? = some p → IsPart x L w y p) →
      IsPart x L w (.iface 141 (.agg (h.cells ++ [v, u]).toArray)) (.node 141 h (p :: bs.map fun b => .node 134 b.h b.ps))
  | func (h : Hd) (b : Bk) {v1 v2 : Value} {ps ls : List P} {vs us : List Value} : ORow x L w 85 1 v1 ps.length vs → (∀ (i : Nat) (y : Value) (p : P), vs[i]? = some y → ps[i]? = some p → IsPart x L w y p) →
      ORow x L w 85 1 v2 ls.length us → (∀ (i : Nat) (y : Value) (p : P), us[i]? = some y → ls[i]? = some p → IsPart x L w y p) → ORow x L w 85 1 b.v b.ps.length b.vs → (∀ (i : Nat) (y : Value) (p : P), b.vs[i]? = some y → b.ps[i]? = some p → IsPart x L w y p) →
      IsPart x L w (.iface 136 (.agg (h.cells ++ [v1, v2] ++ b.cells).toArray)) (.node 136 h (ps ++ ls ++ [.node 134 b.h b.ps]))
theorem ORow.of_block {x : Cx} {L L' : List (Nat × Obj)} {w w' : World} {e : TypeId} {size : Nat} {v : Value} {n : Nat} {vs : List Value} (h : ORow x L w e size v n vs)
    (hk : ∀ (b : Nat) (o : Obj), w.heap[b]? = some o → x.B < b → (∀ o', (b, o') ∉ L) → w'.heap[b]? = some o ∧ ∀ o', (b, o') ∉ L') : ORow x L' w' e size v n vs := by
  rcases h.row.2 with h2 | ⟨g, cap, cur, hv, hg, hh, r⟩
  · exact ⟨⟨h.row.1, .inl h2⟩, fun b o hm e => by rw [h2.1] at e; cases e⟩
  · have k := hk g _ hh (by omega) (fun o' hin => h.apart g o' hin (by rw [hv]; rfl))
    exact ⟨⟨h.row.1, .inr ⟨g, cap, cur, hv, hg, k.1, r⟩⟩, fun b o hm e => by rw [hv] at e; cases e; exact k.2 o hm⟩
/-- A piece stays one where its blocks stay, and stays apart. -/
theorem IsPart.of_blocks {x : Cx} {L L' : List (Nat × Obj)} {w w' : World} {v : Value} {p : P} (h : IsPart x L w v p)
    (hk : ∀ (b : Nat) (o : Obj), w.heap[b]? = some o → x.B < b → (∀ o', (b, o') ∉ L) → w'.heap[b]? = some o ∧ ∀ o', (b, o') ∉ L') : IsPart x L' w' v p := by
  induction h with
  | nil => exact .nil
  | leaf ty h ht => exact .leaf ty h ht
  | one ty h _ ht ih => exact .one ty h ih ht
  | two ty h _ _ ht i1 i2 => exact .two ty h i1 i2 ht
  | addr h u _ ih => exact .addr h u ih
  | call h u hr _ ih => exact .call h u (hr.of_block hk) ih
  | whl h b _ hr _ i1 ih => exact .whl h b i1 (hr.of_block hk) ih
  | loop h b _ _ hr _ i1 i2 ih => exact .loop h b i1 i2 (hr.of_block hk) ih
  | ife h bs _ hr hb _ i1 ih => exact .ife h bs i1 (hr.of_block hk) (fun b hm => (hb b hm).of_block hk) ih
  | func h b r1 _ r2 _ r3 _ i1 i2 i3 => exact .func h b (r1.of_block hk) i1 (r2.of_block hk) i2 (r3.of_block hk) i3
/-- The reader stands in a state; Q: values that are pieces; L: blocks that stay as they are. -/
structure PT (x : Cx) (Q : List (Value × P)) (L : List (Nat × Obj)) (s : T) (w : World) : Prop where
  le : s.c = 0 → 0 ≤ s.n ∧ s.n ≤ x.ts.length
  blk : w.heap[x.B]? = some (.cells (rdI x s) 108)
  q : ∀ v p, (v, p) ∈ Q → IsPart x L w v p
  keep : ∀ b o, (b, o) ∈ L → x.B < b ∧ w.heap[b]? = some o
  nd : (L.map (·.1)).Nodup
  bel : Below x.B x.W w
section
variable {x : Cx} {Q : List (Value × P)} {L : List (Nat × Obj)} {s s' : T} {w w' : World}
theorem PT.grow (h : PT x Q L s w) (hb : Below w.heap.size w w') : PT x Q L s w' := by
  have lift : ∀ (b : Nat) (o : Obj), w.heap[b]? = some o → w'.heap[b]? = some o := fun b o hbo => (hb.block b (Array.getElem?_eq_some_iff.1 hbo).1).trans hbo
  exact ⟨h.le, lift _ _ h.blk, fun v p hm => (h.q v p hm).of_blocks fun b o hbo _ hn => ⟨lift b o hbo, hn⟩, fun b o hm => ⟨(h.keep b o hm).1, lift _ _ (h.keep b o hm).2⟩, h.nd, h.bel.trans (hb.mono (Nat.le_of_lt (Array.getElem?_eq_some_iff.1 h.blk).1))⟩
theorem PT.alloc (h : PT x Q L s w) (o : Obj) : PT x Q L s (w.alloc o) := h.grow ((Below.refl _ _).alloc (Nat.le_refl _) o)
theorem PT.drewN (h : PT x Q L s w) (n : Nat) : PT x Q L s (w.drewN n) :=
  ⟨h.le, h.blk, fun v p hm => (h.q v p hm).of_blocks fun b o hbo _ hn => ⟨hbo, hn⟩, h.keep, h.nd, ⟨h.bel.os, h.bel.tape, h.bel.output, h.bel.size, h.bel.block⟩⟩
theorem PT.drew (h : PT x Q L s w) : PT x Q L s w.drew := h.drewN 1
theorem PT.set (h : PT x Q L s w) (i : Nat) (v : Value) (hle : s'.c = 0 → 0 ≤ s'.n ∧ s'.n ≤ x.ts.length) (hc : (rdI x s).setIfInBounds i v = rdI x s') : PT x Q L s' (w.setCell ⟨x.B, i, none⟩ v) :=
  ⟨hle, by rw [← hc]; exact at_same h.blk, fun v p hm => (h.q v p hm).of_blocks fun b o hbo hlt hn => ⟨at_other hbo (by omega), hn⟩, fun b o hm => ⟨(h.keep b o hm).1, at_other (h.keep b o hm).2 (by have := (h.keep b o hm).1; omega)⟩, h.nd, h.bel.setCell (p := ⟨x.B, i, none⟩) (Nat.le_refl _) _⟩
theorem PT.c0 (h : PT x Q L s w) : w.cell? ⟨x.B, 0, none⟩ = some (.slice x.ta x.ts.length x.tc) := cell_of h.blk rfl
theorem PT.c1 (h : PT x Q L s w) : w.cell? ⟨x.B, 1, none⟩ = some (.int .i64 s.n) := cell_of h.blk rfl
theorem PT.c2 (h : PT x Q L s w) : w.cell? ⟨x.B, 2, none⟩ = some (.int .i64 x.fin) := cell_of h.blk rfl
theorem PT.c3 (h : PT x Q L s w) : w.cell? ⟨x.B, 3, none⟩ = some (.int .i64 s.d) := cell_of h.blk rfl
theorem PT.c4 (h : PT x Q L s w) : w.cell? ⟨x.B, 4, none⟩ = some (errV s) := cell_of h.blk rfl
theorem PT.fz (h : PT x Q L s w) (i : Nat) : w.frozen? ⟨x.B, i, none⟩ = false := frozen_of h.blk
theorem PT.size (h : PT x Q L s w) : x.B < w.heap.size := (Array.getElem?_eq_some_iff.1 h.blk).1
theorem PT.tok (h : PT x Q L s w) (ok : x.Ok) {j : Nat} {t : Tok} (ht : x.ts[j]? = some t) : ∃ g, x.ta = some ⟨g, 0, none⟩ ∧ g < x.B ∧ w.cell? ⟨g, j * 4, none⟩ = some (.int .i64 t.kind) ∧ w.cell? ⟨g, j * 4 + 1, none⟩ = some (.int .i64 t.pos) ∧ w.cell? ⟨g, j * 4 + 2, none⟩ = some (.string t.text) ∧ w.cell? ⟨g, j * 4 + 3, none⟩ = some (.int .i64 t.num) := by
  obtain ⟨g, e, hg, a0, a1, a2, a3⟩ := ok.tok j t ht
  exact ⟨g, e, hg, (h.bel.cell hg).trans a0, (h.bel.cell hg).trans a1, (h.bel.cell hg).trans a2, (h.bel.cell hg).trans a3⟩
theorem PT.drop {p : Nat × Obj} (h : PT x Q (p :: L) s w) : PT x Q L s w :=
  ⟨h.le, h.blk, fun v q hm => (h.q v q hm).of_blocks fun b o hbo _ hn => ⟨hbo, fun o' hin => hn o' (List.mem_cons_of_mem _ hin)⟩, fun b o hm => h.keep b o (List.mem_cons_of_mem _ hm), (List.nodup_cons.1 h.nd).2, h.bel⟩
theorem PT.lose {q : Value × P} (h : PT x (q :: Q) L s w) : PT x Q L s w := ⟨h.le, h.blk, fun v p hm => h.q v p (List.mem_cons_of_mem _ hm), h.keep, h.nd, h.bel⟩
theorem PT.hold (h : PT x Q L s w) (o : Obj) : PT x Q ((w.heap.size, o) :: L) s (w.alloc o) := by
  have k := h.alloc o
  refine ⟨k.le, k.blk, fun v p hm => (h.q v p hm).of_blocks fun b o' hbo _ hn => ⟨at_alloc hbo, fun o2 hin => ?_⟩, fun b o' hm => ?_, ?_, k.bel⟩
  · rcases List.mem_cons.1 hin with e | hin
    · cases e
      exact Nat.lt_irrefl _ (Array.getElem?_eq_some_iff.1 hbo).1
    · exact hn o2 hin
  · rcases List.mem_cons.1 hm with e | hm
    · cases e
      exact ⟨h.size, one_first _ _⟩
    · exact k.keep b o' hm
  · refine List.nodup_cons.2 ⟨fun hm => ?_, h.nd⟩
    obtain ⟨⟨b, o'⟩, hm, e⟩ := List.mem_map.1 hm
    have := (Array.getElem?_eq_some_iff.1 (h.keep b o' hm).2).1
    simp at e
    omega
theorem PT.turn {b : Nat} {cs : Array Value} {t : TypeId} (h : PT x Q ((b, .cells cs t) :: L) s w) (i : Nat) (v : Value) : PT x Q ((b, .cells (cs.setIfInBounds i v) t) :: L) s (w.setCell ⟨b, i, none⟩ v) := by
  have hb := h.keep b _ (by simp : (b, Obj.cells cs t) ∈ (b, .cells cs t) :: L)
  have hnd : ∀ b' o', (b', o') ∈ L → b' ≠ b := fun b' o' hin e => (List.nodup_cons.1 h.nd).1 (List.mem_map.2 ⟨_, hin, e⟩)
  refine ⟨h.le, at_other h.blk (by omega), fun u p hm => (h.q u p hm).of_blocks fun g o hgo _ hn => ⟨at_other hgo (fun e => hn (Obj.cells cs t) (by subst e; simp)), fun o2 hin => ?_⟩, fun b' o' hm => ?_, ?_, h.bel.setCell (p := ⟨b, i, none⟩) (by exact Nat.le_of_lt hb.1) _⟩
  · rcases List.mem_cons.1 hin with e | hin
    · cases e
      exact hn (Obj.cells cs t) (by simp)
    · exact hn o2 (List.mem_cons_of_mem _ hin)
  · rcases List.mem_cons.1 hm with e | hm
    · cases e
      exact ⟨hb.1, at_same hb.2⟩
    · have := h.keep b' o' (List.mem_cons_of_mem _ hm)
      exact ⟨this.1, at_other this.2 (hnd b' o' hm)⟩
  · have nd := h.nd
    simpa using nd
/-- A struct of four cells that is held is filled. -/
theorem PT.put4 {b : Nat} {a0 a1 a2 a3 : Value} {t : TypeId} (h : PT x Q ((b, .cells #[a0, a1, a2, a3] t) :: L) s w) (v0 v1 v2 v3 : Value) :
    PT x Q ((b, .cells #[v0, v1, v2, v3] t) :: L) s ((((w.setCell ⟨b, 0, none⟩ v0).setCell ⟨b, 1, none⟩ v1).setCell ⟨b, 2, none⟩ v2).setCell ⟨b, 3, none⟩ v3) := by
  have := (((h.turn 0 v0).turn 1 v1).turn 2 v2).turn 3 v3
  simpa using this
theorem PT.four {b : Nat} {a0 a1 a2 a3 : Value} {t : TypeId} (h : PT x Q ((b, .cells #[a0, a1, a2, a3] t) :: L) s w) : w.cell? ⟨b, 0, none⟩ = some a0 ∧ w.cell? ⟨b, 1, none⟩ = some a1 ∧ w.cell? ⟨b, 2, none⟩ = some a2 ∧ w.cell? ⟨b, 3, none⟩ = some a3 ∧ w.frozen? ⟨b, 0, none⟩ = false ∧ w.frozen? ⟨b, 1, none⟩ = false ∧ w.frozen? ⟨b, 2, none⟩ = false ∧ w.frozen? ⟨b, 3, none⟩ = false :=
  have k := (h.keep b _ (by simp : (b, Obj.cells #[a0, a1, a2, a3] t) ∈ (b, Obj.cells #[a0, a1, a2, a3] t) :: L)).2
  ⟨cell_of k rfl, cell_of k rfl, cell_of k rfl, cell_of k rfl, frozen_of k, frozen_of k, frozen_of k, frozen_of k⟩
theorem PT.head {b : Nat} {o : Obj} (h : PT x Q ((b, o) :: L) s w) : w.heap[b]? = some o := (h.keep b _ (by simp : (b, o) ∈ (b, o) :: L)).2
end
end
section
/-- The token behind so many others. -/
def tokA (ts : List Tok) (fin : Int) (s : T) (k : Nat) : Tok := if s.c = 0 then (ts[(s.n + k).toNat]?).getD ⟨0, fin, ⟨#[]⟩, 0⟩ else ⟨0, fin, ⟨#[]⟩, 0⟩
def tokT (ts : List Tok) (fin : Int) (s : T) : Tok := tokA ts fin s 0
def upT (s : T) : T := ⟨wrap64 (s.n + 1), s.d, s.c, s.a⟩
def failT (ts : List Tok) (fin : Int) (s : T) (code : Int) : T := if s.c = 0 then ⟨s.n, s.d, code, (tokT ts fin s).pos⟩ else s
section
variable {x : Cx} {Q : List (Value × P)} {L : List (Nat × Obj)} {s s' : T} {w w' : World}
theorem errV_nil (h : s.c = 0) : errV s = .nilIface := by simp [errV, h]
theorem errV_some (h : ¬ s.c = 0) : errV s = .iface 77 (.agg #[.int .i64 s.c, .int .i64 s.a]) := by simp [errV, h]
theorem results_cell1 {P : Program} {fn : Func} {p : Tmp} {ty : TypeId} (h : fn.results = #[.cell p ty]) (tmps : Array Value) (w : World) (g : Nat) (t : TypeId) (cs : Array Value) (fr : Nat × Nat) (d : TypeDesc)
    (hp : tmps.getD p undef = .pointer (some ⟨g, 0, none⟩)) (hg : w.heap[g]? = some (.cells cs t fr))
    (hu : P.underlying ty = some d) (hd : (match d with | .struct _ | .array _ _ => true | _ => false) = true) (hi : (P.info? ty).map (·.size) = some cs.size) :
    (results fn tmps).run P w = .ok (.agg cs) w := by
  have hp' : tmps[p]?.getD undef = .pointer (some ⟨g, 0, none⟩) := by simpa using hp
  simp [results, h, hp', asAddr, run_loadVar_row w g t ty cs fr d hg hu hd hi]
theorem at_drewN {w : World} {b n : Nat} {o : Obj} (h : w.heap[b]? = some o) : (w.drewN n).heap[b]? = some o := h
theorem below_tmp4 (w : World) (o : Obj) (k : Nat) (a b c d : Value) : Below w.heap.size w ((((((w.alloc o).drewN k).setCell ⟨w.heap.size, 0, none⟩ a).setCell ⟨w.heap.size, 1, none⟩ b).setCell ⟨w.heap.size, 2, none⟩ c).setCell ⟨w.heap.size, 3, none⟩ d) := by
  have b0 : Below w.heap.size w ((w.alloc o).drewN k) := by
    have := (Below.refl w.heap.size w).alloc (Nat.le_refl _) o
    exact ⟨this.os, this.tape, this.output, this.size, this.block⟩
  exact (((b0.setCell (p := ⟨w.heap.size, 0, none⟩) (Nat.le_refl _) _).setCell (p := ⟨w.heap.size, 1, none⟩) (Nat.le_refl _) _).setCell (p := ⟨w.heap.size, 2, none⟩) (Nat.le_refl _) _).setCell (p := ⟨w.heap.size, 3, none⟩) (Nat.le_refl _) _
theorem nilE (w : World) : (binOp BinOp.neq 48 .nilIface .nilIface).run Tryz.prog w = .ok (.bool false) w := by kernel_rfl
theorem someE (c a : Int) (w : World) : (binOp BinOp.neq 48 (.iface 77 (.agg #[.int .i64 c, .int .i64 a])) .nilIface).run Tryz.prog w = .ok (.bool true) w := by kernel_rfl
theorem nilQ (w : World) : (binOp BinOp.eql 48 .nilIface .nilIface).run Tryz.prog w = .ok (.bool true) w := by kernel_rfl
theorem someQ (c a : Int) (w : World) : (binOp BinOp.eql 48 (.iface 77 (.agg #[.int .i64 c, .int .i64 a])) .nilIface).run Tryz.prog w = .ok (.bool false) w := by kernel_rfl
set_option maxHeartbeats 1000000 in
set_option maxRecDepth 100000 in
theorem ahead_any (ok : x.Ok) (k : Nat) (hk : k ≤ 1) (h : PT x Q L s w) : Calls Tryz.prog 103 #[.pointer (some ⟨x.B, 0, none⟩), .int .i64 (k : Nat)] w fun e w' => e = .returned (tokA x.ts x.fin s k).val ∧ PT x Q L s w' := by
  have c0 := h.c0
  have c1 := h.c1
  have c2 := h.c2
  have c4 := h.c4
  have l1 := ok.len
  have l2 := ok.cap
  have hsz := h.size
  have b1 := nilE
  have b2 := someE s.c s.a
  by_cases hc : s.c = 0
  · rw [errV_nil hc] at c4
    obtain ⟨n0, n1⟩ := h.le hc
    obtain ⟨j, hj⟩ := Int.eq_ofNat_of_zero_le n0
    obtain ⟨i, hi⟩ : ∃ i, i = j + k := ⟨_, rfl⟩
    have hw : IntKind.i64.wrap ((j : Int) + (k : Int)) = (i : Int) := (IntWalk.i64_in _ ⟨by omega, by omega⟩).trans (by omega)
    have et : tokA x.ts x.fin s k = (x.ts[i]?).getD ⟨0, x.fin, ⟨#[]⟩, 0⟩ := by
      rw [tokA, if_pos hc]
      have : (s.n + k).toNat = i := by omega
      rw [this]
    rw [et]
    rw [hj] at c1
    clear et n0 n1
    by_cases hp : i < x.ts.length
    · obtain ⟨t, ht⟩ : ∃ t, x.ts[i]? = some t := ⟨_, List.getElem?_eq_getElem hp⟩
      obtain ⟨g, e, hg, a0, a1, a2, a3⟩ := h.tok ok ht
      rw [e] at c0
      have hgs : g < w.heap.size := by omega
      rw [ht, Option.getD_some]
      clear hi
      go_enter Tryz.func103, Tryz.ntmps103
      go_wp2
      go_quiet (fail)
      go_wp2
      go_region_law (fail)
      all_goals go_wp2
      all_goals (try simp only [Exit.inBlock, Exit.then])
      all_goals refine bodyPost_ret (results_cell1 rfl _ _ w.heap.size 93 _ (0, 0) _ rfl (at_same (at_same (at_same (at_same (at_drewN (one_first _ _)))))) Tryz.underlying93 rfl (by kernel_rfl)) rfl ?_
      all_goals exact ⟨rfl, h.grow (below_tmp4 _ _ _ _ _ _ _)⟩
    · rw [List.getElem?_eq_none (by omega : x.ts.length ≤ i), Option.getD_none]
      clear hi
      go_enter Tryz.func103, Tryz.ntmps103
      go_wp2
      repeat (go_quiet (fail); go_wp2)
      (try simp only [Exit.inBlock, Exit.then])
      refine bodyPost_ret (results_cell1 rfl _ _ w.heap.size 93 _ (0, 0) _ rfl (at_same (at_same (at_same (at_same (at_drewN (one_first _ _)))))) Tryz.underlying93 rfl (by kernel_rfl)) rfl ?_
      exact ⟨rfl, h.grow (below_tmp4 _ _ _ _ _ _ _)⟩
  · rw [errV_some hc] at c4
    rw [tokA, if_neg hc]
    go_enter Tryz.func103, Tryz.ntmps103
    go_wp2
    repeat (go_quiet (fail); go_wp2)
    (try simp only [Exit.inBlock, Exit.then])
    refine bodyPost_ret (results_cell1 rfl _ _ w.heap.size 93 _ (0, 0) _ rfl (at_same (at_same (at_same (at_same (at_drewN (one_first _ _)))))) Tryz.underlying93 rfl (by kernel_rfl)) rfl ?_
    exact ⟨rfl, h.grow (below_tmp4 _ _ _ _ _ _ _)⟩
set_option maxRecDepth 100000 in
theorem token_any (ok : x.Ok) (h : PT x Q L s w) : Calls Tryz.prog 60 #[.pointer (some ⟨x.B, 0, none⟩)] w fun e w' => e = .returned (tokT x.ts x.fin s).val ∧ PT x Q L s w' := by
  have hsz := h.size
  have ha := fun h => ahead_any (Q := Q) (L := (w.heap.size, .cells #[.int .i64 0, .int .i64 0, .string ⟨#[]⟩, .int .i64 0] 93) :: L) (s := s) (w := w.alloc (.cells #[.int .i64 0, .int .i64 0, .string ⟨#[]⟩, .int .i64 0] 93)) ok 0 (by omega) h
  unfold tokT
  generalize tokA x.ts x.fin s 0 = t at *
  obtain ⟨tk, tp, tx, tn⟩ := t
  simp only [Tok.val] at ha ⊢
  go_enter Tryz.func60, Tryz.ntmps60
  go_wp2_with (go_at_call 103; refine (ha (h.hold _)).mono ?_; rintro e w' ⟨rfl, h⟩; obtain ⟨r0, r1, r2, r3, z0, z1, z2, z3⟩ := h.four)
  (try simp only [Exit.inBlock, Exit.then])
  have k := h.put4 (.int .i64 tk) (.int .i64 tp) (.string tx) (.int .i64 tn)
  refine bodyPost_ret (results_cell1 rfl _ _ w.heap.size 93 _ (0, 0) _ rfl k.head Tryz.underlying93 rfl (by kernel_rfl)) rfl ?_
  exact ⟨rfl, k.drop⟩
end
end
section
def seesT (ts : List Tok) (fin : Int) (s : T) (X : ByteArray) : Bool := decide ((tokT ts fin s).text = X)
def mustT (ts : List Tok) (fin : Int) (s : T) (X : ByteArray) : T := if seesT ts fin s X then s else failT ts fin s 6
def mustK (ts : List Tok) (fin : Int) (s : T) (k : Int) : T := if (tokT ts fin s).kind = k then s else failT ts fin s 6
def moreT (s : T) : T := ⟨s.n, wrap64 (s.d + 1), s.c, s.a⟩
def lessT (s : T) : T := ⟨s.n, wrap64 (s.d - 1), s.c, s.a⟩
def deeperT (ts : List Tok) (fin : Int) (s : T) : T := if 10 < (moreT s).d then failT ts fin (moreT s) 7 else moreT s
section
variable {x : Cx} {Q : List (Value × P)} {L : List (Nat × Obj)} {s s' : T} {w w' : World}
theorem tok_at {ts : List Tok} {fin : Int} (h : (tokT ts fin s).kind ≠ 0 ∨ (tokT ts fin s).text ≠ ⟨#[]⟩) (hn : s.c = 0 → 0 ≤ s.n) : s.c = 0 ∧ s.n < ts.length := by
  unfold tokT tokA at h
  by_cases hc : s.c = 0
  · rw [if_pos hc] at h
    refine ⟨hc, ?_⟩
    have h0 := hn hc
    cases e : ts[(s.n + (0 : Nat)).toNat]? with
    | none => rw [e] at h; simp at h
    | some t =>
      have := (List.getElem?_eq_some_iff.1 e).1
      omega
  · rw [if_neg hc] at h
    simp at h
theorem PT.up (ok : x.Ok) (h : PT x Q L s w) (hlt : s.c = 0 → s.n < x.ts.length) : PT x Q L (upT s) (w.setCell ⟨x.B, 1, none⟩ (.int .i64 (wrap64 (s.n + 1)))) := by
  refine h.set 1 _ (fun hc => ?_) (by simp [rdI, upT, errV]; rfl)
  have h1 := hlt hc
  have h2 := h.le hc
  have h3 := ok.len
  have e : wrap64 (s.n + 1) = s.n + 1 := w64_id (by omega) (by omega)
  show 0 ≤ wrap64 (s.n + 1) ∧ wrap64 (s.n + 1) ≤ _
  omega
theorem PT.less (h : PT x Q L s w) : PT x Q L (lessT s) (w.setCell ⟨x.B, 3, none⟩ (.int .i64 (wrap64 (s.d - 1)))) := h.set 3 _ h.le (by simp [rdI, lessT, errV]; rfl)
theorem PT.more (h : PT x Q L s w) : PT x Q L (moreT s) (w.setCell ⟨x.B, 3, none⟩ (.int .i64 (wrap64 (s.d + 1)))) := h.set 3 _ h.le (by simp [rdI, moreT, errV]; rfl)
theorem fTok0 (a b c d : Value) (w : World) : (Instr.field 93 (.agg #[a, b, c, d]) 0).run Tryz.prog w = .ok a w := by kernel_rfl
theorem fTok1 (a b c d : Value) (w : World) : (Instr.field 93 (.agg #[a, b, c, d]) 1).run Tryz.prog w = .ok b w := by kernel_rfl
theorem fTok2 (a b c d : Value) (w : World) : (Instr.field 93 (.agg #[a, b, c, d]) 2).run Tryz.prog w = .ok c w := by kernel_rfl
theorem fTok3 (a b c d : Value) (w : World) : (Instr.field 93 (.agg #[a, b, c, d]) 3).run Tryz.prog w = .ok d w := by kernel_rfl
set_option maxRecDepth 100000 in
theorem sees_any (ok : x.Ok) (X : ByteArray) (h : PT x Q L s w) : Calls Tryz.prog 98 #[.pointer (some ⟨x.B, 0, none⟩), .string X] w fun e w' => e = .returned (.bool (seesT x.ts x.fin s X)) ∧ PT x Q L s w' := by
  have ha := token_any ok h
  have g2 := fTok2
  unfold seesT
  generalize tokT x.ts x.fin s = t at *
  obtain ⟨tk, tp, tx, tn⟩ := t
  simp only [Tok.val] at ha ⊢
  by_cases hX : tx = X
  · subst hX
    rw [decide_eq_true rfl]
    go_enter Tryz.func98, Tryz.ntmps98
    go_wp2_with (go_at_call 60; refine ha.mono ?_; rintro e w' ⟨rfl, h⟩)
    go_ret
    exact ⟨rfl, h⟩
  · have e3 := ba_ne hX
    rw [decide_eq_false hX]
    go_enter Tryz.func98, Tryz.ntmps98
    go_wp2_with (go_at_call 60; refine ha.mono ?_; rintro e w' ⟨rfl, h⟩)
    go_ret
    exact ⟨rfl, h⟩
theorem sees_yes (ok : x.Ok) (X : ByteArray) (h : PT x Q L s w) (hi : seesT x.ts x.fin s X = true) : Calls Tryz.prog 98 #[.pointer (some ⟨x.B, 0, none⟩), .string X] w fun e w' => e = .returned (.bool true) ∧ PT x Q L s w' := by
  have := sees_any ok X h
  rwa [hi] at this
theorem sees_no (ok : x.Ok) (X : ByteArray) (h : PT x Q L s w) (hi : seesT x.ts x.fin s X = false) : Calls Tryz.prog 98 #[.pointer (some ⟨x.B, 0, none⟩), .string X] w fun e w' => e = .returned (.bool false) ∧ PT x Q L s w' := by
  have := sees_any ok X h
  rwa [hi] at this
set_option maxRecDepth 100000 in
theorem pass_any (ok : x.Ok) (h : PT x Q L s w) (hlt : s.c = 0 → s.n < x.ts.length) : Calls Tryz.prog 100 #[.pointer (some ⟨x.B, 0, none⟩)] w fun e w' => e = .returned (tokT x.ts x.fin s).val ∧ PT x Q L (upT s) w' := by
  have hsz := h.size
  have ha := fun h => token_any (Q := Q) (L := (w.heap.size, .cells #[.int .i64 0, .int .i64 0, .string ⟨#[]⟩, .int .i64 0] 93) :: L) (s := s) (w := w.alloc (.cells #[.int .i64 0, .int .i64 0, .string ⟨#[]⟩, .int .i64 0] 93)) ok h
  generalize tokT x.ts x.fin s = t at *
  obtain ⟨tk, tp, tx, tn⟩ := t
  simp only [Tok.val] at ha ⊢
  go_enter Tryz.func100, Tryz.ntmps100
  go_wp2_with (go_at_call 60; refine (ha (h.hold _)).mono ?_; rintro e w' ⟨rfl, h⟩; obtain ⟨r0, r1, r2, r3, z0, z1, z2, z3⟩ := h.four; have c1 := h.c1; have f1 := h.fz 1; have hs2 := h.size; have hs3 := (Array.getElem?_eq_some_iff.1 h.head).1)
  (try simp only [Exit.inBlock, Exit.then])
  have k := ((h.up ok hlt).put4 (.int .i64 tk) (.int .i64 tp) (.string tx) (.int .i64 tn)).alloc (.cells #[.int .i64 tk, .int .i64 tp, .string tx, .int .i64 tn] 93)
  refine bodyPost_ret (results_cell1 rfl _ _ w.heap.size 93 _ (0, 0) _ rfl k.head Tryz.underlying93 rfl (by kernel_rfl)) rfl ?_
  exact ⟨rfl, k.drop⟩
set_option maxRecDepth 100000 in
theorem fail_any (ok : x.Ok) (code : Int) (hcode : ¬ code = 0) (h : PT x Q L s w) : Calls Tryz.prog 109 #[.pointer (some ⟨x.B, 0, none⟩), .int .i64 code] w fun e w' => e = .returned (.tuple #[]) ∧ PT x Q L (failT x.ts x.fin s code) w' := by
  have c4 := h.c4
  have b1 := nilQ
  have b2 := someQ s.c s.a
  have g1 := fTok1
  have ha := token_any ok h
  by_cases hc : s.c = 0
  · rw [errV_nil hc] at c4
    rw [failT, if_pos hc]
    generalize tokT x.ts x.fin s = t at *
    obtain ⟨tk, tp, tx, tn⟩ := t
    simp only [Tok.val] at ha ⊢
    go_enter Tryz.func109, Tryz.ntmps109
    go_wp2_with (go_at_call 60; refine ha.mono ?_; rintro e w' ⟨rfl, h⟩; have c4 := h.c4; have f4 := h.fz 4)
    go_end0
    exact ⟨rfl, h.set 4 _ (fun e => absurd e hcode) (by simp [rdI, errV, hcode])⟩
  · rw [errV_some hc] at c4
    rw [failT, if_neg hc]
    go_enter Tryz.func109, Tryz.ntmps109
    go_wp2
    go_end0
    exact ⟨rfl, h⟩
theorem sees_lt {ts : List Tok} {fin : Int} {X : ByteArray} (hX : X ≠ ⟨#[]⟩) (hn : s.c = 0 → 0 ≤ s.n) (h : seesT ts fin s X = true) : s.c = 0 ∧ s.n < ts.length :=
  tok_at (.inr (by unfold seesT at h; rw [of_decide_eq_true h]; exact hX)) hn
set_option maxRecDepth 100000 in
theorem accept_yes (ok : x.Ok) (X : ByteArray) (hX : X ≠ ⟨#[]⟩) (h : PT x Q L s w) (hi : seesT x.ts x.fin s X = true) : Calls Tryz.prog 104 #[.pointer (some ⟨x.B, 0, none⟩), .string X] w fun e w' => e = .returned (.bool true) ∧ PT x Q L (upT s) w' := by
  have hlt := sees_lt hX (fun hc => (h.le hc).1) hi
  go_enter Tryz.func104, Tryz.ntmps104
  go_wp2_with (first | (go_at_call 98; refine (sees_yes ok X h hi).mono ?_; rintro e w' ⟨rfl, h⟩) | (go_at_call 100; refine (pass_any ok h (fun _ => hlt.2)).mono ?_; rintro e w' ⟨rfl, h⟩))
  go_ret
  exact ⟨rfl, h⟩
set_option maxRecDepth 100000 in
theorem accept_no (ok : x.Ok) (X : ByteArray) (h : PT x Q L s w) (hi : seesT x.ts x.fin s X = false) : Calls Tryz.prog 104 #[.pointer (some ⟨x.B, 0, none⟩), .string X] w fun e w' => e = .returned (.bool false) ∧ PT x Q L s w' := by
  go_enter Tryz.func104, Tryz.ntmps104
  go_wp2_with (go_at_call 98; refine (sees_no ok X h hi).mono ?_; rintro e w' ⟨rfl, h⟩)
  go_ret
  exact ⟨rfl, h⟩
theorem failT_c {ts : List Tok} {fin : Int} {code : Int} (hc : ¬ code = 0) : ¬ (failT ts fin s code).c = 0 := by
  unfold failT
  split
  · exact hc
  · assumption
set_option maxRecDepth 100000 in
theorem must_any (ok : x.Ok) (X : ByteArray) (hX : X ≠ ⟨#[]⟩) (h : PT x Q L s w) : Calls Tryz.prog 107 #[.pointer (some ⟨x.B, 0, none⟩), .string X] w fun e w' => e = .returned (tokT x.ts x.fin (mustT x.ts x.fin s X)).val ∧ PT x Q L (upT (mustT x.ts x.fin s X)) w' := by
  have hsz := h.size
  have h1 := h.hold (.cells #[.int .i64 0, .int .i64 0, .string ⟨#[]⟩, .int .i64 0] 93)
  cases hi : seesT x.ts x.fin s X with
  | true =>
    have e : mustT x.ts x.fin s X = s := by simp [mustT, hi]
    have hlt := sees_lt hX (fun hc => (h.le hc).1) hi
    rw [e]
    have hp := fun (w : World) (L : List (Nat × Obj)) (h : PT x Q L s w) => pass_any ok h (fun _ => hlt.2)
    generalize tokT x.ts x.fin s = t at *
    obtain ⟨tk, tp, tx, tn⟩ := t
    simp only [Tok.val] at hp ⊢
    go_enter Tryz.func107, Tryz.ntmps107
    go_wp2_with (first | (go_at_call 98; refine (sees_yes ok X h1 hi).mono ?_; rintro e w' ⟨rfl, h1⟩) | (go_at_call 100; refine (hp _ _ h1).mono ?_; rintro e w' ⟨rfl, h⟩; obtain ⟨r0, r1, r2, r3, z0, z1, z2, z3⟩ := h.four))
    (try simp only [Exit.inBlock, Exit.then])
    have k := h.put4 (.int .i64 tk) (.int .i64 tp) (.string tx) (.int .i64 tn)
    refine bodyPost_ret (results_cell1 rfl _ _ w.heap.size 93 _ (0, 0) _ rfl k.head Tryz.underlying93 rfl (by kernel_rfl)) rfl ?_
    exact ⟨rfl, k.drop⟩
  | false =>
    have e : mustT x.ts x.fin s X = failT x.ts x.fin s 6 := by simp [mustT, hi]
    rw [e]
    have hne : ¬ (failT x.ts x.fin s 6).c = 0 := failT_c (by decide)
    have hf := fun (w : World) (L : List (Nat × Obj)) (h : PT x Q L s w) => fail_any ok 6 (by decide) h
    generalize failT x.ts x.fin s 6 = s2 at *
    have hp := fun (w : World) (L : List (Nat × Obj)) (h : PT x Q L s2 w) => pass_any ok h (fun hc => absurd hc hne)
    generalize tokT x.ts x.fin s2 = t at *
    obtain ⟨tk, tp, tx, tn⟩ := t
    simp only [Tok.val] at hp ⊢
    go_enter Tryz.func107, Tryz.ntmps107
    go_wp2_with (first | (go_at_call 98; refine (sees_no ok X h1 hi).mono ?_; rintro e w' ⟨rfl, h1⟩) | (go_at_call 109; refine (hf _ _ h1).mono ?_; rintro e w' ⟨rfl, h1⟩) | (go_at_call 100; refine (hp _ _ h1).mono ?_; rintro e w' ⟨rfl, h⟩; obtain ⟨r0, r1, r2, r3, z0, z1, z2, z3⟩ := h.four))
    (try simp only [Exit.inBlock, Exit.then])
    have k := h.put4 (.int .i64 tk) (.int .i64 tp) (.string tx) (.int .i64 tn)
    refine bodyPost_ret (results_cell1 rfl _ _ w.heap.size 93 _ (0, 0) _ rfl k.head Tryz.underlying93 rfl (by kernel_rfl)) rfl ?_
    exact ⟨rfl, k.drop⟩
set_option maxRecDepth 100000 in
theorem mustKind_any (ok : x.Ok) (kd : Int) (hk : ¬ kd = 0) (h : PT x Q L s w) : Calls Tryz.prog 137 #[.pointer (some ⟨x.B, 0, none⟩), .int .i64 kd] w fun e w' => e = .returned (tokT x.ts x.fin (mustK x.ts x.fin s kd)).val ∧ PT x Q L (upT (mustK x.ts x.fin s kd)) w' := by
  have hsz := h.size
  have h1 := h.hold (.cells #[.int .i64 0, .int .i64 0, .string ⟨#[]⟩, .int .i64 0] 93)
  have g0 := fTok0
  have ht := fun (w : World) (L : List (Nat × Obj)) (h : PT x Q L s w) => token_any ok h
  by_cases hi : (tokT x.ts x.fin s).kind = kd
  · have e : mustK x.ts x.fin s kd = s := by simp [mustK, hi]
    have hlt := tok_at (s := s) (ts := x.ts) (fin := x.fin) (.inl (by rw [hi]; exact hk)) (fun hc => (h.le hc).1)
    rw [e]
    have hp := fun (w : World) (L : List (Nat × Obj)) (h : PT x Q L s w) => pass_any ok h (fun _ => hlt.2)
    generalize tokT x.ts x.fin s = t at *
    obtain ⟨tk, tp, tx, tn⟩ := t
    simp only at hi
    subst hi
    simp only [Tok.val] at hp ht ⊢
    go_enter Tryz.func137, Tryz.ntmps137
    go_wp2_with (first | (go_at_call 60; refine (ht _ _ h1).mono ?_; rintro e w' ⟨rfl, h1⟩) | (go_at_call 100; refine (hp _ _ h1).mono ?_; rintro e w' ⟨rfl, h⟩; obtain ⟨r0, r1, r2, r3, z0, z1, z2, z3⟩ := h.four))
    (try simp only [Exit.inBlock, Exit.then])
    have k := h.put4 (.int .i64 tk) (.int .i64 tp) (.string tx) (.int .i64 tn)
    refine bodyPost_ret (results_cell1 rfl _ _ w.heap.size 93 _ (0, 0) _ rfl k.head Tryz.underlying93 rfl (by kernel_rfl)) rfl ?_
    exact ⟨rfl, k.drop⟩
  · have e : mustK x.ts x.fin s kd = failT x.ts x.fin s 6 := by simp [mustK, hi]
    have e4 : ((tokT x.ts x.fin s).kind != kd) = true := by simpa using hi
    rw [e]
    have hne : ¬ (failT x.ts x.fin s 6).c = 0 := failT_c (by decide)
    have hf := fun (w : World) (L : List (Nat × Obj)) (h : PT x Q L s w) => fail_any ok 6 (by decide) h
    generalize failT x.ts x.fin s 6 = s2 at *
    have hp := fun (w : World) (L : List (Nat × Obj)) (h : PT x Q L s2 w) => pass_any ok h (fun hc => absurd hc hne)
    generalize tokT x.ts x.fin s2 = t at *
    generalize tokT x.ts x.fin s = u at *
    obtain ⟨tk, tp, tx, tn⟩ := t
    obtain ⟨uk, up, ux, un⟩ := u
    simp only [Tok.val] at hp ht e4 ⊢
    go_enter Tryz.func137, Tryz.ntmps137
    go_wp2_with (first | (go_at_call 60; refine (ht _ _ h1).mono ?_; rintro e w' ⟨rfl, h1⟩) | (go_at_call 109; refine (hf _ _ h1).mono ?_; rintro e w' ⟨rfl, h1⟩) | (go_at_call 100; refine (hp _ _ h1).mono ?_; rintro e w' ⟨rfl, h⟩; obtain ⟨r0, r1, r2, r3, z0, z1, z2, z3⟩ := h.four))
    (try simp only [Exit.inBlock, Exit.then])
    have k := h.put4 (.int .i64 tk) (.int .i64 tp) (.string tx) (.int .i64 tn)
    refine bodyPost_ret (results_cell1 rfl _ _ w.heap.size 93 _ (0, 0) _ rfl k.head Tryz.underlying93 rfl (by kernel_rfl)) rfl ?_
    exact ⟨rfl, k.drop⟩
set_option maxRecDepth 100000 in
theorem deeper_any (ok : x.Ok) (h : PT x Q L s w) : Calls Tryz.prog 101 #[.pointer (some ⟨x.B, 0, none⟩)] w fun e w' => e = .returned (.tuple #[]) ∧ PT x Q L (deeperT x.ts x.fin s) w' := by
  have c3 := h.c3
  have f3 := h.fz 3
  have k := h.more
  by_cases hd : 10 < wrap64 (s.d + 1)
  · have e2 : deeperT x.ts x.fin s = failT x.ts x.fin (moreT s) 7 := by simp [deeperT, moreT, hd]
    rw [e2]
    go_enter Tryz.func101, Tryz.ntmps101
    go_wp2_with (go_at_call 109; refine (fail_any ok 7 (by decide) k).mono ?_; rintro e w' ⟨rfl, h⟩)
    go_end0
    exact ⟨rfl, h⟩
  · have e2 : deeperT x.ts x.fin s = moreT s := by simp [deeperT, moreT, hd]
    rw [e2]
    go_enter Tryz.func101, Tryz.ntmps101
    go_wp2
    go_end0
    exact ⟨rfl, k⟩
end
end
section
/-- A head as a value. -/
def Hd.val (h : Hd) : Value := .agg #[.int .i64 h.kind, .int .i64 h.pos, .int .i64 h.num, .string h.name]
section
variable {x : Cx} {Q : List (Value × P)} {L : List (Nat × Obj)} {s s' : T} {w w' : World}
set_option maxRecDepth 100000 in
theorem headOf_any (k : Int) (t : Tok) (h : PT x Q L s w) : Calls Tryz.prog 138 #[.int .i64 k, t.val] w fun e w' => e = .returned (Hd.val ⟨k, t.pos, 0, t.text⟩) ∧ PT x Q L s w' := by
  obtain ⟨tk, tp, tx, tn⟩ := t
  have hsz := h.size
  have g1 := fTok1
  have g2 := fTok2
  simp only [Tok.val, Hd.val]
  go_enter Tryz.func138, Tryz.ntmps138
  go_wp2
  (try simp only [Exit.inBlock, Exit.then])
  refine bodyPost_ret (results_cell1 rfl _ _ (w.heap.size + 1) 41 _ (0, 0) _ rfl (by have := one_first (w.alloc (.cells #[.int .i64 tk, .int .i64 tp, .string tx, .int .i64 tn] 93)) (.cells #[.int .i64 k, .int .i64 tp, .int .i64 0, .string tx] 41); simpa using this) Tryz.underlying41 rfl (by kernel_rfl)) rfl ?_
  exact ⟨rfl, (h.alloc _).alloc _⟩
set_option maxRecDepth 100000 in
theorem named_any (ok : x.Ok) (k : Int) (h : PT x Q L s w) : Calls Tryz.prog 106 #[.pointer (some ⟨x.B, 0, none⟩), .int .i64 k] w fun e w' => e = .returned (Hd.val ⟨k, (tokT x.ts x.fin (mustK x.ts x.fin s 1)).pos, 0, (tokT x.ts x.fin (mustK x.ts x.fin s 1)).text⟩) ∧ PT x Q L (upT (mustK x.ts x.fin s 1)) w' := by
  have hsz := h.size
  have h1 := h.hold (.cells #[.int .i64 0, .int .i64 0, .int .i64 0, .string ⟨#[]⟩] 41)
  have hm := fun (w : World) (L : List (Nat × Obj)) (h : PT x Q L s w) => mustKind_any ok 1 (by decide) h
  generalize upT (mustK x.ts x.fin s 1) = s2 at *
  have hh := fun (w : World) (L : List (Nat × Obj)) (h : PT x Q L s2 w) => headOf_any k (tokT x.ts x.fin (mustK x.ts x.fin s 1)) h
  generalize tokT x.ts x.fin (mustK x.ts x.fin s 1) = t at *
  simp only [Hd.val] at hh ⊢
  go_enter Tryz.func106, Tryz.ntmps106
  go_wp2_with (first | (go_at_call 137; refine (hm _ _ h1).mono ?_; rintro e w' ⟨rfl, h1⟩) | (go_at_call 138; refine (hh _ _ h1).mono ?_; rintro e w' ⟨rfl, h⟩; obtain ⟨r0, r1, r2, r3, z0, z1, z2, z3⟩ := h.four))
  (try simp only [Exit.inBlock, Exit.then])
  have k := h.put4 (.int .i64 k) (.int .i64 t.pos) (.int .i64 0) (.string t.text)
  refine bodyPost_ret (results_cell1 rfl _ _ w.heap.size 41 _ (0, 0) _ rfl k.head Tryz.underlying41 rfl (by kernel_rfl)) rfl ?_
  exact ⟨rfl, k.drop⟩
theorem PT.four2 {p : Nat × Obj} {b : Nat} {a0 a1 a2 a3 : Value} {t : TypeId} (h : PT x Q (p :: (b, .cells #[a0, a1, a2, a3] t) :: L) s w) : w.cell? ⟨b, 0, none⟩ = some a0 ∧ w.cell? ⟨b, 1, none⟩ = some a1 ∧ w.cell? ⟨b, 2, none⟩ = some a2 ∧ w.cell? ⟨b, 3, none⟩ = some a3 := 
  have k := (h.keep b _ (by simp : (b, Obj.cells #[a0, a1, a2, a3] t) ∈ p :: (b, Obj.cells #[a0, a1, a2, a3] t) :: L)).2
  ⟨cell_of k rfl, cell_of k rfl, cell_of k rfl, cell_of k rfl⟩
set_option maxHeartbeats 2000000 in
set_option maxRecDepth 100000 in
theorem namedAt_any (ok : x.Ok) (k : Int) (t : Tok) (h : PT x Q L s w) : Calls Tryz.prog 135 #[.pointer (some ⟨x.B, 0, none⟩), .int .i64 k, t.val] w fun e w' => e = .returned (Hd.val ⟨k, t.pos, 0, (tokT x.ts x.fin (mustK x.ts x.fin s 1)).text⟩) ∧ PT x Q L (upT (mustK x.ts x.fin s 1)) w' := by
  have hsz := h.size
  have g1 := fTok1
  have g2 := fTok2
  have hm := fun (w : World) (L : List (Nat × Obj)) (h : PT x Q L s w) => mustKind_any ok 1 (by decide) h
  generalize upT (mustK x.ts x.fin s 1) = s2 at *
  generalize tokT x.ts x.fin (mustK x.ts x.fin s 1) = u at *
  obtain ⟨tk, tp, tx, tn⟩ := t
  obtain ⟨uk, up, ux, un⟩ := u
  simp only [Tok.val, Hd.val] at hm ⊢
  have h1 := (h.hold (.cells #[.int .i64 tk, .int .i64 tp, .string tx, .int .i64 tn] 93)).hold (.cells #[.int .i64 0, .int .i64 0, .int .i64 0, .string ⟨#[]⟩] 41)
  have e1 : (w.alloc (.cells #[.int .i64 tk, .int .i64 tp, .string tx, .int .i64 tn] 93)).heap.size = w.heap.size + 1 := by simp
  rw [e1] at h1
  clear e1
  go_enter Tryz.func135, Tryz.ntmps135
  go_wp2
  go_region_with (first | (go_at_call 137; refine (hm _ _ (by first | exact h1 | exact h1.drew | exact h1.drewN _)).mono ?_; rintro e w' ⟨rfl, h⟩; obtain ⟨r0, r1, r2, r3, z0, z1, z2, z3⟩ := h.four; obtain ⟨q0, q1, q2, q3⟩ := h.four2) | fail)
  all_goals go_wp2
  all_goals (try simp only [Exit.inBlock, Exit.then])
  all_goals (have kk := h.put4 (.int .i64 k) (.int .i64 tp) (.int .i64 0) (.string ux); refine bodyPost_ret (results_cell1 rfl _ _ (w.heap.size + 1) 41 _ (0, 0) _ rfl kk.head Tryz.underlying41 rfl (by kernel_rfl)) rfl ?_; exact ⟨rfl, kk.drop.drop⟩)
end
end
end Go.Proofs.YtjikjejfobnfnaaGreatDoor.imp
