/-
  Nodes in a row, listed: what stays while they are.
  Nodes listed: one piece below more.
  Nodes listed: a piece by its methods.
  Nodes listed: every piece.
  Nodes listed: every piece that was read.
  How many kids there are in a listing.
  Marks laid into nodes.
  Marks laid into nodes, walked.
  Marks read again out of nodes.
-/
import Derived.Test.YtjikjejfobnfnaaGreatDoorC22
import Derived.Test.YtjikjejfobnfnaaGreatDoorC35
import Derived.Test.YtjikjejfobnfnaaGreatDoorC38
namespace Go.Proofs.YtjikjejfobnfnaaGreatDoor.imp
open Go.RowKit Go.Proofs.YtjikjejfobnfnaaGreatDoor.num Go.Proofs.YtjikjejfobnfnaaGreatDoor.lex Go.Proofs.YtjikjejfobnfnaaGreatDoor.par
set_option linter.unusedVariables false
/-- The list of a piece's nodes, behind others: what the program's listNodes does with a value. -/
def Lists (w0 : World) (v : Value) (p : P) : Prop :=
  ∀ (nv : Value) (M : List (Nd × Value)) (w : World), Below w0.heap.size w0 w → Nds w0.heap.size nv M w → M.length + (post M.length p).length ≤ 100000 →
    Calls Tryz.prog 25 #[nv, v] w fun e w' => ∃ nv' M', e = .returned nv' ∧ Nds w0.heap.size nv' (M ++ M') w' ∧ M'.map (·.1) = post M.length p ∧ (∀ m ∈ M', ∀ g, m.2.ownBlock = some g → w.heap.size ≤ g) ∧
      w.grownBy w' nv.ownBlock ∧ (nv'.ownBlock = nv.ownBlock ∨ ∃ g, nv'.ownBlock = some g ∧ w.heap.size ≤ g)
/-- What the loop over the pieces below keeps; w: where listNodes began, b: its node's block, sv: the row of pieces. -/
structure LL (w0 w : World) (nv : Value) (M : List (Nd × Value)) (h : Hd) (ks : List P) (b : Nat) (sv : Value) (vs : List Value) (j : Nat) (nw : Value) (M' : List (Nd × Value)) (kr : Value) (wr : World) : Prop where
  nds : Nds w0.heap.size nw (M ++ M') wr
  map : M'.map (·.1) = (postL M.length (ks.take j)).1
  new : ∀ m ∈ M', ∀ g, m.2.ownBlock = some g → w.heap.size ≤ g
  grown : w.grownBy wr nv.ownBlock
  loc : nw.ownBlock = nv.ownBlock ∨ ∃ g, nw.ownBlock = some g ∧ w.heap.size ≤ g
  nb : nw.ownBlock ≠ some b
  blk : wr.heap[b]? = some (.cells #[.int .i64 h.kind, .int .i64 h.pos, .int .i64 h.num, .string h.name, kr] 33)
  wb : w.heap.size ≤ b
  kid : wr.ownsRow w.heap.size 3 1 kr j (ints (postL M.length (ks.take j)).2)
  apart : ∀ m ∈ M ++ M', ∀ g, m.2.ownBlock = some g → some g ≠ kr.ownBlock
  row : BRow wr sv vs
  bel : Below w0.heap.size w0 wr
  le0 : w0.heap.size ≤ w.heap.size
section
/-- Behind the nodes of one piece more, its place not yet among the kids. -/
structure LM (w0 w : World) (nv : Value) (M : List (Nd × Value)) (h : Hd) (ks : List P) (b : Nat) (sv : Value) (vs : List Value) (j : Nat) (nw : Value) (M' : List (Nd × Value)) (kr : Value) (wr : World) : Prop where
  nds : Nds w0.heap.size nw (M ++ M') wr
  map : M'.map (·.1) = (postL M.length (ks.take (j + 1))).1
  cnt : (postL M.length (ks.take (j + 1))).2 = (postL M.length (ks.take j)).2 ++ [(M ++ M').length - 1]
  pos : 0 < (M ++ M').length
  new : ∀ m ∈ M', ∀ g, m.2.ownBlock = some g → w.heap.size ≤ g
  grown : w.grownBy wr nv.ownBlock
  loc : nw.ownBlock = nv.ownBlock ∨ ∃ g, nw.ownBlock = some g ∧ w.heap.size ≤ g
  nb : nw.ownBlock ≠ some b
  blk : wr.heap[b]? = some (.cells #[.int .i64 h.kind, .int .i64 h.pos, .int .i64 h.num, .string h.name, kr] 33)
  wb : w.heap.size ≤ b
  kid : wr.ownsRow w.heap.size 3 1 kr j (ints (postL M.length (ks.take j)).2)
  apart : ∀ m ∈ M ++ M', ∀ g, m.2.ownBlock = some g → some g ≠ kr.ownBlock
  row : BRow wr sv vs
  bel : Below w0.heap.size w0 wr
  le0 : w0.heap.size ≤ w.heap.size
section
variable {w0 w : World} {nv : Value} {M : List (Nd × Value)} {h : Hd} {ks : List P} {b : Nat} {sv : Value} {vs : List Value} {j : Nat} {nw : Value} {M' : List (Nd × Value)} {kr : Value} {wr : World}
theorem bel_row {w0 w w' : World} {v : Value} {e size n : Nat} {xs : List Value} (hb : Below w0.heap.size w0 w) (hr : w.ownsRow w0.heap.size e size v n xs) (hg : w.grownBy w' v.ownBlock) : Below w0.heap.size w0 w' :=
  hb.grown hg hb.size (fun g h => (hr.lt g h).1)
theorem LL.called (L : LL w0 w nv M h ks b sv vs j nw M' kr wr) {q : P} (hq : ks[j]? = some q) (hf : fine q = true) {nw2 : Value} {M2 : List (Nd × Value)} {wc : World} (n1 : Nds w0.heap.size nw2 ((M ++ M') ++ M2) wc) (n2 : M2.map (·.1) = post (M ++ M').length q)
    (n3 : ∀ m ∈ M2, ∀ g, m.2.ownBlock = some g → wr.heap.size ≤ g) (n4 : wr.grownBy wc nw.ownBlock) (n5 : nw2.ownBlock = nw.ownBlock ∨ ∃ g, nw2.ownBlock = some g ∧ wr.heap.size ≤ g) :
    LM w0 w nv M h ks b sv vs j nw2 (M' ++ M2) kr wc := by
  have hbl : b < wr.heap.size := (Array.getElem?_eq_some_iff.1 L.blk).1
  have hws : w.heap.size ≤ wr.heap.size := L.grown.size
  have hM : (M ++ M').length = M.length + (postL M.length (ks.take j)).1.length := by
    have := congrArg List.length L.map
    simp at this
    simp [this]
  have htk : ks.take (j + 1) = ks.take j ++ [q] := by rw [List.take_add_one, hq]; rfl
  have hpl := post_pos hf (M ++ M').length
  have h2l := congrArg List.length n2
  simp only [List.length_map] at h2l
  have hmid : ((M ++ M') ++ M2).length = (M ++ M').length + (post (M ++ M').length q).length := by rw [List.length_append, h2l]
  refine ⟨by rw [← List.append_assoc]; exact n1, ?_, ?_, ?_, ?_, ?_, ?_, ?_, ?_, L.wb, ?_, ?_, ?_, ?_, L.le0⟩
  · rw [htk, postL_snoc, List.map_append, L.map, n2, hM]
  · rw [htk, postL_snoc, ← List.append_assoc, hmid, hM]
  · rw [← List.append_assoc, hmid]; omega
  · intro m hm g hg
    rcases List.mem_append.1 hm with hm | hm
    · exact L.new m hm g hg
    · exact Nat.le_trans hws (n3 m hm g hg)
  · refine ⟨n4.os.trans L.grown.os, n4.tape.trans L.grown.tape, n4.output.trans L.grown.output, Nat.le_trans hws n4.size, fun i hi hne => ?_⟩
    refine (n4.block i (Nat.lt_of_lt_of_le hi hws) (fun e => ?_)).trans (L.grown.block i hi hne)
    rcases L.loc with hl | ⟨g, hl, hg⟩
    · exact hne (e.trans hl)
    · rw [hl] at e; cases e; omega
  · rcases n5 with n5 | ⟨g, n5, hg⟩
    · rcases L.loc with hl | ⟨g, hl, hg⟩
      · exact .inl (n5.trans hl)
      · exact .inr ⟨g, n5.trans hl, hg⟩
    · exact .inr ⟨g, n5, Nat.le_trans hws hg⟩
  · rcases n5 with n5 | ⟨g, n5, hg⟩
    · rw [n5]; exact L.nb
    · rw [n5]; intro e; cases e; omega
  · exact (n4.block b hbl (fun e => L.nb e.symm)).trans L.blk
  · exact row_keep L.kid (fun g hg => n4.block g (L.kid.lt g hg).2 (row_ne L.kid L.nds.row (by decide) hg))
  · intro m hm g hg
    rw [← List.append_assoc] at hm
    rcases List.mem_append.1 hm with hm | hm
    · exact L.apart m hm g hg
    · intro e
      have := n3 m hm g hg
      have := (L.kid.lt g e.symm).2
      omega
  · exact row_keep L.row (fun g hg => n4.block g (L.row.lt g hg).2 (row_ne L.row L.nds.row (by decide) hg))
  · exact bel_row L.bel L.nds.row n4
theorem LM.blkE (L : LM w0 w nv M h ks b sv vs j nw M' kr wr) {we : World} (o : Obj) (hg : (wr.alloc o).grownBy we kr.ownBlock) : we.heap[b]? = some (.cells #[.int .i64 h.kind, .int .i64 h.pos, .int .i64 h.num, .string h.name, kr] 33) := by
  have kid1 := row_below L.kid (below1 wr o)
  have blk1 := at_alloc (a := o) L.blk
  have hbl : b < wr.heap.size := (Array.getElem?_eq_some_iff.1 L.blk).1
  refine (hg.block b (by simp; omega) (fun e => ?_)).trans blk1
  obtain ⟨c, hc⟩ := row_type kid1 e.symm
  rw [blk1] at hc
  cases hc
/-- Its place among the kids. -/
theorem LM.next (L : LM w0 w nv M h ks b sv vs j nw M' kr wr) {kr2 : Value} {we : World} (o : Obj) (hown : we.ownsRow w.heap.size 3 1 kr2 (j + 1) (ints (postL M.length (ks.take j)).2 ++ [.int .i64 (((M ++ M').length - 1 : Nat) : Int)]))
    (hg : (wr.alloc o).grownBy we kr.ownBlock) (hloc : kr2.ownBlock = kr.ownBlock ∨ kr2.ownBlock = some (wr.alloc o).heap.size) :
    LL w0 w nv M h ks b sv vs (j + 1) nw M' kr2 (we.setCell ⟨b, 4, none⟩ kr2) := by
  have hb0 := below1 wr o
  have hsz : (wr.alloc o).heap.size = wr.heap.size + 1 := by simp
  have nds1 := L.nds.below hb0
  have kid1 := row_below L.kid hb0
  have row1 := L.row.below hb0
  have blk1 := at_alloc (a := o) L.blk
  have bel1 := L.bel.alloc L.bel.size o
  have hbl : b < wr.heap.size := (Array.getElem?_eq_some_iff.1 L.blk).1
  have hkb : kr.ownBlock ≠ some b := fun e => by
    obtain ⟨c, hc⟩ := row_type kid1 e
    rw [blk1] at hc
    cases hc
  have blk2 : we.heap[b]? = some (.cells #[.int .i64 h.kind, .int .i64 h.pos, .int .i64 h.num, .string h.name, kr] 33) := (hg.block b (by omega) (fun e => hkb e.symm)).trans blk1
  have hkb2 : kr2.ownBlock ≠ some b := fun e => by
    obtain ⟨c, hc⟩ := row_type hown e
    rw [blk2] at hc
    cases hc
  have nds2 : Nds w0.heap.size nw (M ++ M') we := nds1.of_block (fun g hgg => by
    refine hg.block g (nds1.lt hgg).2 ?_
    rcases hgg with hgg | ⟨m, hm, hgg⟩
    · exact row_ne nds1.row kid1 (by decide) hgg
    · exact L.apart m hm g hgg)
  have row2 : BRow we sv vs := row_keep row1 (fun g hgg => hg.block g (row1.lt g hgg).2 (row_ne row1 kid1 (by decide) hgg))
  have setb : ∀ i, i ≠ b → (we.setCell ⟨b, 4, none⟩ kr2).heap[i]? = we.heap[i]? := fun i hi => Below.heap_setCell we ⟨b, 4, none⟩ kr2 i hi
  have hws : w.heap.size ≤ wr.heap.size := L.grown.size
  refine ⟨nds2.of_block (fun g hgg => setb g ?_), L.map, L.new, ?_, L.loc, L.nb, ?_, L.wb, ?_, ?_, ?_, ?_, L.le0⟩
  · rcases hgg with hgg | ⟨m, hm, hgg⟩
    · intro e; subst e; exact L.nb hgg
    · intro e
      subst e
      obtain ⟨c, hc⟩ := row_type (nds2.kids m hm) hgg
      rw [blk2] at hc
      cases hc
  · refine ⟨hg.os.trans L.grown.os, hg.tape.trans L.grown.tape, hg.output.trans L.grown.output, ?_, fun i hi hne => ?_⟩
    · have := hg.size; simp; omega
    · refine (setb i (by have := L.wb; omega)).trans ((hg.block i (by omega) (fun e => ?_)).trans ((Below.heap_alloc wr o i (by omega)).trans (L.grown.block i hi hne)))
      have := (kid1.lt i e.symm).1
      omega
  · have := at_same (i := 4) (v := kr2) blk2
    simpa using this
  · rw [L.cnt]
    have e : ints ((postL M.length (ks.take j)).2 ++ [(M ++ M').length - 1]) = ints (postL M.length (ks.take j)).2 ++ [.int .i64 (((M ++ M').length - 1 : Nat) : Int)] := by simp [ints]
    rw [e]
    exact row_keep hown (fun g hgg => setb g (fun e => hkb2 (by rw [← e]; exact hgg)))
  · intro m hm g hgg
    rcases hloc with hl | hl
    · rw [hl]; exact L.apart m hm g hgg
    · rw [hl]
      intro e
      cases e
      have := (L.nds.lt (.inr ⟨m, hm, hgg⟩)).2
      omega
  · exact row_keep row2 (fun g hgg => setb g (fun e => by
      subst e
      obtain ⟨c, hc⟩ := row_type row2 hgg
      rw [blk2] at hc
      cases hc))
  · have l0 := L.le0
    have this : Below w0.heap.size w0 we := bel1.grown hg (by have := L.bel.size; omega) (fun g hgg => Nat.le_trans l0 (kid1.lt g hgg).1)
    exact this.setCell (p := ⟨b, 4, none⟩) (by show w0.heap.size ≤ b; have := L.wb; omega) _
/-- The piece's own node behind those below it. -/
theorem LL.fin (L : LL w0 w nv M h ks b sv vs j nw M' kr wr) (hj : j = ks.length) {nv' : Value} {we : World} (o : Obj)
    (hown : we.ownsRow w0.heap.size 33 5 nv' ((M ++ M').length + 1) (flatN (M ++ M') ++ nCells ((⟨h.kind, h.pos, h.num, h.name, (postL M.length ks).2⟩ : Nd), kr))) (hg : (wr.alloc o).grownBy we nw.ownBlock) (hloc : nv'.ownBlock = nw.ownBlock ∨ nv'.ownBlock = some (wr.alloc o).heap.size) :
    ∃ M2, Nds w0.heap.size nv' (M ++ M2) we ∧ M2.map (·.1) = (postL M.length ks).1 ++ [⟨h.kind, h.pos, h.num, h.name, (postL M.length ks).2⟩] ∧ (∀ m ∈ M2, ∀ g, m.2.ownBlock = some g → w.heap.size ≤ g) ∧ w.grownBy we nv.ownBlock ∧ (nv'.ownBlock = nv.ownBlock ∨ ∃ g, nv'.ownBlock = some g ∧ w.heap.size ≤ g) := by
  subst hj
  have hb0 := below1 wr o
  have hsz : (wr.alloc o).heap.size = wr.heap.size + 1 := by simp
  have nds1 := L.nds.below hb0
  have kid1 := row_below L.kid hb0
  have hws : w.heap.size ≤ wr.heap.size := L.grown.size
  have ht : ks.take ks.length = ks := List.take_length
  have hkl : (postL M.length ks).2.length = ks.length := by
    have : ∀ (ks : List P) (k : Nat), (postL k ks).2.length = ks.length := by
      intro ks
      induction ks with
      | nil => intro k; rfl
      | cons a r ih => intro k; simp [postL, ih]
    exact this ks _
  have nw_ge : ∀ i, i < w.heap.size → some i ≠ nv.ownBlock → some i ≠ nw.ownBlock := fun i hi hne e => by
    rcases L.loc with hl | ⟨g, hl, hg⟩
    · exact hne (e.trans hl)
    · rw [hl] at e; cases e; omega
  refine ⟨M' ++ [(⟨h.kind, h.pos, h.num, h.name, (postL M.length ks).2⟩, kr)], ⟨?_, ?_, ?_⟩, ?_, ?_, ?_, ?_⟩
  · rw [← List.append_assoc, flatN_snoc, List.length_append]
    exact hown
  · intro m hm
    rw [← List.append_assoc] at hm
    rcases List.mem_append.1 hm with hm | hm
    · exact row_keep (nds1.kids m hm) (fun g hgg => hg.block g ((nds1.kids m hm).lt g hgg).2 (row_ne (nds1.kids m hm) nds1.row (by decide) hgg))
    · obtain rfl := List.mem_singleton.1 hm
      have hk := row_keep kid1 (fun g hgg => hg.block g (kid1.lt g hgg).2 (row_ne kid1 nds1.row (by decide) hgg))
      rw [ht] at hk
      simp only [hkl]
      exact row_mono hk L.le0
  · rw [← List.append_assoc]
    refine List.pairwise_append.2 ⟨L.nds.dist, List.pairwise_singleton _ _, fun a ha c hc g hgg e => ?_⟩
    obtain rfl := List.mem_singleton.1 hc
    exact L.apart a ha g hgg e.symm
  · rw [List.map_append, L.map, ht]; rfl
  · intro m hm g hgg
    rcases List.mem_append.1 hm with hm | hm
    · exact L.new m hm g hgg
    · obtain rfl := List.mem_singleton.1 hm
      exact (L.kid.lt g hgg).1
  · exact ⟨hg.os.trans L.grown.os, hg.tape.trans L.grown.tape, hg.output.trans L.grown.output, by have := hg.size; omega, fun i hi hne => (hg.block i (by omega) (nw_ge i hi hne)).trans ((Below.heap_alloc wr o i (by omega)).trans (L.grown.block i hi hne))⟩
  · rcases hloc with hl | hl
    · rw [hl]; exact L.loc
    · exact .inr ⟨_, hl, by omega⟩
end
end
theorem fineL_get {ks : List P} (h : fineL ks = true) {j : Nat} {q : P} (hq : ks[j]? = some q) : fine q = true := by
  induction ks generalizing j with
  | nil => simp at hq
  | cons a r ih =>
    simp [fineL] at h
    cases j with
    | zero => simp at hq; subst hq; exact h.1
    | succ j => exact ih h.2 (by simpa using hq)
theorem postL_take_le (ks : List P) (k j : Nat) : (postL k (ks.take j)).1.length ≤ (postL k ks).1.length := by
  have := postL_append (ks.drop j) (ks.take j) k
  rw [List.take_append_drop] at this
  rw [this]
  simp
set_option maxHeartbeats 8000000 in
set_option maxRecDepth 100000 in
theorem list_core {w0 : World} {ty : Nat} {cs : Array Value} (h : Hd) (ks : List P) (p : P) (hp : ∀ k, post k p = (postL k ks).1 ++ [⟨h.kind, h.pos, h.num, h.name, (postL k ks).2⟩]) (hfk : fineL ks = true)
    (hn : ∀ {nm : String}, nm = nNode → ∀ w, (method 386 ty (.agg cs) nm).run Tryz.prog w = .ok (211, .agg #[.int .i64 h.kind, .int .i64 h.pos, .int .i64 h.num, .string h.name]) w)
    (fb : Nat) (ra : Value) (hent : ∀ args w, (callFunc fb args).run Tryz.prog w = .ok (.enter fb args) w) (hm : ∀ {nm : String}, nm = nBelow → ∀ w, (method 386 ty (.agg cs) nm).run Tryz.prog w = .ok (fb, ra) w)
    (hbelow : ∀ w, Below w0.heap.size w0 w → ks.length ≤ 100000 → Calls Tryz.prog fb #[ra] w fun e w' => ∃ v vs, e = .returned v ∧ BRow w' v vs ∧ vs.length = ks.length ∧ (∀ (i : Nat) (y : Value) (q : P), vs[i]? = some y → ks[i]? = some q → Lists w0 y q) ∧ Below w.heap.size w w') :
    Lists w0 (.iface ty (.agg cs)) p := by
  intro nv M w hbel hnd hlen
  rw [hp, List.length_append] at hlen
  have hkl : ks.length ≤ 100000 := by
    have hh : ∀ (ks : List P) (k : Nat), fineL ks = true → ks.length ≤ (postL k ks).1.length := by
      intro ks
      induction ks with
      | nil => intro k _; simp
      | cons a r ih =>
        intro k hf
        simp [fineL] at hf
        have := ih (k + (post k a).length) hf.2
        have := post_pos hf.1 k
        simp [postL]
        omega
    have := hh ks M.length hfk
    simp at hlen
    omega
  obtain ⟨i0, hi0, hz0, hz1, hz2⟩ := info_parts infoInt
  obtain ⟨i1, hi1, hy0, hy1, hy2⟩ := info_parts infoNode
  obtain ⟨na, nc, rfl⟩ := row_slice hnd.row
  have HB := hide hbel
  have HD := hide hnd
  have HH := hide hbelow
  clear hbel hnd hbelow
  go_enter Tryz.func25, Tryz.ntmps25
  go_wp2_with fail
  rw [hn (by kernel_rfl)]
  go_wp2_with fail
  refine (node_any _ _ _ _ _).mono ?_
  rintro e w1 ⟨rfl, b1⟩
  have B1 := hide b1
  clear b1
  go_wp2_with fail
  rw [hm (by kernel_rfl)]
  have bw1 : Below w.heap.size w (w1.alloc (.cells #[.int .i64 h.kind, .int .i64 h.pos, .int .i64 h.num, .string h.name, .slice none 0 0] 33)) := (unhide B1).alloc (unhide B1).size _
  have hcb := unhide HH _ ((unhide HB).trans (bw1.mono (unhide HB).size)) hkl
  have BW1 := hide bw1
  clear bw1
  go_wp2_with fail
  refine hcb.mono ?_
  rintro e w2 ⟨sv, vs, rfl, hrow, hvl, hL, b2⟩
  obtain ⟨sa, sc, rfl⟩ := brow_slice hrow
  have z2 := at_below b2 (one_first _ _) (by simp)
  have bw2 := (unhide BW1).trans (b2.mono (unhide BW1).size)
  have hLL : Hid (LL w0 w (.slice na M.length nc) M h ks w1.heap.size (.slice sa vs.length sc) vs 0 (.slice na M.length nc) [] (.slice none 0 0) w2) := hide ⟨by simpa using (unhide HD).below bw2, rfl, fun m hm => (by cases hm), ⟨bw2.os, bw2.tape, bw2.output, bw2.size, fun i hi _ => bw2.block i hi⟩, .inl rfl, fun e => by
      have := ((unhide HD).row.lt _ e).2
      have := (unhide B1).size
      omega, z2, (unhide B1).size, World.ownsRow_nil _ _ _ _, fun m hm g hg => (by simp [Value.ownBlock]), hrow, (unhide HB).trans (bw2.mono (unhide HB).size), (unhide HB).size⟩
  have hlt1 : w1.heap.size < w2.heap.size := (Array.getElem?_eq_some_iff.1 z2).1
  have HL := hide hL
  have HV := hide hvl
  have HF := hide hfk
  have hks : vs.length ≤ 100000 := by omega
  have HP := hide hp
  have hlen2 : M.length + (postL M.length ks).1.length + 1 ≤ 100000 := by simp at hlen; omega
  clear hkl hcb hrow hL b2 bw2 z2 hvl hfk HH BW1 hn hm hent hlen hp HD HB
  go_wp2
  go_loopw [0, 13] (fun nw i wr => ∃ (j : Nat) (M' : List (Nd × Value)) (kr : Value), j ≤ vs.length ∧ i = .int .i64 j ∧ Hid (LL w0 w (.slice na M.length nc) M h ks w1.heap.size (.slice sa vs.length sc) vs j nw M' kr wr)) (fun _ i _ => vs.length - (intOf i).toNat)
  case atStart => exact ⟨0, [], _, by omega, rfl, hLL⟩
  case round =>
    obtain ⟨j, M', kr, hj, rfl, HLL⟩ := hrel
    clear hLL
    have L := unhide HLL
    have hbw : w1.heap.size < wr.heap.size := (Array.getElem?_eq_some_iff.1 L.blk).1
    by_cases hlt : j < vs.length
    · obtain ⟨y, hy⟩ : ∃ y, vs[j]? = some y := ⟨_, List.getElem?_eq_getElem hlt⟩
      obtain ⟨q, hq⟩ : ∃ q, ks[j]? = some q := ⟨_, List.getElem?_eq_getElem (by have := unhide HV; omega)⟩
      obtain ⟨g, cap, e0, hg, cy⟩ := row_cell L.row hy
      injection e0 with e1 e2 e3
      subst e1
      have hle := postL_take_le ks M.length (j + 1)
      rw [show ks.take (j + 1) = ks.take j ++ [q] by rw [List.take_add_one, hq]; rfl, postL_snoc] at hle
      have hM : (M ++ M').length = M.length + (postL M.length (ks.take j)).1.length := by
        have := congrArg List.length L.map
        simp at this
        simp [this]
      have hc := unhide HL j y q hy hq _ _ wr L.bel L.nds (by rw [hM]; simp at hle; omega)
      obtain ⟨wa, wc', hnw⟩ := row_slice L.nds.row
      obtain ⟨n1', hn1⟩ : ∃ n, n = (M ++ M').length := ⟨_, rfl⟩
      rw [← hn1] at hnw
      have HN1 := hide hn1
      subst hnw
      clear hn1
      have HQ := hide hq
      clear e2 e3 hy hle hq L hM
      go_wp2_with fail
      refine hc.mono ?_
      rintro e wc ⟨nw2, M2, rfl, n1, n2, n3, n4, n5⟩
      have L2 := (unhide HLL).called (unhide HQ) (fineL_get (unhide HF) (unhide HQ)) n1 n2 n3 n4 n5
      obtain ⟨xa, xc, hnx⟩ := row_slice L2.nds.row
      obtain ⟨n3', hn3⟩ : ∃ n, n = (M ++ (M' ++ M2)).length := ⟨_, rfl⟩
      rw [← hn3] at hnx
      subst hnx
      obtain ⟨ka, kc, rfl⟩ := row_slice L2.kid
      have cb : wc.cell? ⟨w1.heap.size, 4, none⟩ = some (.slice ka j kc) := cell_of L2.blk rfl
      have fb : wc.frozen? ⟨w1.heap.size, 4, none⟩ = false := frozen_of L2.blk
      have lb : w1.heap.size < wc.heap.size := (Array.getElem?_eq_some_iff.1 L2.blk).1
      have hpos := L2.pos
      have hbig : (M ++ (M' ++ M2)).length ≤ 100000 := by
        have := congrArg List.length L2.map
        have := postL_take_le ks M.length (j + 1)
        simp at *
        omega
      have H2 := hide L2
      rw [← hn3] at hpos hbig
      have HN3 := hide hn3
      clear n1 n2 n3 n4 n5 L2 hc hn3 cy hg
      have hwl : w.heap.size ≤ wc.heap.size := (unhide H2).grown.size
      go_wp2_with (first | (at_builtin; refine wpList_append_own_at _ rfl _ _ 31 rfl w.heap.size 3 i0 (.int .i64 0) 1 8 Tryz.underlying31 hi0 hz0 hz1 hz2 rfl (by decide) _ _ _ rfl ((unhide H2).kid.alloc _) ⟨wc.heap.size, 0, none⟩ 1 1 [.int .i64 ((n3' : Int) - 1)] rfl rfl (cell_one_new _ _ _) (ints_oneCell .i64 [((n3' : Int) - 1)]) (by unfold maxLen; omega) (by omega) (by simp; omega) ?_; intro kr2 we q1 q2 q3 q4; have bE := (unhide H2).blkE _ q2; have cb2 : we.cell? ⟨w1.heap.size, 4, none⟩ = some (.slice ka j kc) := cell_of bE rfl; have fb2 : we.frozen? ⟨w1.heap.size, 4, none⟩ = false := frozen_of bE; have lb2 : w1.heap.size < we.heap.size := (Array.getElem?_eq_some_iff.1 bE).1; obtain ⟨k2a, k2c, rfl⟩ := row_slice q1; have Q1 := hide (And.intro q1 (And.intro q2 q4)); clear q1 q2 q3 q4 bE) | go_in)
      go_roundw
      case rel =>
        refine ⟨j + 1, M' ++ M2, _, by omega, by go_num, hide ((unhide H2).next _ ?_ (unhide Q1).2.1 (unhide Q1).2.2)⟩
        have e : (((M ++ (M' ++ M2)).length - 1 : Nat) : Int) = (n3' : Int) - 1 := by have := unhide HN3; omega
        rw [e]
        exact (unhide Q1).1
      case measure => simp [intOf]; omega
    · obtain rfl : j = vs.length := by omega
      obtain ⟨wa, wc', hnw⟩ := row_slice L.nds.row
      obtain ⟨n1', hn1⟩ : ∃ n, n = (M ++ M').length := ⟨_, rfl⟩
      rw [← hn1] at hnw
      have HN1 := hide hn1
      subst hnw
      obtain ⟨ka, kc, rfl⟩ := row_slice L.kid
      have d0 : wr.cell? ⟨w1.heap.size, 0, none⟩ = some (.int .i64 h.kind) := cell_of L.blk rfl
      have d1 : wr.cell? ⟨w1.heap.size, 1, none⟩ = some (.int .i64 h.pos) := cell_of L.blk rfl
      have d2 : wr.cell? ⟨w1.heap.size, 2, none⟩ = some (.int .i64 h.num) := cell_of L.blk rfl
      have d3 : wr.cell? ⟨w1.heap.size, 3, none⟩ = some (.string h.name) := cell_of L.blk rfl
      have d4 : wr.cell? ⟨w1.heap.size, 4, none⟩ = some (.slice ka vs.length kc) := cell_of L.blk rfl
      have hbig : (M ++ M').length ≤ 100000 := by
        have := congrArg List.length L.map
        have := postL_take_le ks M.length vs.length
        simp at *
        omega
      have hw0 : w0.heap.size ≤ wr.heap.size := L.bel.size
      have hbg := hide hbig
      clear hn1 L hbig
      go_wp2_with (first | (at_builtin; refine wpList_append_own_at _ rfl _ _ 28 rfl w0.heap.size 33 i1 (.agg #[.int .i64 0, .int .i64 0, .int .i64 0, .string ⟨#[]⟩, .slice none 0 0]) 5 64 Tryz.underlying28 hi1 hy0 hy1 hy2 rfl (by decide) _ _ _ rfl ((unhide HLL).nds.row.alloc _) ⟨wr.heap.size, 0, none⟩ 1 1 (nCells ((⟨h.kind, h.pos, h.num, h.name, (postL M.length ks).2⟩ : Nd), .slice ka vs.length kc)) rfl rfl (par.five_new _ _ _ _ _ _ _) (five_one _ _ _ _) (by have := unhide hbg; unfold maxLen; omega) (by have := unhide hbg; omega) (by simp; omega) ?_; intro nv' we q1 q2 q3 q4; have Q1 := hide (And.intro q1 (And.intro q2 q4)); clear q1 q2 q3 q4) | go_in)
      go_ret
      obtain ⟨M2, r1, r2, r3, r4, r5⟩ := (unhide HLL).fin (unhide HV) _ (unhide Q1).1 (unhide Q1).2.1 (unhide Q1).2.2
      exact ⟨_, M2, rfl, r1, r2.trans (unhide HP M.length).symm, r3, r4, r5⟩
section
theorem ent212 (args : Array Value) (w : World) : (callFunc 212 args).run Tryz.prog w = .ok (.enter 212 args) w := by kernel_rfl
theorem ent221 (args : Array Value) (w : World) : (callFunc 221 args).run Tryz.prog w = .ok (.enter 221 args) w := by kernel_rfl
theorem ent222 (args : Array Value) (w : World) : (callFunc 222 args).run Tryz.prog w = .ok (.enter 222 args) w := by kernel_rfl
theorem ent225 (args : Array Value) (w : World) : (callFunc 225 args).run Tryz.prog w = .ok (.enter 225 args) w := by kernel_rfl
theorem ent226 (args : Array Value) (w : World) : (callFunc 226 args).run Tryz.prog w = .ok (.enter 226 args) w := by kernel_rfl
theorem ent227 (args : Array Value) (w : World) : (callFunc 227 args).run Tryz.prog w = .ok (.enter 227 args) w := by kernel_rfl
theorem ent228 (args : Array Value) (w : World) : (callFunc 228 args).run Tryz.prog w = .ok (.enter 228 args) w := by kernel_rfl
theorem ent229 (args : Array Value) (w : World) : (callFunc 229 args).run Tryz.prog w = .ok (.enter 229 args) w := by kernel_rfl
theorem ent230 (args : Array Value) (w : World) : (callFunc 230 args).run Tryz.prog w = .ok (.enter 230 args) w := by kernel_rfl
theorem ent242 (args : Array Value) (w : World) : (callFunc 242 args).run Tryz.prog w = .ok (.enter 242 args) w := by kernel_rfl
theorem ent243 (args : Array Value) (w : World) : (callFunc 243 args).run Tryz.prog w = .ok (.enter 243 args) w := by kernel_rfl
section
variable {x : Cx} {w0 : World}
/-- All of a row are listed. -/
def ListsAll (w0 : World) (vs : List Value) (ks : List P) : Prop := ∀ (i : Nat) (y : Value) (q : P), vs[i]? = some y → ks[i]? = some q → Lists w0 y q
theorem ListsAll.nil : ListsAll w0 [] [] := fun i y q h => by simp at h
theorem ListsAll.cons {v : Value} {p : P} {vs : List Value} {ks : List P} (h : Lists w0 v p) (hr : ListsAll w0 vs ks) : ListsAll w0 (v :: vs) (p :: ks) := by
  intro i y q h1 h2
  cases i with
  | zero => simp at h1 h2; subst h1 h2; exact h
  | succ i => exact hr i y q (by simpa using h1) (by simpa using h2)
theorem ListsAll.append {vs us : List Value} {ks ls : List P} (hl : vs.length = ks.length) (h : ListsAll w0 vs ks) (hr : ListsAll w0 us ls) : ListsAll w0 (vs ++ us) (ks ++ ls) := by
  intro i y q h1 h2
  by_cases hi : i < vs.length
  · rw [List.getElem?_append_left hi] at h1
    rw [List.getElem?_append_left (by omega)] at h2
    exact h i y q h1 h2
  · rw [List.getElem?_append_right (by omega)] at h1
    rw [List.getElem?_append_right (by omega), ← hl] at h2
    exact hr _ y q h1 h2
/-- A piece without pieces below it. -/
theorem leaf_core {ty : Nat} (h : Hd) (h164 : ¬ ty = 164)
    (hn : ∀ {nm : String}, nm = nNode → ∀ a0 a1 a2 a3 w, (method 386 ty (.agg #[a0, a1, a2, a3]) nm).run Tryz.prog w = .ok (211, .agg #[a0, a1, a2, a3]) w)
    (hm : ∀ {nm : String}, nm = nBelow → ∀ a0 a1 a2 a3 w, (method 386 ty (.agg #[a0, a1, a2, a3]) nm).run Tryz.prog w = .ok (221, .agg #[a0, a1, a2, a3]) w) :
    Lists w0 (Value.iface ty (.agg h.cells.toArray)) (.node ty h []) := by
  refine list_core h [] _ (fun k => post_list k ty h [] h164) rfl (fun e w => hn e _ _ _ _ w) 221 _ ent221 (fun e w => hm e _ _ _ _ w) (fun w hb _ => ?_)
  exact (leafB_any _ _ _ _ w).mono fun e w' ⟨v, he, hr, hb⟩ => ⟨v, [], he, hr, rfl, ListsAll.nil, hb⟩
theorem one_core {ty : Nat} (h : Hd) (h164 : ¬ ty = 164) {t : Nat} {u : Value} {p : P} (hf : fine p = true) (hl : Lists w0 (Value.iface t u) p)
    (hn : ∀ {nm : String}, nm = nNode → ∀ a0 a1 a2 a3 a4 w, (method 386 ty (.agg #[a0, a1, a2, a3, a4]) nm).run Tryz.prog w = .ok (211, .agg #[a0, a1, a2, a3]) w)
    (hm : ∀ {nm : String}, nm = nBelow → ∀ a0 a1 a2 a3 a4 w, (method 386 ty (.agg #[a0, a1, a2, a3, a4]) nm).run Tryz.prog w = .ok (228, .agg #[a0, a1, a2, a3, a4]) w) :
    Lists w0 (Value.iface ty (.agg (h.cells ++ [Value.iface t u]).toArray)) (.node ty h [p]) := by
  refine list_core h [p] _ (fun k => post_list k ty h [p] h164) (by simp [fineL, hf]) (fun e w => hn e _ _ _ _ _ w) 228 _ ent228 (fun e w => hm e _ _ _ _ _ w) (fun w hb _ => ?_)
  exact (oneB_any t _ _ _ _ _ w).mono fun e w' ⟨v, he, hr, hb⟩ => ⟨v, [Value.iface t u], he, hr, rfl, ListsAll.cons hl ListsAll.nil, hb⟩
theorem two_core {ty : Nat} (h : Hd) (h164 : ¬ ty = 164) {t1 t2 : Nat} {u1 u2 : Value} {p1 p2 : P} (f1 : fine p1 = true) (f2 : fine p2 = true) (l1 : Lists w0 (Value.iface t1 u1) p1) (l2 : Lists w0 (Value.iface t2 u2) p2)
    (hn : ∀ {nm : String}, nm = nNode → ∀ a0 a1 a2 a3 a4 a5 w, (method 386 ty (.agg #[a0, a1, a2, a3, a4, a5]) nm).run Tryz.prog w = .ok (211, .agg #[a0, a1, a2, a3]) w)
    (hm : ∀ {nm : String}, nm = nBelow → ∀ a0 a1 a2 a3 a4 a5 w, (method 386 ty (.agg #[a0, a1, a2, a3, a4, a5]) nm).run Tryz.prog w = .ok (230, .agg #[a0, a1, a2, a3, a4, a5]) w) :
    Lists w0 (Value.iface ty (.agg (h.cells ++ [Value.iface t1 u1, Value.iface t2 u2]).toArray)) (.node ty h [p1, p2]) := by
  refine list_core h [p1, p2] _ (fun k => post_list k ty h _ h164) (by simp [fineL, f1, f2]) (fun e w => hn e _ _ _ _ _ _ w) 230 _ ent230 (fun e w => hm e _ _ _ _ _ _ w) (fun w hb _ => ?_)
  exact (twoB_any t1 t2 _ _ _ _ _ _ w).mono fun e w' ⟨v, he, hr, hb⟩ => ⟨v, [Value.iface t1 u1, Value.iface t2 u2], he, hr, rfl, ListsAll.cons l1 (ListsAll.cons l2 ListsAll.nil), hb⟩
theorem minus_core (h : Hd) {t : Nat} {u : Value} {p : P} (hf : fine p = true) (hl : Lists w0 (Value.iface t u) p) : Lists w0 (Value.iface 164 (.agg (h.cells ++ [Value.iface t u]).toArray)) (.node 164 h [p]) := by
  refine list_core h [.node 200 ⟨24, h.pos, 0, ⟨#[]⟩⟩ [], p] _ (fun k => ?_) (by simp [fineL, fine, fineT, leafT, hf]) (fun e w => mn164 e _ _ _ _ _ w) 229 _ ent229 (fun e w => mb164 e _ _ _ _ _ w) (fun w hb _ => ?_)
  · simp [post, postL]
  · exact (minusB_any t _ _ _ _ _ w).mono fun e w' ⟨v, he, hr, hb⟩ => ⟨v, _, he, hr, rfl, ListsAll.cons (leaf_core ⟨24, h.pos, 0, ⟨#[]⟩⟩ (by decide) (fun e a0 a1 a2 a3 w => mn200 e a0 a1 a2 a3 w) (fun e a0 a1 a2 a3 w => mb200 e a0 a1 a2 a3 w)) (ListsAll.cons hl ListsAll.nil), hb⟩
theorem leaf208 (u : Hd) : Lists w0 (Value.iface 208 (.agg u.cells.toArray)) (.node 208 u []) := leaf_core u (by decide) (fun e a0 a1 a2 a3 w => mn208 e a0 a1 a2 a3 w) (fun e a0 a1 a2 a3 w => mb208 e a0 a1 a2 a3 w)
theorem fine208 (u : Hd) : fine (.node 208 u []) = true := by simp [fine, fineT, fineL, leafT]
/-- A block: what is below it lies in its row. -/
theorem block_core (b : Bk) {B : Nat} (hr : w0.ownsRow B 85 1 b.v b.ps.length b.vs) (hf : fineL b.ps = true) (hl : ListsAll w0 b.vs b.ps) : Lists w0 (bkV b.cells) (.node 134 b.h b.ps) := by
  refine list_core b.h b.ps _ (fun k => post_list k 134 b.h _ (by decide)) hf (fun e w => mn134 e _ _ _ _ _ w) 212 _ ent212 (fun e w => mb134 e _ _ _ _ _ w) (fun w hb _ => ?_)
  have hvl : b.vs.length = b.ps.length := by have := hr.1; omega
  exact (listB_any _ _ _ _ _ w).mono fun e w' ⟨he, hb2⟩ => ⟨b.v, b.vs, he, BRow.of_row (base := B) (by rw [hvl]; exact row_keep (row_keep hr (fun g hg => hb.block g (hr.lt g hg).2)) (fun g hg => hb2.block g (Nat.lt_of_lt_of_le (hr.lt g hg).2 hb.size))), hvl, hl, hb2⟩
end
end
section
section
variable {x : Cx} {w0 : World}
theorem IsPart.iface {L : List (Nat × Obj)} {w : World} {v : Value} {p : P} (h : IsPart x L w v p) (hf : fine p = true) : ∃ t u, v = Value.iface t u := by
  cases h
  · simp [fine] at hf
  all_goals exact ⟨_, _, rfl⟩
/-- Rows of pieces: their values. -/
theorem shps_of {L : List (Nat × Obj)} {w : World} {vs : List Value} {ps : List P} (hl : vs.length = ps.length) (hp : ∀ (i : Nat) (y : Value) (p : P), vs[i]? = some y → ps[i]? = some p → IsPart x L w y p) (hf : fineL ps = true) : Shps vs := by
  intro v hv
  obtain ⟨i, hi⟩ := List.getElem?_of_mem hv
  obtain ⟨p, hp'⟩ : ∃ p, ps[i]? = some p := ⟨_, List.getElem?_eq_getElem (by rw [← hl]; exact (List.getElem?_eq_some_iff.1 hi).1)⟩
  exact (hp i v p hi hp').iface (fineL_get hf hp')
theorem row_at_w {w : World} {B : Nat} {v : Value} {n : Nat} {vs : List Value} (hr : w0.ownsRow B 85 1 v n vs) (hb : Below w0.heap.size w0 w) : BRow w v vs ∧ vs.length = n := by
  have hvl : vs.length = n := by have := hr.1; omega
  refine ⟨BRow.of_row (base := B) ?_, hvl⟩
  rw [hvl]
  exact row_keep hr (fun g hg => hb.block g (hr.lt g hg).2)
theorem addr_core (h u : Hd) {t : Nat} {z : Value} {p : P} (hf : fine p = true) (hl : Lists w0 (Value.iface t z) p) : Lists w0 (Value.iface 210 (.agg (h.cells ++ u.cells ++ [Value.iface t z]).toArray)) (.node 210 h [.node 208 u [], p]) := by
  refine list_core h [.node 208 u [], p] _ (fun k => post_list k 210 h _ (by decide)) (by simp [fineL, hf, fine208]) (fun e w => mn210 e _ _ _ _ _ _ _ _ _ w) 242 _ ent242 (fun e w => mb210 e _ _ _ _ _ _ _ _ _ w) (fun w hb _ => ?_)
  exact (addrB_any t _ _ _ _ _ _ _ _ _ w).mono fun e w' ⟨v, he, hr, hb⟩ => ⟨v, _, he, hr, rfl, ListsAll.cons (leaf208 u) (ListsAll.cons hl ListsAll.nil), hb⟩
theorem call_core (h u : Hd) {v : Value} {vs : List Value} {ps : List P} {B : Nat} (hr : w0.ownsRow B 85 1 v ps.length vs) (hs : Shps vs) (hf : fineL ps = true) (hl : ListsAll w0 vs ps) : Lists w0 (Value.iface 212 (.agg (h.cells ++ u.cells ++ [v]).toArray)) (.node 212 h (.node 208 u [] :: ps)) := by
  refine list_core h (.node 208 u [] :: ps) _ (fun k => post_list k 212 h _ (by decide)) (by simp [fineL, hf, fine208]) (fun e w => mn212 e _ _ _ _ _ _ _ _ _ w) 243 _ ent243 (fun e w => mb212 e _ _ _ _ _ _ _ _ _ w) (fun w hb hn => ?_)
  obtain ⟨hbr, hvl⟩ := row_at_w hr hb
  exact (callB_any _ _ _ _ _ _ _ _ v vs w hbr hs (by simp at hn; omega)).mono fun e w' ⟨r, he, hr, hb⟩ => ⟨r, _, he, hr, by simp [hvl], ListsAll.cons (leaf208 u) hl, hb⟩
theorem whl_core (h : Hd) (b : Bk) {t : Nat} {z : Value} {p : P} (hf : fine p = true) (hl : Lists w0 (Value.iface t z) p) (hfb : fine (.node 134 b.h b.ps) = true) (hb : Lists w0 (bkV b.cells) (.node 134 b.h b.ps)) : Lists w0 (Value.iface 144 (.agg (h.cells ++ [Value.iface t z] ++ b.cells).toArray)) (.node 144 h [p, .node 134 b.h b.ps]) := by
  refine list_core h [p, .node 134 b.h b.ps] _ (fun k => post_list k 144 h _ (by decide)) (by simp [fineL, hf, hfb]) (fun e w => mn144 e _ _ _ _ _ _ _ _ _ _ w) 226 _ ent226 (fun e w => mb144 e _ _ _ _ _ _ _ _ _ _ w) (fun w hbl _ => ?_)
  exact (whlB_any t _ _ _ _ _ _ _ _ _ _ w).mono fun e w' ⟨v, he, hr, hb2⟩ => ⟨v, _, he, hr, rfl, ListsAll.cons hl (ListsAll.cons hb ListsAll.nil), hb2⟩
theorem for_core (h : Hd) (b : Bk) {t1 t2 : Nat} {z1 z2 : Value} {p1 p2 : P} (f1 : fine p1 = true) (f2 : fine p2 = true) (l1 : Lists w0 (Value.iface t1 z1) p1) (l2 : Lists w0 (Value.iface t2 z2) p2) (hfb : fine (.node 134 b.h b.ps) = true) (hb : Lists w0 (bkV b.cells) (.node 134 b.h b.ps)) : Lists w0 (Value.iface 146 (.agg (h.cells ++ [Value.iface t1 z1, Value.iface t2 z2] ++ b.cells).toArray)) (.node 146 h [p1, p2, .node 134 b.h b.ps]) := by
  refine list_core h [p1, p2, .node 134 b.h b.ps] _ (fun k => post_list k 146 h _ (by decide)) (by simp [fineL, f1, f2, hfb]) (fun e w => mn146 e _ _ _ _ _ _ _ _ _ _ _ w) 227 _ ent227 (fun e w => mb146 e _ _ _ _ _ _ _ _ _ _ _ w) (fun w hbl _ => ?_)
  exact (forB_any t1 t2 _ _ _ _ _ _ _ _ _ _ _ w).mono fun e w' ⟨v, he, hr, hb2⟩ => ⟨v, _, he, hr, rfl, ListsAll.cons l1 (ListsAll.cons l2 (ListsAll.cons hb ListsAll.nil)), hb2⟩
theorem bk_bc {b : Bk} {B n : Nat} {w : World} (h : w.ownsRow B 85 1 b.v n b.vs) : Bc b.cells := by
  obtain ⟨a, c, e⟩ := row_slice h
  exact ⟨b.h.kind, b.h.pos, b.h.num, b.h.name, a, n, c, by simp [Bk.cells, Hd.cells, e]⟩
theorem if_core (h : Hd) (bs : List Bk) {t : Nat} {z u : Value} {p : P} {B : Nat} (hf : fine p = true) (hl : Lists w0 (Value.iface t z) p) (hu : w0.ownsRow B 134 5 u bs.length (bs.flatMap Bk.cells)) (hbc : ∀ b ∈ bs, Bc b.cells)
    (hfb : ∀ b ∈ bs, fine (.node 134 b.h b.ps) = true) (hlb : ∀ b ∈ bs, Lists w0 (bkV b.cells) (.node 134 b.h b.ps)) : Lists w0 (Value.iface 141 (.agg (h.cells ++ [Value.iface t z, u]).toArray)) (.node 141 h (p :: bs.map fun b => .node 134 b.h b.ps)) := by
  have hfl : fineL (bs.map fun b => P.node 134 b.h b.ps) = true := by
    clear hlb hbc hu
    induction bs with
    | nil => rfl
    | cons b r ih => simp only [List.map_cons, fineL]; rw [hfb b (by simp), ih (fun c hc => hfb c (by simp [hc]))]; rfl
  refine list_core h (p :: bs.map fun b => .node 134 b.h b.ps) _ (fun k => post_list k 141 h _ (by decide)) (by simp only [fineL, hf, hfl]; rfl) (fun e w => mn141 e _ _ _ _ _ _ w) 225 _ ent225 (fun e w => mb141 e _ _ _ _ _ _ w) (fun w hb hn => ?_)
  have hfl2 : bs.flatMap Bk.cells = (bs.map Bk.cells).flatten := by rw [List.flatMap_def]
  have hu2 : w.ownsRow B 134 5 u (bs.map Bk.cells).length (bs.map Bk.cells).flatten := by
    rw [List.length_map, ← hfl2]
    exact row_keep hu (fun g hg => hb.block g (hu.lt g hg).2)
  refine (ifB_any t _ _ _ _ z u (bs.map Bk.cells) w hu2 (fun c hc => ?_) (by simp at hn ⊢; omega)).mono fun e w' ⟨r, he, hr, hb2⟩ => ⟨r, _, he, hr, by simp, ListsAll.cons hl ?_, hb2⟩
  · obtain ⟨b, hb, rfl⟩ := List.mem_map.1 hc
    exact hbc b hb
  · intro i y q h1 h2
    simp only [List.getElem?_map, List.map_map] at h1 h2
    cases hbi : bs[i]? with
    | none => rw [hbi] at h2; cases h2
    | some b =>
      rw [hbi] at h1 h2
      cases h1
      cases h2
      exact hlb b (List.mem_of_getElem? hbi)
theorem func_core (h : Hd) (b : Bk) {v1 v2 : Value} {ps ls : List P} {vs us : List Value} {B : Nat} (h1 : w0.ownsRow B 85 1 v1 ps.length vs) (h2 : w0.ownsRow B 85 1 v2 ls.length us) (s1 : Shps vs) (s2 : Shps us) (f1 : fineL ps = true) (f2 : fineL ls = true)
    (l1 : ListsAll w0 vs ps) (l2 : ListsAll w0 us ls) (hfb : fine (.node 134 b.h b.ps) = true) (hb : Lists w0 (bkV b.cells) (.node 134 b.h b.ps)) : Lists w0 (Value.iface 136 (.agg (h.cells ++ [v1, v2] ++ b.cells).toArray)) (.node 136 h (ps ++ ls ++ [.node 134 b.h b.ps])) := by
  refine list_core h (ps ++ ls ++ [.node 134 b.h b.ps]) _ (fun k => post_list k 136 h _ (by decide)) (by simp [fineL_append, fineL, f1, f2, hfb]) (fun e w => mn136 e _ _ _ _ _ _ _ _ _ _ _ w) 222 _ ent222 (fun e w => mb136 e _ _ _ _ _ _ _ _ _ _ _ w) (fun w hbl hn => ?_)
  obtain ⟨r1, q1⟩ := row_at_w h1 hbl
  obtain ⟨r2, q2⟩ := row_at_w h2 hbl
  simp at hn
  exact (funcB_any _ _ _ _ v1 v2 _ _ _ _ _ vs us w r1 r2 s1 s2 (by omega) (by omega)).mono fun e w' ⟨v, he, hr, hb2⟩ => ⟨v, _, he, hr, by simp [q1, q2], ListsAll.append (by simp [q1, q2]) (ListsAll.append q1 l1 l2) (ListsAll.cons hb ListsAll.nil), hb2⟩
theorem leaf_ty {ty : Nat} (h : Hd) (ht : leafT.contains ty = true) : Lists w0 (Value.iface ty (.agg h.cells.toArray)) (.node ty h []) := by
  have e : ty = 130 ∨ ty = 132 ∨ ty = 133 ∨ ty = 199 ∨ ty = 208 ∨ ty = 198 ∨ ty = 200 ∨ ty = 201 ∨ ty = 203 ∨ ty = 193 ∨ ty = 216 ∨ ty = 219 := by simpa [leafT] using ht
  rcases e with rfl | rfl | rfl | rfl | rfl | rfl | rfl | rfl | rfl | rfl | rfl | rfl
  · exact leaf_core h (by decide) (fun e a0 a1 a2 a3 w => mn130 e a0 a1 a2 a3 w) (fun e a0 a1 a2 a3 w => mb130 e a0 a1 a2 a3 w)
  · exact leaf_core h (by decide) (fun e a0 a1 a2 a3 w => mn132 e a0 a1 a2 a3 w) (fun e a0 a1 a2 a3 w => mb132 e a0 a1 a2 a3 w)
  · exact leaf_core h (by decide) (fun e a0 a1 a2 a3 w => mn133 e a0 a1 a2 a3 w) (fun e a0 a1 a2 a3 w => mb133 e a0 a1 a2 a3 w)
  · exact leaf_core h (by decide) (fun e a0 a1 a2 a3 w => mn199 e a0 a1 a2 a3 w) (fun e a0 a1 a2 a3 w => mb199 e a0 a1 a2 a3 w)
  · exact leaf_core h (by decide) (fun e a0 a1 a2 a3 w => mn208 e a0 a1 a2 a3 w) (fun e a0 a1 a2 a3 w => mb208 e a0 a1 a2 a3 w)
  · exact leaf_core h (by decide) (fun e a0 a1 a2 a3 w => mn198 e a0 a1 a2 a3 w) (fun e a0 a1 a2 a3 w => mb198 e a0 a1 a2 a3 w)
  · exact leaf_core h (by decide) (fun e a0 a1 a2 a3 w => mn200 e a0 a1 a2 a3 w) (fun e a0 a1 a2 a3 w => mb200 e a0 a1 a2 a3 w)
  · exact leaf_core h (by decide) (fun e a0 a1 a2 a3 w => mn201 e a0 a1 a2 a3 w) (fun e a0 a1 a2 a3 w => mb201 e a0 a1 a2 a3 w)
  · exact leaf_core h (by decide) (fun e a0 a1 a2 a3 w => mn203 e a0 a1 a2 a3 w) (fun e a0 a1 a2 a3 w => mb203 e a0 a1 a2 a3 w)
  · exact leaf_core h (by decide) (fun e a0 a1 a2 a3 w => mn193 e a0 a1 a2 a3 w) (fun e a0 a1 a2 a3 w => mb193 e a0 a1 a2 a3 w)
  · exact leaf_core h (by decide) (fun e a0 a1 a2 a3 w => mn216 e a0 a1 a2 a3 w) (fun e a0 a1 a2 a3 w => mb216 e a0 a1 a2 a3 w)
  · exact leaf_core h (by decide) (fun e a0 a1 a2 a3 w => mn219 e a0 a1 a2 a3 w) (fun e a0 a1 a2 a3 w => mb219 e a0 a1 a2 a3 w)
theorem one_ty {ty : Nat} (h : Hd) {t : Nat} {u : Value} {p : P} (hf : fine p = true) (hl : Lists w0 (Value.iface t u) p) (ht : oneT.contains ty = true) : Lists w0 (Value.iface ty (.agg (h.cells ++ [Value.iface t u]).toArray)) (.node ty h [p]) := by
  have e : ty = 202 ∨ ty = 164 ∨ ty = 194 ∨ ty = 207 ∨ ty = 213 ∨ ty = 215 ∨ ty = 217 ∨ ty = 218 ∨ ty = 220 := by simpa [oneT] using ht
  rcases e with rfl | rfl | rfl | rfl | rfl | rfl | rfl | rfl | rfl
  · exact one_core h (by decide) hf hl (fun e a0 a1 a2 a3 a4 w => mn202 e a0 a1 a2 a3 a4 w) (fun e a0 a1 a2 a3 a4 w => mb202 e a0 a1 a2 a3 a4 w)
  · exact minus_core h hf hl
  · exact one_core h (by decide) hf hl (fun e a0 a1 a2 a3 a4 w => mn194 e a0 a1 a2 a3 a4 w) (fun e a0 a1 a2 a3 a4 w => mb194 e a0 a1 a2 a3 a4 w)
  · exact one_core h (by decide) hf hl (fun e a0 a1 a2 a3 a4 w => mn207 e a0 a1 a2 a3 a4 w) (fun e a0 a1 a2 a3 a4 w => mb207 e a0 a1 a2 a3 a4 w)
  · exact one_core h (by decide) hf hl (fun e a0 a1 a2 a3 a4 w => mn213 e a0 a1 a2 a3 a4 w) (fun e a0 a1 a2 a3 a4 w => mb213 e a0 a1 a2 a3 a4 w)
  · exact one_core h (by decide) hf hl (fun e a0 a1 a2 a3 a4 w => mn215 e a0 a1 a2 a3 a4 w) (fun e a0 a1 a2 a3 a4 w => mb215 e a0 a1 a2 a3 a4 w)
  · exact one_core h (by decide) hf hl (fun e a0 a1 a2 a3 a4 w => mn217 e a0 a1 a2 a3 a4 w) (fun e a0 a1 a2 a3 a4 w => mb217 e a0 a1 a2 a3 a4 w)
  · exact one_core h (by decide) hf hl (fun e a0 a1 a2 a3 a4 w => mn218 e a0 a1 a2 a3 a4 w) (fun e a0 a1 a2 a3 a4 w => mb218 e a0 a1 a2 a3 a4 w)
  · exact one_core h (by decide) hf hl (fun e a0 a1 a2 a3 a4 w => mn220 e a0 a1 a2 a3 a4 w) (fun e a0 a1 a2 a3 a4 w => mb220 e a0 a1 a2 a3 a4 w)
theorem two_ty {ty : Nat} (h : Hd) {t1 t2 : Nat} {u1 u2 : Value} {p1 p2 : P} (f1 : fine p1 = true) (f2 : fine p2 = true) (l1 : Lists w0 (Value.iface t1 u1) p1) (l2 : Lists w0 (Value.iface t2 u2) p2) (ht : twoT.contains ty = true) : Lists w0 (Value.iface ty (.agg (h.cells ++ [Value.iface t1 u1, Value.iface t2 u2]).toArray)) (.node ty h [p1, p2]) := by
  have e : ty = 169 ∨ ty = 191 ∨ ty = 196 ∨ ty = 197 ∨ ty = 214 := by simpa [twoT] using ht
  rcases e with rfl | rfl | rfl | rfl | rfl
  · exact two_core h (by decide) f1 f2 l1 l2 (fun e a0 a1 a2 a3 a4 a5 w => mn169 e a0 a1 a2 a3 a4 a5 w) (fun e a0 a1 a2 a3 a4 a5 w => mb169 e a0 a1 a2 a3 a4 a5 w)
  · exact two_core h (by decide) f1 f2 l1 l2 (fun e a0 a1 a2 a3 a4 a5 w => mn191 e a0 a1 a2 a3 a4 a5 w) (fun e a0 a1 a2 a3 a4 a5 w => mb191 e a0 a1 a2 a3 a4 a5 w)
  · exact two_core h (by decide) f1 f2 l1 l2 (fun e a0 a1 a2 a3 a4 a5 w => mn196 e a0 a1 a2 a3 a4 a5 w) (fun e a0 a1 a2 a3 a4 a5 w => mb196 e a0 a1 a2 a3 a4 a5 w)
  · exact two_core h (by decide) f1 f2 l1 l2 (fun e a0 a1 a2 a3 a4 a5 w => mn197 e a0 a1 a2 a3 a4 a5 w) (fun e a0 a1 a2 a3 a4 a5 w => mb197 e a0 a1 a2 a3 a4 a5 w)
  · exact two_core h (by decide) f1 f2 l1 l2 (fun e a0 a1 a2 a3 a4 a5 w => mn214 e a0 a1 a2 a3 a4 a5 w) (fun e a0 a1 a2 a3 a4 a5 w => mb214 e a0 a1 a2 a3 a4 a5 w)
theorem fine134 (h : Hd) {ps : List P} (hf : fineL ps = true) : fine (.node 134 h ps) = true := by simp only [fine, fineT, hf]; simp
theorem fine_kids {ty : Nat} {h : Hd} {ks : List P} (hf : fine (.node ty h ks) = true) : fineL ks = true := by
  simp only [fine, Bool.and_eq_true] at hf
  exact hf.2
theorem all_of {vs : List Value} {ps : List P} (hf : fineL ps = true) (ih : ∀ (i : Nat) (y : Value) (p : P), vs[i]? = some y → ps[i]? = some p → fine p = true → Lists w0 y p) : ListsAll w0 vs ps :=
  fun i y q h1 h2 => ih i y q h1 h2 (fineL_get hf h2)
/-- Every piece that was read is listed as it should be. -/
theorem list_part {v : Value} {p : P} (h : IsPart x [] w0 v p) : fine p = true → Lists w0 v p := by
  induction h with
  | nil => intro hf; simp [fine] at hf
  | leaf ty h ht => intro hf; exact leaf_ty h ht
  | one ty h h1 ht ih =>
    intro hf
    have fk := fine_kids hf
    simp only [fineL, Bool.and_true] at fk
    obtain ⟨t, u, rfl⟩ := h1.iface fk
    exact one_ty h fk (ih fk) ht
  | two ty h h1 h2 ht i1 i2 =>
    intro hf
    have fk := fine_kids hf
    simp only [fineL, Bool.and_true, Bool.and_eq_true] at fk
    obtain ⟨t, u, rfl⟩ := h1.iface fk.1
    obtain ⟨t2, u2, rfl⟩ := h2.iface fk.2
    exact two_ty h fk.1 fk.2 (i1 fk.1) (i2 fk.2) ht
  | addr h u h1 ih =>
    intro hf
    have fk := fine_kids hf
    simp only [fineL, Bool.and_true, Bool.and_eq_true] at fk
    obtain ⟨t, z, rfl⟩ := h1.iface fk.2
    exact addr_core h u fk.2 (ih fk.2)
  | call h u hr hp ih =>
    intro hf
    have fk := fine_kids hf
    simp only [fineL, Bool.and_eq_true] at fk
    exact call_core h u hr.row (shps_of (by have := hr.row.1; omega) hp fk.2) fk.2 (all_of fk.2 ih)
  | whl h b h1 hr hp i1 ih =>
    intro hf
    have fk := fine_kids hf
    simp only [fineL, Bool.and_true, Bool.and_eq_true] at fk
    obtain ⟨t, z, rfl⟩ := h1.iface fk.1
    exact whl_core h b fk.1 (i1 fk.1) fk.2 (block_core b hr.row (fine_kids fk.2) (all_of (fine_kids fk.2) ih))
  | loop h b h1 h2 hr hp i1 i2 ih =>
    intro hf
    have fk := fine_kids hf
    simp only [fineL, Bool.and_true, Bool.and_eq_true] at fk
    obtain ⟨t, z, rfl⟩ := h1.iface fk.1
    obtain ⟨t2, z2, rfl⟩ := h2.iface fk.2.1
    exact for_core h b fk.1 fk.2.1 (i1 fk.1) (i2 fk.2.1) fk.2.2 (block_core b hr.row (fine_kids fk.2.2) (all_of (fine_kids fk.2.2) ih))
  | ife h bs h1 hr hb hp i1 ih =>
    intro hf
    have fk := fine_kids hf
    simp only [fineL, Bool.and_eq_true] at fk
    obtain ⟨t, z, rfl⟩ := h1.iface fk.1
    have fb : ∀ b ∈ bs, fine (.node 134 b.h b.ps) = true := fun b hm => by
      obtain ⟨i, hi⟩ := List.getElem?_of_mem hm
      exact fineL_get fk.2 (j := i) (by rw [List.getElem?_map, hi]; rfl)
    exact if_core h bs fk.1 (i1 fk.1) hr.row (fun b hm => bk_bc (hb b hm).row) fb (fun b hm => block_core b (hb b hm).row (fine_kids (fb b hm)) (all_of (fine_kids (fb b hm)) (ih b hm)))
  | func h b r1 p1 r2 p2 r3 p3 i1 i2 i3 =>
    intro hf
    have fk := fine_kids hf
    simp only [fineL_append, fineL, Bool.and_true, Bool.and_eq_true] at fk
    exact func_core h b r1.row r2.row (shps_of (by have := r1.row.1; omega) p1 fk.1.1) (shps_of (by have := r2.row.1; omega) p2 fk.1.2) fk.1.1 fk.1.2 (all_of fk.1.1 i1) (all_of fk.1.2 i2) fk.2 (block_core b r3.row (fine_kids fk.2) (all_of (fine_kids fk.2) i3))
end
end
def sumK (l : List Nd) : Nat := (l.map fun n => n.kids.length).sum
theorem sumK_append (a b : List Nd) : sumK (a ++ b) = sumK a + sumK b := by simp [sumK]
theorem postL_two : ∀ (ks : List P) (k : Nat), (postL k ks).2.length = ks.length := by
  intro ks
  induction ks with
  | nil => intro k; rfl
  | cons a r ih => intro k; simp [postL, ih]
mutual
theorem post_sum : (p : P) → (k : Nat) → fine p = true → sumK (post k p) + 1 ≤ (post k p).length
  | .nil, k, hf => by simp [fine] at hf
  | .node ty h ks, k, hf => by
    simp only [fine, Bool.and_eq_true] at hf
    have ih := postL_sum ks (if ty = 164 then k + 1 else k) hf.2
    have h2 := postL_two ks (if ty = 164 then k + 1 else k)
    by_cases ht : ty = 164
    · simp only [post, ht, if_true] at ih h2 ⊢
      simp only [sumK_append, List.length_append, List.length_cons, List.length_nil] at *
      simp [sumK] at *
      omega
    · simp only [post, ht, if_false] at ih h2 ⊢
      simp only [sumK_append, List.length_append, List.length_cons, List.length_nil] at *
      simp [sumK] at *
      omega
theorem postL_sum : (ks : List P) → (k : Nat) → fineL ks = true → sumK (postL k ks).1 + ks.length ≤ (postL k ks).1.length
  | [], k, _ => by simp [postL, sumK]
  | p :: ps, k, hf => by
    simp only [fineL, Bool.and_eq_true] at hf
    have i1 := post_sum p k hf.1
    have i2 := postL_sum ps (k + (post k p).length) hf.2
    simp only [postL, sumK_append, List.length_append, List.length_cons]
    omega
end
theorem listing_sum {ps : List P} (hf : fineL ps = true) : sumK (listing ps) ≤ (postL 0 ps).1.length := by
  have h1 := postL_sum ps 0 hf
  have h2 := postL_two ps 0
  unfold listing
  rw [sumK_append]
  simp only [sumK, List.map_cons, List.map_nil, List.sum_cons, List.sum_nil] at *
  omega
section
/-- A node that is marked from k on. -/
def mkN (k : Nat) (m : Nd × Value) : Nd × Value := (⟨((k : Nat) : Int), ((k + 1 : Nat) : Int), ((k + 2 : Nat) : Int), markS (k + 3), (List.range m.1.kids.length).map fun i => k + 4 + i⟩, m.2)
def mkM : Nat → List (Nd × Value) → List (Nd × Value)
  | _, [] => []
  | k, m :: r => mkN k m :: mkM (k + 4 + m.1.kids.length) r
def mkE : Nat → List (Nd × Value) → Nat
  | k, [] => k
  | k, m :: r => mkE (k + 4 + m.1.kids.length) r
theorem mkM_snoc (A : List (Nd × Value)) (m : Nd × Value) (k : Nat) : mkM k (A ++ [m]) = mkM k A ++ [mkN (mkE k A) m] := by
  induction A generalizing k with
  | nil => rfl
  | cons a r ih => simp [mkM, mkE, ih]
theorem mkE_snoc (A : List (Nd × Value)) (m : Nd × Value) (k : Nat) : mkE k (A ++ [m]) = mkE k A + 4 + m.1.kids.length := by
  induction A generalizing k with
  | nil => rfl
  | cons a r ih => simp [mkE, ih]
theorem mkM_len (A : List (Nd × Value)) (k : Nat) : (mkM k A).length = A.length := by
  induction A generalizing k with
  | nil => rfl
  | cons a r ih => simp [mkM, ih]
theorem mkM_snd (A : List (Nd × Value)) (k : Nat) : (mkM k A).map (·.2) = A.map (·.2) := by
  induction A generalizing k with
  | nil => rfl
  | cons a r ih => simp [mkM, mkN, ih]
theorem mkE_mono (A B : List (Nd × Value)) (k : Nat) : mkE k A ≤ mkE k (A ++ B) := by
  induction A generalizing k with
  | nil =>
    have : ∀ (B : List (Nd × Value)) (k : Nat), k ≤ mkE k B := by
      intro B
      induction B with
      | nil => intro k; exact Nat.le_refl _
      | cons b r ih => intro k; have := ih (k + 4 + b.1.kids.length); simp only [mkE]; omega
    exact this B k
  | cons a r ih => exact ih _
theorem mkE_pos (A : List (Nd × Value)) (k : Nat) : k ≤ mkE k A := mkE_mono [] A k
/-- What marks turn: the nodes' own rows; new blocks may be laid. -/
structure Mkd (v : Value) (M : List (Nd × Value)) (w w' : World) : Prop where
  os : w'.os = w.os
  tape : w'.tape = w.tape
  output : w'.output = w.output
  size : w.heap.size ≤ w'.heap.size
  block : ∀ i, i < w.heap.size → v.ownBlock ≠ some i → (∀ m ∈ M, m.2.ownBlock ≠ some i) → w'.heap[i]? = w.heap[i]?
theorem Mkd.refl (v : Value) (M : List (Nd × Value)) (w : World) : Mkd v M w w := ⟨rfl, rfl, rfl, Nat.le_refl _, fun _ _ _ _ => rfl⟩
theorem Mkd.trans {v : Value} {M : List (Nd × Value)} {w w1 w2 : World} (h : Mkd v M w w1) (k : Mkd v M w1 w2) : Mkd v M w w2 :=
  ⟨k.os.trans h.os, k.tape.trans h.tape, k.output.trans h.output, Nat.le_trans h.size k.size, fun i hi h1 h2 => (k.block i (Nat.lt_of_lt_of_le hi h.size) h1 h2).trans (h.block i hi h1 h2)⟩
theorem Mkd.of_below {v : Value} {M : List (Nd × Value)} {w w' : World} (h : Below w.heap.size w w') : Mkd v M w w' := ⟨h.os, h.tape, h.output, h.size, fun i hi _ _ => h.block i hi⟩
theorem Mkd.set {v : Value} {M : List (Nd × Value)} {w : World} {g o : Nat} (hg : v.ownBlock = some g) (u : Value) : Mkd v M w (w.setCell ⟨g, o, none⟩ u) :=
  ⟨rfl, rfl, rfl, by simp, fun i hi h1 _ => Below.heap_setCell w ⟨g, o, none⟩ u i (fun e => h1 (by rw [hg]; exact congrArg some e.symm))⟩
/-- Four cells of a node. -/
theorem flatN_set (A R : List (Nd × Value)) (m m' : Nd × Value) (h2 : m'.2 = m.2) : flatN (A ++ m' :: R) =
    ((((flatN (A ++ m :: R)).set (A.length * 5) (.int .i64 m'.1.kind)).set (A.length * 5 + 1) (.int .i64 m'.1.pos)).set (A.length * 5 + 2) (.int .i64 m'.1.num)).set (A.length * 5 + 3) (.string m'.1.name) := by
  have hA : (flatN A).length = A.length * 5 := by
    rw [flatN_flat, rws.flat_len (k := 5) (fun c hc => by obtain ⟨s, _, rfl⟩ := List.mem_map.1 hc; rfl)]
    simp
  have e : ∀ x, flatN (A ++ x :: R) = flatN A ++ (nCells x ++ flatN R) := fun x => by simp [flatN]
  rw [e, e, ← hA]
  simp [nCells, h2]
section
variable {base g cap j : Nat} {A R : List (Nd × Value)} {m : Nd × Value} {w : World}
/-- A node's four cells are set. -/
theorem Nds.set4 (h : Nds base (.slice (some ⟨g, 0, none⟩) (A ++ m :: R).length cap) (A ++ m :: R) w) (n : Nd) {w2 : World} (hb : Below w.heap.size (((w.setCell ⟨g, A.length * 5, none⟩ (.int .i64 n.kind)).setCell ⟨g, A.length * 5 + 1, none⟩ (.int .i64 n.pos)).setCell ⟨g, A.length * 5 + 2, none⟩ (.int .i64 n.num)) w2) :
    (w2.setCell ⟨g, A.length * 5 + 3, none⟩ (.string n.name)).ownsRow base 33 5 (.slice (some ⟨g, 0, none⟩) (A ++ m :: R).length cap) (A ++ m :: R).length (flatN (A ++ (n, m.2) :: R)) := by
  have r3 := rws.row_put (o := A.length * 5 + 2) (rws.row_put (o := A.length * 5 + 1) (rws.row_put (o := A.length * 5) h.row (.int .i64 n.kind)) (.int .i64 n.pos)) (.int .i64 n.num)
  have r4 := row_keep (w' := w2) r3 (fun b hbb => hb.block b (by have := (r3.lt b hbb).2; simpa using this))
  have r5 := rws.row_put (o := A.length * 5 + 3) r4 (.string n.name)
  rw [flatN_set A R m (n, m.2) rfl]
  exact r5
/-- One node marked, its kids too. -/
theorem Nds.one (h : Nds base (.slice (some ⟨g, 0, none⟩) (A ++ m :: R).length cap) (A ++ m :: R) w) (m' : Nd × Value) (h2 : m'.2 = m.2) {w4 : World}
    (hrow : w4.ownsRow base 33 5 (.slice (some ⟨g, 0, none⟩) (A ++ m :: R).length cap) (A ++ m :: R).length (flatN (A ++ m' :: R))) (hkid : w4.ownsRow base 3 1 m'.2 m'.1.kids.length (ints m'.1.kids))
    (hb : ∀ i, i < w.heap.size → i ≠ g → m.2.ownBlock ≠ some i → w4.heap[i]? = w.heap[i]?) : Nds base (.slice (some ⟨g, 0, none⟩) (A ++ m :: R).length cap) (A ++ m' :: R) w4 := by
  have hne : ∀ x ∈ A ++ R, ∀ i, x.2.ownBlock = some i → m.2.ownBlock ≠ some i := by
    intro x hx i hi e
    have hd := h.dist
    rw [List.pairwise_append, List.pairwise_cons] at hd
    rcases List.mem_append.1 hx with hx | hx
    · exact hd.2.2 x hx m (by simp) i hi e
    · exact hd.2.1.1 x hx i e hi
  refine ⟨?_, fun x hx => ?_, ?_⟩
  · have e : (A ++ m' :: R).length = (A ++ m :: R).length := by simp
    rw [e]
    exact hrow
  · have hx' : x ∈ A ++ R ∨ x = m' := by
      rcases List.mem_append.1 hx with hx | hx
      · exact .inl (List.mem_append.2 (.inl hx))
      · rcases List.mem_cons.1 hx with hx | hx
        · exact .inr hx
        · exact .inl (List.mem_append.2 (.inr hx))
    rcases hx' with hx' | rfl
    · have hxm : x ∈ A ++ m :: R := by
        rcases List.mem_append.1 hx' with h1 | h1
        · exact List.mem_append.2 (.inl h1)
        · exact List.mem_append.2 (.inr (List.mem_cons_of_mem _ h1))
      have hk := h.kids x hxm
      refine row_keep hk (fun i hi => hb i (hk.lt i hi).2 (fun e => ?_) (hne x hx' i hi))
      subst e
      exact row_ne hk h.row (by decide) hi rfl
    · exact hkid
  · have hd := h.dist
    rw [List.pairwise_append, List.pairwise_cons] at hd ⊢
    refine ⟨hd.1, ⟨fun b hb g hg => ?_, hd.2.1.2⟩, fun a ha b hb => ?_⟩
    · rw [h2] at hg; exact hd.2.1.1 b hb g hg
    · rcases List.mem_cons.1 hb with rfl | hb
      · intro g hg; rw [h2]; exact hd.2.2 a ha m (by simp) g hg
      · exact hd.2.2 a ha b (by simp [hb])
theorem row_get {w : World} {base e k n g cap : Nat} {xs : List Value} (h : w.ownsRow base e k (.slice (some ⟨g, 0, none⟩) n cap) n xs) {i : Nat} {u : Value} (hi : xs[i]? = some u) : w.cell? ⟨g, i, none⟩ = some u := by
  have hl : i < xs.length := (List.getElem?_eq_some_iff.1 hi).1
  rcases h.2 with ⟨e, _⟩ | ⟨g', cap', cur, e, hg, hh, hc, hm, hsz, hx⟩
  · cases e
  · cases e
    have h1 := h.1
    rw [← hx, List.getElem?_take_of_lt (by omega), Array.getElem?_toList] at hi
    exact cell_of hh hi
end
end
theorem span (o : Option Nat) : ∃ lo hi : Nat, (∀ i, o = some i → lo ≤ i ∧ i < hi) ∧ (∀ i, o ≠ some i → i < lo ∨ hi ≤ i) := by
  cases o with
  | none => exact ⟨0, 0, fun i e => (by cases e), fun i _ => .inr (Nat.zero_le _)⟩
  | some x => exact ⟨x, x + 1, fun i e => (by cases e; omega), fun i e => (by have : x ≠ i := fun q => e (by rw [q]); omega)⟩
theorem mk_kids (k n : Nat) : rws.mk ((k : Int) + 1 + 1 + 1 + 1) n = ((List.range n).map fun i => k + 4 + i).map fun (x : Nat) => (x : Int) := by
  unfold rws.mk
  rw [List.map_map]
  apply List.map_congr_left
  intro i _
  simp
  omega
set_option maxHeartbeats 8000000 in
set_option maxRecDepth 100000 in
theorem markNodes_any {base : Nat} (M : List (Nd × Value)) (v : Value) (w : World) (h : Nds base v M w) (hl : M.length ≤ 100000) (hE : mkE 1 M ≤ 1000000) :
    Calls Tryz.prog 16 #[v, .int .i64 1] w fun e w' => e = .returned (.int .i64 ((mkE 1 M : Nat) : Int)) ∧ Nds base v (mkM 1 M) w' ∧ Mkd v M w w' := by
  obtain ⟨a, cap, rfl, hc1, hc2, ha⟩ := rws.row_head h.row
  unfold maxLen at hc2
  obtain ⟨n, hn⟩ : ∃ n, n = M.length := ⟨_, rfl⟩
  rw [← hn] at hl hc1 ha h ⊢
  have HN := hide hn
  have H := hide h
  have HE := hide hE
  clear h hn hE
  go_enter Tryz.func16, Tryz.ntmps16
  go_wp2
  go_loopw [1, 5] (fun kv i wr => ∃ (j k : Nat), j ≤ n ∧ i = .int .i64 j ∧ kv = .int .i64 (k : Int) ∧ Hid (k = mkE 1 (M.take j)) ∧ Hid (Nds base (.slice a n cap) (mkM 1 (M.take j) ++ M.drop j) wr) ∧ Hid (Mkd (.slice a n cap) M w wr)) (fun _ i _ => n - (intOf i).toNat)
  case atStart => exact ⟨0, 1, by omega, rfl, rfl, hide rfl, hide (by simpa [mkM] using unhide H), hide (Mkd.refl _ _ _)⟩
  case round =>
    obtain ⟨j, k, hj, rfl, rfl, HK, HD, HM⟩ := hrel
    by_cases hlt : j < n
    · obtain ⟨g, rfl⟩ := ha (by omega)
      obtain ⟨m, hm⟩ : ∃ m, M[j]? = some m := ⟨_, List.getElem?_eq_getElem (by have := unhide HN; omega)⟩
      have hdr : M.drop j = m :: M.drop (j + 1) := by
        rw [List.drop_eq_getElem_cons (by have := unhide HN; omega)]
        have := (List.getElem?_eq_some_iff.1 hm).2
        rw [this]
      have htk : M.take (j + 1) = M.take j ++ [m] := by rw [List.take_add_one, hm]; rfl
      have hAl : (mkM 1 (M.take j)).length = j := by rw [mkM_len, List.length_take]; have := unhide HN; omega
      have hk1 : 1 ≤ k := by rw [unhide HK]; exact mkE_pos _ _
      have hkb : k + 4 + m.1.kids.length ≤ 1000000 := by
        have e1 := mkE_snoc (M.take j) m 1
        rw [← htk] at e1
        have e2 := mkE_mono (M.take (j + 1)) (M.drop (j + 1)) 1
        rw [List.take_append_drop] at e2
        have := unhide HE
        have := unhide HK
        omega
      have D := unhide HD
      rw [hdr] at D
      have hlen : (mkM 1 (M.take j) ++ m :: M.drop (j + 1)).length = n := by
        have := unhide HN
        simp [mkM_len]
        omega
      have row := D.row
      rw [hlen] at row
      obtain ⟨⟨y0, c0⟩, f0, hg⟩ := rws.row_at row (o := j * 5) (by omega)
      obtain ⟨⟨y1, c1⟩, f1, -⟩ := rws.row_at row (o := j * 5 + 1) (by omega)
      obtain ⟨⟨y2, c2⟩, f2, -⟩ := rws.row_at row (o := j * 5 + 2) (by omega)
      have D2 := hide D
      have HL := hide (And.intro hlen (And.intro hAl htk))
      have HM1 := hide hm
      have hmt := fun w => markText_any (k + 3) (by omega) (by omega) w
      have e3 : ((k + 3 : Nat) : Int) = (k : Int) + 1 + 1 + 1 := by omega
      rw [e3] at hmt
      clear hdr htk hAl D hlen row hm e3
      go_wp2_with fail
      refine (hmt _).mono ?_
      rintro e w2 ⟨rfl, hb⟩
      obtain ⟨hlen, hAl, htk⟩ := unhide HL
      have D := unhide D2
      rw [← hlen] at D
      have hb' : Below wr.heap.size (((wr.setCell ⟨g, (mkM 1 (M.take j)).length * 5, none⟩ (.int .i64 (k : Int))).setCell ⟨g, (mkM 1 (M.take j)).length * 5 + 1, none⟩ (.int .i64 ((k : Int) + 1))).setCell ⟨g, (mkM 1 (M.take j)).length * 5 + 2, none⟩ (.int .i64 ((k : Int) + 1 + 1))) w2 := by rw [hAl]; simpa using hb
      have R4 := D.set4 (⟨(k : Int), (k : Int) + 1, (k : Int) + 1 + 1, markS (k + 3), (mkN k m).1.kids⟩ : Nd) hb'
      have r3 := rws.row_put (o := j * 5 + 2) (rws.row_put (o := j * 5 + 1) (rws.row_put (o := j * 5) D.row (.int .i64 (k : Int))) (.int .i64 ((k : Int) + 1))) (.int .i64 ((k : Int) + 1 + 1))
      have r4 := row_keep (w' := w2) r3 (fun b hbb => hb.block b (by have := (r3.lt b hbb).2; simpa using this))
      rw [hlen] at r4
      obtain ⟨⟨y3, c3⟩, f3, hg3⟩ := rws.row_at r4 (o := j * 5 + 3) (by omega)
      have hfl : (flatN (mkM 1 (M.take j) ++ m :: M.drop (j + 1)))[j * 5 + 4]? = some m.2 := by
        have := flatN_get (M := mkM 1 (M.take j) ++ m :: M.drop (j + 1)) (j := j) (i := 4) (m := m) (by rw [List.getElem?_append_right (by omega), hAl]; simp) (by omega)
        exact this
      have c4 : w2.cell? ⟨g, j * 5 + 4, none⟩ = some m.2 := row_get r4 (by rw [List.getElem?_set_ne (by omega), List.getElem?_set_ne (by omega), List.getElem?_set_ne (by omega)]; exact hfl)
      have hk := D.kids m (by simp)
      have hmem : m ∈ M := List.mem_of_getElem? (unhide HM1)
      have hgk : ∀ i, m.2.ownBlock = some i → i ≠ g := fun i hi e => by subst e; exact row_ne hk D.row (by decide) hi rfl
      have same3 : ∀ i, i < wr.heap.size → i ≠ g → (w2.setCell ⟨g, j * 5 + 3, none⟩ (.string (markS (k + 3)))).heap[i]? = wr.heap[i]? := fun i hi hne =>
        (Below.heap_setCell _ ⟨g, _, none⟩ _ i hne).trans ((hb.block i (by simpa using hi)).trans ((Below.heap_setCell _ ⟨g, _, none⟩ _ i hne).trans ((Below.heap_setCell _ ⟨g, _, none⟩ _ i hne).trans (Below.heap_setCell _ ⟨g, _, none⟩ _ i hne))))
      have hk3 : (w2.setCell ⟨g, j * 5 + 3, none⟩ (.string (markS (k + 3)))).ownsRow base 3 1 m.2 m.1.kids.length (ints m.1.kids) := row_keep hk (fun i hi => same3 i (hk.lt i hi).2 (hgk i hi))
      obtain ⟨lo, hi, hv1, hv2⟩ := span m.2.ownBlock
      have hmi := rws.markI_any (lo := lo) (hi := hi) (((k + 4 : Nat)) : Int) m.2 _ hk3 hv1 (by omega) (by omega) (by omega)
      have e4 : ((k + 4 : Nat) : Int) = (k : Int) + 1 + 1 + 1 + 1 := by omega
      rw [e4] at hmi
      obtain ⟨ka, kc, hmv⟩ := row_slice hk
      have hgm : m.2.ownBlock ≠ some g := fun e => hgk g e rfl
      have size3 : wr.heap.size ≤ w2.heap.size := by have := hb.size; simpa using this
      have HX := hide (And.intro R4 (And.intro hv2 (And.intro same3 (And.intro D (And.intro hmem (And.intro size3 (And.intro hgm hmv)))))))
      have HT := hide htk
      have HAL := hide hAl
      have HLN := hide hlen
      have fos : w2.os = wr.os ∧ w2.tape = wr.tape ∧ w2.output = wr.output := ⟨hb.os, hb.tape, hb.output⟩
      have FO := hide fos
      rw [hmv] at c4 hmi
      clear hgm R4 r3 r4 hfl hk hmem hgk same3 hk3 hv1 hv2 hb' hb D hmt hlen hAl htk e4 size3 fos D2 HL hmv
      go_wp2_with fail
      refine hmi.mono ?_
      rintro e w4 ⟨rfl, hri, hmk⟩
      have HR := hide (And.intro hri hmk)
      clear hri hmk hmi
      go_wp2
      obtain ⟨R4, hv2, same3, D, hmem, size3, hgm, hmv⟩ := unhide HX
      obtain ⟨hri, hmk⟩ := unhide HR
      have hlen := unhide HLN
      have htk := unhide HT
      have hout : ∀ i, i < wr.heap.size → i ≠ g → m.2.ownBlock ≠ some i → w4.heap[i]? = wr.heap[i]? := fun i hi h1 h2 => (hmk.out i (hv2 i h2)).trans (same3 i hi h1)
      have en : (⟨(k : Int), (k : Int) + 1, (k : Int) + 1 + 1, markS (k + 3), (mkN k m).1.kids⟩ : Nd) = (mkN k m).1 := by
        simp [mkN]
        omega
      refine ⟨⟨j + 1, k + 4 + m.1.kids.length, by omega, by go_num, ?_, hide ?_, hide ?_, hide ?_⟩, by simp [intOf]; omega⟩
      · have : (k : Int) + 1 + 1 + 1 + 1 + (m.1.kids.length : Int) = ((k + 4 + m.1.kids.length : Nat) : Int) := by omega
        rw [this]
      · rw [htk, mkE_snoc, ← unhide HK]
      · rw [htk, mkM_snoc, ← unhide HK, List.append_assoc, List.singleton_append, ← hlen]
        refine D.one (mkN k m) rfl ?_ ?_ hout
        · rw [en] at R4
          rw [unhide HAL] at R4
          exact row_keep R4 (fun i hi => by cases hi; exact hmk.out g (hv2 g hgm))
        · have e1 : (mkN k m).1.kids.length = m.1.kids.length := by simp [mkN]
          rw [show (mkN k m).2 = m.2 from rfl]
          refine rints_kids ?_
          rw [hmv]
          rw [mk_kids] at hri
          exact hri
      · refine (unhide HM).trans ⟨hmk.os.trans (unhide FO).1, hmk.tape.trans (unhide FO).2.1, hmk.output.trans (unhide FO).2.2, ?_, fun i hi h1 h2 => hout i hi (fun e => h1 (by rw [e]; rfl)) (h2 m hmem)⟩
        rw [hmk.size]
        simpa using size3
    · obtain rfl : j = n := by omega
      go_wp2
      go_ret
      have hn := unhide HN
      have h1 := unhide HK
      have h2 := unhide HD
      rw [List.take_of_length_le (by omega)] at h1 h2
      rw [List.drop_eq_nil_of_le (by omega), List.append_nil] at h2
      exact ⟨by rw [h1]; rfl, h2, unhide HM⟩
theorem mkM_get (M : List (Nd × Value)) (k j : Nat) (m : Nd × Value) (h : M[j]? = some m) : (mkM k M)[j]? = some (mkN (mkE k (M.take j)) m) := by
  induction M generalizing k j with
  | nil => simp at h
  | cons a r ih =>
    cases j with
    | zero => simp at h; subst h; rfl
    | succ j => simp at h; simpa [mkM, mkE] using ih _ j h
set_option maxHeartbeats 8000000 in
set_option maxRecDepth 100000 in
theorem heldNodes_any {base : Nat} (M : List (Nd × Value)) (v : Value) (w : World) (h : Nds base v (mkM 1 M) w) (hl : M.length ≤ 100000) (hE : mkE 1 M ≤ 1000000) :
    Calls Tryz.prog 17 #[v, .int .i64 1] w fun e w' => e = .returned (.int .i64 ((mkE 1 M : Nat) : Int)) ∧ Below w.heap.size w w' := by
  obtain ⟨a, cap, rfl, hc1, hc2, ha⟩ := rws.row_head h.row
  unfold maxLen at hc2
  rw [mkM_len] at hc1 ha ⊢
  obtain ⟨n, hn⟩ : ∃ n, n = M.length := ⟨_, rfl⟩
  rw [← hn] at hl hc1 ha ⊢
  have HN := hide hn
  have h' : Nds base (.slice a n cap) (mkM 1 M) w := by rw [hn, ← mkM_len M 1]; exact h
  have H := hide h'
  have HE := hide hE
  clear h h' hn hE
  go_enter Tryz.func17, Tryz.ntmps17
  go_wp2
  go_loopw [1, 5] (fun kv i wr => ∃ (j k : Nat), j ≤ n ∧ i = .int .i64 j ∧ kv = .int .i64 (k : Int) ∧ Hid (k = mkE 1 (M.take j)) ∧ Hid (Below w.heap.size w wr)) (fun _ i _ => n - (intOf i).toNat)
  case atStart => exact ⟨0, 1, by omega, rfl, rfl, hide rfl, hide (Below.refl _ _)⟩
  case round =>
    obtain ⟨j, k, hj, rfl, rfl, HK, HB⟩ := hrel
    by_cases hlt : j < n
    · obtain ⟨m, hm⟩ : ∃ m, M[j]? = some m := ⟨_, List.getElem?_eq_getElem (by have := unhide HN; omega)⟩
      have htk : M.take (j + 1) = M.take j ++ [m] := by rw [List.take_add_one, hm]; rfl
      have hk1 : 1 ≤ k := by rw [unhide HK]; exact mkE_pos _ _
      have hkb : k + 4 + m.1.kids.length ≤ 1000000 := by
        have e1 := mkE_snoc (M.take j) m 1
        rw [← htk] at e1
        have e2 := mkE_mono (M.take (j + 1)) (M.drop (j + 1)) 1
        rw [List.take_append_drop] at e2
        have := unhide HE
        have := unhide HK
        omega
      have D := (unhide H).below (unhide HB)
      have hg := mkM_get M 1 j m hm
      rw [← unhide HK] at hg
      obtain ⟨g, rfl, hgl, c0, c1, c2, c3, c4⟩ := node_at D.row hg
      have hk := D.kids _ (List.mem_of_getElem? hg)
      rw [show (mkN k m).2 = m.2 from rfl] at hk c4
      rw [show (mkN k m).1.kind = (k : Int) from rfl] at c0
      rw [show (mkN k m).1.pos = (k : Int) + 1 by simp [mkN]] at c1
      rw [show (mkN k m).1.num = (k : Int) + 1 + 1 by simp [mkN]; omega] at c2
      rw [show (mkN k m).1.name = markS (k + 3) from rfl] at c3
      have hri : rws.RInts base wr m.2 (rws.mk ((k : Int) + 1 + 1 + 1 + 1) m.1.kids.length) := by rw [mk_kids]; exact kids_rints hk
      have hmt := fun w => markText_any (k + 3) (by omega) (by omega) w
      have e3 : ((k + 3 : Nat) : Int) = (k : Int) + 1 + 1 + 1 := by omega
      rw [e3] at hmt
      obtain ⟨ka, kc, hmv⟩ := row_slice hk
      rw [show (mkN k m).1.kids.length = m.1.kids.length by simp [mkN]] at hmv
      rw [hmv] at c4 hri
      have HR := hide hri
      have HT := hide htk
      have bd : Below wr.heap.size wr wr.drew := ⟨rfl, rfl, rfl, Nat.le_refl _, fun _ _ => rfl⟩
      have BD := hide bd
      clear hri htk hk hg D hm e3 hmv bd
      go_wp2
      go_region_with (go_at_call 29; refine (hmt _).mono ?_; rintro e w2 ⟨rfl, hb⟩; have hbw := (unhide BD).trans (hb.mono (unhide BD).size); have c4' : w2.cell? ⟨g, j * 5 + 4, none⟩ = some (.slice ka m.1.kids.length kc) := (hbw.cell (by exact hgl)).trans c4; have c3' : w2.cell? ⟨g, j * 5 + 3, none⟩ = some (.string (markS (k + 3))) := (hbw.cell (by exact hgl)).trans c3; have hgl' : g < w2.heap.size := Nat.lt_of_lt_of_le hgl hbw.size; have HBW := hide hbw; clear hbw hb)
      all_goals (
        have hh := rws.heldI_any ((k : Int) + 1 + 1 + 1 + 1) _ w2 (((unhide HR).below (unhide HBW)).seq (ok := fun _ => True) (fun _ => rfl) (fun _ _ _ => trivial)) (by omega) (by omega) (by omega)
        go_wp2_with fail
        refine hh.mono ?_
        rintro e w3 ⟨rfl, hw3⟩
        subst w3
        clear hh
        go_wp2
        go_roundw
        case rel =>
          refine ⟨j + 1, k + 4 + m.1.kids.length, by omega, by go_num, ?_, hide ?_, hide ((unhide HB).trans ((unhide HBW).mono (unhide HB).size))⟩
          · have : (k : Int) + 1 + 1 + 1 + 1 + (m.1.kids.length : Int) = ((k + 4 + m.1.kids.length : Nat) : Int) := by omega
            rw [this]
          · rw [unhide HT, mkE_snoc, ← unhide HK]
        case measure => simp [intOf]; omega)
    · obtain rfl : j = n := by omega
      go_wp2
      go_ret
      have h1 := unhide HK
      rw [List.take_of_length_le (by have := unhide HN; omega)] at h1
      exact ⟨by rw [h1]; rfl, unhide HB⟩
end Go.Proofs.YtjikjejfobnfnaaGreatDoor.imp
