/-
  The program's tree of a text.
  The program's tree of every text.
  The law on the tree of a text, walked.
-/
import Derived.Test.YtjikjejfobnfnaaGreatDoorC39
import Derived.Test.YtjikjejfobnfnaaGreatDoorC40
import Derived.Test.YtjikjejfobnfnaaGreatDoorC43
namespace Go.Proofs.YtjikjejfobnfnaaGreatDoor.imp
open Go.RowKit Go.Proofs.YtjikjejfobnfnaaGreatDoor.num Go.Proofs.YtjikjejfobnfnaaGreatDoor.lex Go.Proofs.YtjikjejfobnfnaaGreatDoor.par
set_option linter.unusedVariables false
theorem Nds.mono {base b' : Nat} {v : Value} {M : List (Nd × Value)} {w : World} (h : Nds base v M w) (hb : b' ≤ base) : Nds b' v M w :=
  ⟨row_mono h.row hb, fun m hm => row_mono (h.kids m hm) hb, h.dist⟩
theorem Nds.nil (base : Nat) (w : World) : Nds base (.slice none 0 0) [] w := ⟨World.ownsRow_nil _ _ _ _, fun m hm => (by cases hm), List.Pairwise.nil⟩
theorem mkE_sum (M : List (Nd × Value)) (k : Nat) : mkE k M = k + 4 * M.length + sumK (M.map (·.1)) := by
  induction M generalizing k with
  | nil => rfl
  | cons m r ih => simp only [mkE, ih, List.length_cons, List.map_cons, sumK, List.sum_cons]; omega
/-- A program's own node and all below it. -/
theorem root_core {x : Cx} {w0 : World} {lv : Value} {ps : List P} (h : IsPart x [] w0 (rowV lv) (rowP ps)) (hf : fineL ps = true) : Lists w0 (.iface 46 (.agg #[.int .i64 1, .int .i64 0, .int .i64 0, .string ⟨#[]⟩, lv])) (.node 46 ⟨1, 0, 0, ⟨#[]⟩⟩ ps) := by
  obtain ⟨vs, hr, hp⟩ := row_inv h
  refine list_core ⟨1, 0, 0, ⟨#[]⟩⟩ ps _ (fun k => post_list k 46 _ _ (by decide)) hf (fun e w => mn46 e _ _ _ _ _ w) 212 _ ent212 (fun e w => mb46 e _ _ _ _ _ w) (fun w hb _ => ?_)
  have hr := hr.row
  have hvl : vs.length = ps.length := by have := hr.1; omega
  exact (listB_any _ _ _ _ _ w).mono fun e w' ⟨he, hb2⟩ => ⟨lv, vs, he, BRow.of_row (base := x.B + 1) (by rw [hvl]; exact row_keep (row_keep hr (fun g hg => hb.block g (hr.lt g hg).2)) (fun g hg => hb2.block g (Nat.lt_of_lt_of_le (hr.lt g hg).2 hb.size))), hvl, fun i y q h1 h2 => list_part (hp i y q h1 h2) (fineL_get hf h2), hb2⟩
/-- What the tree of a text is answered as. -/
def TreeOut (t : ByteArray) (w : World) (e : Ending) (w' : World) : Prop :=
  ∃ v M c a, treeS t = some (M.map (·.1), c, a) ∧ e = .returned (.tuple #[v, .agg #[.int .i64 c, .int .i64 a]]) ∧ Nds w.heap.size v M w' ∧ M.length ≤ 100000 ∧ mkE 1 M ≤ 1000000 ∧ Below w.heap.size w w'
def errC (w : World) : Prop := w.cell? ⟨0, 0, none⟩ = some (.iface 174 (.agg #[.pointer (some ⟨8, 48, none⟩)]))
theorem errC.below {w w' : World} {B : Nat} (h : errC w) (hb : Below B w w') (hB : 0 < B) : errC w' := (hb.cell (by exact hB)).trans h
theorem nilE48 (t u : Value) (w : World) (ty : Nat) : (binOp BinOp.neq 48 (.iface ty u) .nilIface).run Tryz.prog w = .ok (.bool true) w := by kernel_rfl
set_option maxHeartbeats 4000000 in
set_option maxRecDepth 100000 in
/-- Where a text is refused. -/
theorem implTree_no (t : ByteArray) (w : World) (err zp : Value) (z4 : Value) (c a : Int) (ht : treeS t = some ([], c, a)) (hg : errC w) (he : ∃ t u, err = .iface t u)
    (hr : Calls Tryz.prog 19 #[.string t] (w.alloc (.cells #[.int .i64 0, .int .i64 0] 25)) fun e w' => e = .returned (.tuple #[.agg #[.int .i64 0, .int .i64 0, .int .i64 0, .string ⟨#[]⟩, .slice none 0 0], err]) ∧ Below (w.alloc (.cells #[.int .i64 0, .int .i64 0] 25)).heap.size (w.alloc (.cells #[.int .i64 0, .int .i64 0] 25)) w')
    (hfo : ∀ w, errC w → Calls Tryz.prog 20 #[err] w fun e w' => e = .returned (.agg #[.int .i64 c, .int .i64 a]) ∧ Below w.heap.size w w') :
    Calls Tryz.prog 10 #[.string t] w (TreeOut t w) := by
  have h0 : 0 < w.heap.size := by
    rcases Nat.eq_zero_or_pos w.heap.size with h0 | h
    · simp [errC, World.cell?, h0] at hg
    · exact h
  have b0 := below1 w (.cells #[.int .i64 0, .int .i64 0] 25)
  have z0 := one_first w (.cells #[.int .i64 0, .int .i64 0] 25)
  obtain ⟨et, eu, rfl⟩ := he
  have HG := hide hg
  clear hg
  go_enter Tryz.func10, Tryz.ntmps10
  go_wp2_with fail
  refine hr.mono ?_
  rintro e w1 ⟨rfl, hb⟩
  have b1 := b0.trans (hb.mono b0.size)
  have z1 := at_below hb z0 (by simp)
  have bA := below1 w1 (.cells #[.int .i64 0, .int .i64 0, .int .i64 0, .string ⟨#[]⟩, .slice none 0 0] 46)
  have bB := b1.trans (bA.mono b1.size)
  have hf := hfo _ ((unhide HG).below bB h0)
  have HB := hide bB
  have HZ := hide (at_alloc (a := .cells #[.int .i64 0, .int .i64 0, .int .i64 0, .string ⟨#[]⟩, .slice none 0 0] 46) z1)
  clear b1 z1 bA bB hb b0 z0 hr hfo
  go_wp2_with fail
  refine hf.mono ?_
  rintro e w2 ⟨rfl, hb⟩
  have z2 := at_below hb (unhide HZ) (by have := (Array.getElem?_eq_some_iff.1 (unhide HZ)).1; exact this)
  have d0 : w2.cell? ⟨w.heap.size, 0, none⟩ = some (.int .i64 0) := cell_of z2 rfl
  have d1 : w2.cell? ⟨w.heap.size, 1, none⟩ = some (.int .i64 0) := cell_of z2 rfl
  have f0 : w2.frozen? ⟨w.heap.size, 0, none⟩ = false := frozen_of z2
  have f1 : w2.frozen? ⟨w.heap.size, 1, none⟩ = false := frozen_of z2
  have l2 : w.heap.size < w2.heap.size := (Array.getElem?_eq_some_iff.1 z2).1
  have HC := hide (And.intro z2 ((unhide HB).trans (hb.mono (unhide HB).size)))
  clear hb z2 hf
  go_wp2
  refine bodyPost_ret (results_tmp_cell rfl _ _ w.heap.size 25 _ (0, 0) _ rfl (at_same (at_same (unhide HC).1)) Tryz.underlying25 rfl (by kernel_rfl)) rfl ?_
  exact ⟨_, [], c, a, ht, rfl, Nds.nil _ _, by simp, by simp [mkE], ((unhide HC).2.setCell (p := ⟨w.heap.size, 0, none⟩) (Nat.le_refl _) _).setCell (p := ⟨w.heap.size, 1, none⟩) (Nat.le_refl _) _⟩
set_option maxHeartbeats 4000000 in
set_option maxRecDepth 100000 in
/-- Where a text is taken. -/
theorem implTree_yes (t : ByteArray) (w : World) (ps : List P) (hf : fineL ps = true) (hn : (postL 0 ps).1.length ≤ 1400) (ht : treeS t = some (listing ps, 0, 0))
    (hr : Calls Tryz.prog 19 #[.string t] (w.alloc (.cells #[.int .i64 0, .int .i64 0] 25)) fun e w' => ∃ (x : Cx) (lv : Value), e = .returned (.tuple #[.agg #[.int .i64 1, .int .i64 0, .int .i64 0, .string ⟨#[]⟩, lv], .nilIface]) ∧ IsPart x [] w' (rowV lv) (rowP ps) ∧ Below (w.alloc (.cells #[.int .i64 0, .int .i64 0] 25)).heap.size (w.alloc (.cells #[.int .i64 0, .int .i64 0] 25)) w') :
    Calls Tryz.prog 10 #[.string t] w (TreeOut t w) := by
  have b0 := below1 w (.cells #[.int .i64 0, .int .i64 0] 25)
  have z0 := one_first w (.cells #[.int .i64 0, .int .i64 0] 25)
  go_enter Tryz.func10, Tryz.ntmps10
  go_wp2_with fail
  refine hr.mono ?_
  rintro e w1 ⟨x, lv, rfl, hp, hb⟩
  have b1 := b0.trans (hb.mono b0.size)
  have z1 := at_below hb z0 (by simp)
  have hlt1 : w.heap.size < w1.heap.size := (Array.getElem?_eq_some_iff.1 z1).1
  obtain ⟨la, lc, rfl⟩ := row_shape hp
  have bA := below1 w1 (.cells #[.int .i64 1, .int .i64 0, .int .i64 0, .string ⟨#[]⟩, .slice la ps.length lc] 46)
  have hlen : ([] : List (Nd × Value)).length + (post ([] : List (Nd × Value)).length (.node 46 ⟨1, 0, 0, ⟨#[]⟩⟩ ps)).length ≤ 100000 := by
    rw [post_list _ 46 _ _ (by decide)]
    simp
    omega
  have hL := root_core hp hf (.slice none 0 0) [] _ bA (Nds.nil _ _) hlen
  have HB := hide (And.intro b1 bA)
  have HZ := hide (at_alloc (a := .cells #[.int .i64 1, .int .i64 0, .int .i64 0, .string ⟨#[]⟩, .slice la ps.length lc] 46) z1)
  clear b1 z1 bA hb b0 z0 hr hp hlen
  go_wp2_with fail
  refine hL.mono ?_
  rintro e w2 ⟨nv, M, rfl, hnd, hmap, -, hgr, -⟩
  rw [List.nil_append] at hnd
  have hb2 : Below (w1.alloc (.cells #[.int .i64 1, .int .i64 0, .int .i64 0, .string ⟨#[]⟩, .slice la ps.length lc] 46)).heap.size (w1.alloc (.cells #[.int .i64 1, .int .i64 0, .int .i64 0, .string ⟨#[]⟩, .slice la ps.length lc] 46)) w2 := ⟨hgr.os, hgr.tape, hgr.output, hgr.size, fun i hi => hgr.block i hi (by simp [Value.ownBlock])⟩
  have z2 := at_below hb2 (unhide HZ) (by have := (Array.getElem?_eq_some_iff.1 (unhide HZ)).1; exact this)
  have d0 : w2.cell? ⟨w.heap.size, 0, none⟩ = some (.int .i64 0) := cell_of z2 rfl
  have d1 : w2.cell? ⟨w.heap.size, 1, none⟩ = some (.int .i64 0) := cell_of z2 rfl
  have f0 : w2.frozen? ⟨w.heap.size, 0, none⟩ = false := frozen_of z2
  have f1 : w2.frozen? ⟨w.heap.size, 1, none⟩ = false := frozen_of z2
  have l2 : w.heap.size < w2.heap.size := (Array.getElem?_eq_some_iff.1 z2).1
  have hbw : Below w.heap.size w w2 := ((unhide HB).1.trans ((unhide HB).2.mono (unhide HB).1.size)).trans (hb2.mono (Nat.le_trans (unhide HB).1.size (unhide HB).2.size))
  have HC := hide (And.intro z2 (And.intro hbw (And.intro hnd (And.intro hmap hlt1))))
  obtain ⟨na, nc, rfl⟩ := row_slice hnd.row
  clear hb2 z2 hL hgr hnd hmap hbw
  go_wp2
  refine bodyPost_ret (results_tmp_cell rfl _ _ w.heap.size 25 _ (0, 0) _ rfl (at_same (at_same (unhide HC).1)) Tryz.underlying25 rfl (by kernel_rfl)) rfl ?_
  obtain ⟨z2, hbw, hnd, hmap, hlt1⟩ := unhide HC
  rw [post_list _ 46 _ _ (by decide)] at hmap
  have hmap2 : M.map (·.1) = listing ps := hmap
  have hml : M.length ≤ 1401 := by
    have := congrArg List.length hmap2
    simp [listing] at this
    omega
  refine ⟨_, M, 0, 0, by rw [hmap2]; exact ht, rfl, ?_, by omega, ?_, (hbw.setCell (p := ⟨w.heap.size, 0, none⟩) (Nat.le_refl _) _).setCell (p := ⟨w.heap.size, 1, none⟩) (Nat.le_refl _) _⟩
  · refine (hnd.of_block (fun g hg => ?_)).mono (Nat.le_of_lt hlt1)
    have := (hnd.lt hg).1
    have hne : g ≠ w.heap.size := by omega
    exact (Below.heap_setCell _ ⟨w.heap.size, _, none⟩ _ g hne).trans (Below.heap_setCell _ ⟨w.heap.size, _, none⟩ _ g hne)
  · rw [mkE_sum, hmap2]
    have := listing_sum hf
    omega
theorem implTree_any (t : ByteArray) (w : World) (hs : t.size ≤ 1048576) (hg : Sg w) (tb : Tb w) (he : errC w) : Calls Tryz.prog 10 #[.string t] w (TreeOut t w) := by
  have h3 := hg.size
  have b0 := below1 w (.cells #[.int .i64 0, .int .i64 0] 25)
  by_cases h0 : (lexAll t).2.1 = 0
  · obtain ⟨ps, s', hp, hc⟩ := tree_sim t h0 (lexAll_len t)
    have hr := readProgram_ok t _ hs (hg.below b0 h3) (tb.below b0 (by omega)) 30000 (lexAll_zero t h0) hp
    rcases hc with ⟨hz, hf, hn, ht⟩ | ⟨hz, ht⟩
    · refine implTree_yes t w ps hf hn ht (hr.mono fun e w' ⟨x, lv, h1, h2, h3, h4⟩ => ⟨x, lv, ?_, h3, h4⟩)
      rw [h1]
      unfold progV
      rw [if_pos hz]
    · refine implTree_no t w (.iface 113 (.agg #[.int .i64 (ps.length : Int), .iface 77 (.agg #[.int .i64 s'.c, .int .i64 s'.a])])) .nilIface .nilIface s'.c s'.a ht he ⟨_, _, rfl⟩ (hr.mono fun e w' ⟨x, lv, h1, h2, h3, h4⟩ => ⟨?_, h4⟩) (fun w h => err.faultOf_wrap _ _ _ w h)
      rw [h1]
      unfold progV
      rw [if_neg hz]
  · have hr := readProgram_bad t _ hs (hg.below b0 h3) h0
    refine implTree_no t w (.iface 77 (.agg #[.int .i64 (lexAll t).2.1, .int .i64 (lexAll t).2.2])) .nilIface .nilIface (lexAll t).2.1 (lexAll t).2.2 (by unfold treeS; rw [if_neg h0]) he ⟨_, _, rfl⟩ hr (fun w h => err.faultOf_hit _ _ w h)
section
theorem treeS_some (t : ByteArray) : ∃ N c a, treeS t = some (N, c, a) := by
  by_cases h0 : (lexAll t).2.1 = 0
  · obtain ⟨ps, s', hp, hc⟩ := tree_sim t h0 (lexAll_len t)
    rcases hc with ⟨_, _, _, ht⟩ | ⟨_, ht⟩
    · exact ⟨_, _, _, ht⟩
    · exact ⟨_, _, _, ht⟩
  · exact ⟨[], _, _, by unfold treeS; rw [if_neg h0]⟩
/-- The tables that the program's text lays. -/
structure Tabs (w : World) : Prop where
  sg : Sg w
  tb : Tb w
  er : errC w
theorem Tabs.below {w w' : World} {B : Nat} (h : Tabs w) (hb : Below B w w') (hB : 3 < B) : Tabs w' := ⟨h.sg.below hb hB, h.tb.below hb (by omega), h.er.below hb (by omega)⟩
/-- What the law keeps: all that lay when the model had answered, and that answer. -/
structure KT (w w1 : World) (F : Obj) (wx : World) : Prop where
  bel : Below (w1.heap.size + 1) (w1.alloc F) wx
  fst : Below w.heap.size w w1
section
variable {w w1 wx wy : World} {F : Obj}
theorem KT.next (h : KT w w1 F wx) (hb : Below wx.heap.size wx wy) : KT w w1 F wy := ⟨h.bel.trans (hb.mono (by have := h.bel.size; simp at this; omega)), h.fst⟩
theorem KT.size (h : KT w w1 F wx) : w1.heap.size + 1 ≤ wx.heap.size := by have := h.bel.size; simpa using this
theorem KT.mkd (h : KT w w1 F wx) {v : Value} {M : List (Nd × Value)} (hn : Nds (w1.heap.size + 1) v M wx) (hm : Mkd v M wx wy) : KT w w1 F wy :=
  ⟨⟨hm.os.trans h.bel.os, hm.tape.trans h.bel.tape, hm.output.trans h.bel.output, Nat.le_trans h.bel.size hm.size, fun i hi => (hm.block i (Nat.lt_of_lt_of_le hi h.size) (fun e => by have := (hn.lt (.inl e)).1; omega) (fun m hmm e => by have := (hn.lt (.inr ⟨m, hmm, e⟩)).1; omega)).trans (h.bel.block i hi)⟩, h.fst⟩
theorem KT.box (h : KT w w1 F wx) : wx.heap[w1.heap.size]? = some F := (h.bel.block _ (Nat.lt_succ_self _)).trans (one_first _ _)
theorem KT.below (h : KT w w1 F wx) : Below w.heap.size w wx := h.fst.trans ((((Below.refl _ w1).alloc (Nat.le_refl _) F).trans (h.bel.mono (Nat.le_succ _))).mono h.fst.size)
theorem KT.row (h : KT w w1 F wx) {b : Nat} {v : Value} {N : List Nd} (hr : NodeRow b v N w1) : NodeRow b v N wx := nodeRow_below hr (((Below.refl _ w1).alloc (Nat.le_refl _) F).trans (h.bel.mono (Nat.le_succ _)))
theorem KT.tabs (h : KT w w1 F wx) (ht : Tabs w) : Tabs wx := ht.below h.below ht.sg.size
end
set_option maxHeartbeats 8000000 in
set_option maxRecDepth 100000 in
theorem parseTree_walk (t : ByteArray) (w : World) (h : Tabs w) : Calls Tryz.prog 5 #[.string t] w fun e w' => e = .returned (.bool true) ∧ Below w.heap.size w w' := by
  by_cases hlen : 1048576 < t.size
  · go_enter Tryz.func5, Tryz.ntmps5
    go_wp2
    go_ret
    exact ⟨rfl, Below.refl _ _⟩
  obtain ⟨N, c, a, hZ⟩ := treeS_some t
  have hS := specTree_any t w (by omega) hZ
  have hI : Hid (∀ w, Tabs w → Calls Tryz.prog 10 #[.string t] w fun e w' => ∃ v M, e = .returned (.tuple #[v, .agg #[.int .i64 c, .int .i64 a]]) ∧ M.map (·.1) = N ∧ Nds w.heap.size v M w' ∧ M.length ≤ 100000 ∧ mkE 1 M ≤ 1000000 ∧ Below w.heap.size w w') := hide (fun w ht => (implTree_any t w (by omega) ht.sg ht.tb ht.er).mono fun e w' ⟨v, M, c', a', h1, h2, h3, h4, h5, h6⟩ => by
    rw [hZ] at h1
    cases h1
    exact ⟨v, M, h2, rfl, h3, h4, h5, h6⟩)
  have hef := eqFault_same c a
  have HT := hide h
  have hsz : ¬ (t.size : Int) > 1048576 := by omega
  clear h hZ hlen
  simp only at hS
  go_enter Tryz.func5, Tryz.ntmps5
  go_wp2_with fail
  refine hS.mono ?_
  rintro e w1 ⟨v0, rfl, hr0, hb0⟩
  obtain ⟨a0, c0, rfl⟩ := hr0.slice
  have K1 : Hid (KT w w1 (.cells #[.int .i64 c, .int .i64 a] 25) (w1.alloc (.cells #[.int .i64 c, .int .i64 a] 25))) := hide ⟨Below.refl _ _, hb0⟩
  have R0 := hide hr0
  have hi1 := unhide hI _ ((unhide K1).tabs (unhide HT))
  clear hr0 hb0 hS
  go_wp2_with fail
  refine hi1.mono ?_
  rintro e w2 ⟨v1, M1, rfl, hmap, hnd, hml, hmE, hb⟩
  have hb1 : (w1.alloc (.cells #[.int .i64 c, .int .i64 a] 25)).heap.size = w1.heap.size + 1 := by simp
  rw [hb1] at hnd
  have K2 := hide ((unhide K1).next hb)
  have bF := below1 w2 (.cells #[.int .i64 c, .int .i64 a] 25)
  have K3 := hide ((unhide K2).next bF)
  have D3 := hide (hnd.below bF)
  have z3 := one_first w2 (.cells #[.int .i64 c, .int .i64 a] 25)
  obtain ⟨x1, y1, hv1⟩ := row_slice hnd.row
  have hM1 : M1.length = N.length := by rw [← hmap]; simp
  rw [hM1] at hv1
  have HMAP := hide hmap
  have HML := hide (And.intro hml hmE)
  have heq := eqNodes_same N v1 (.slice a0 N.length c0) _ _ _ (by rw [← hmap]; exact (unhide D3).nodeRow) ((unhide K3).row (unhide R0))
  subst hv1
  have Z3 := hide z3
  clear hb hb1 hnd bF hi1 K1 K2 hM1 hmap hml hmE z3
  go_wp2_with fail
  refine heq.mono ?_
  rintro e w4 ⟨rfl, hb⟩
  have K4 := hide ((unhide K3).next hb)
  have D4 := hide ((unhide D3).below hb)
  have z4 := at_below hb (unhide Z3) (Array.getElem?_eq_some_iff.1 (unhide Z3)).1
  have q0 : w4.cell? ⟨w1.heap.size, 0, none⟩ = some (.int .i64 c) := cell_of (unhide K4).box rfl
  have q1 : w4.cell? ⟨w1.heap.size, 1, none⟩ = some (.int .i64 a) := cell_of (unhide K4).box rfl
  have p0 : w4.cell? ⟨w2.heap.size, 0, none⟩ = some (.int .i64 c) := cell_of z4 rfl
  have p1 : w4.cell? ⟨w2.heap.size, 1, none⟩ = some (.int .i64 a) := cell_of z4 rfl
  have lq : w1.heap.size < w4.heap.size := (unhide K4).size
  have lp : w2.heap.size < w4.heap.size := (Array.getElem?_eq_some_iff.1 z4).1
  clear hb heq K3 D3 Z3 z4
  go_wp2_with fail
  refine (hef _).mono ?_
  rintro e w5 ⟨rfl, hb⟩
  have K5 := hide ((unhide K4).next hb)
  have D5 := hide ((unhide D4).below hb)
  have hmk := markNodes_any M1 _ w5 (unhide D5) (unhide HML).1 (unhide HML).2
  clear hb K4 D4 q0 q1 p0 p1 lq lp
  obtain ⟨E, hE⟩ : ∃ E, E = mkE 1 M1 := ⟨_, rfl⟩
  have hEb : E ≤ 1000000 := by rw [hE]; exact (unhide HML).2
  rw [← hE] at hmk
  have HE := hide hE
  clear hE
  go_wp2_with fail
  refine hmk.mono ?_
  rintro e w6 ⟨rfl, hn6, hm6⟩
  have K6 := hide ((unhide K5).mkd (unhide D5) hm6)
  have D6 := hide hn6
  have hhd := heldNodes_any M1 _ w6 (unhide D6) (unhide HML).1 (unhide HML).2
  rw [← unhide HE] at hhd
  clear hn6 hm6 hmk K5 D5
  go_wp2_with fail
  refine hhd.mono ?_
  rintro e w7 ⟨rfl, hb⟩
  have K7 := hide ((unhide K6).next hb)
  have D7 := hide ((unhide D6).below hb)
  have hi2 := unhide hI _ ((unhide K7).tabs (unhide HT))
  clear hb hhd K6 D6
  go_wp2_with fail
  refine hi2.mono ?_
  rintro e w8 ⟨v2, M2, rfl, hmap, hnd, -, -, hb⟩
  have K8 := hide ((unhide K7).next hb)
  have D8 := hide ((unhide D7).below hb)
  have bF := below1 w8 (.cells #[.int .i64 c, .int .i64 a] 25)
  have K9 := hide ((unhide K8).next bF)
  have D9 := hide ((unhide D8).below bF)
  have z9 := one_first w8 (.cells #[.int .i64 c, .int .i64 a] 25)
  obtain ⟨x2, y2, hv2⟩ := row_slice hnd.row
  have hM2 : M2.length = N.length := by rw [← hmap]; simp
  rw [hM2] at hv2
  have heq := eqNodes_same N v2 (.slice a0 N.length c0) _ _ _ (by rw [← hmap]; exact (hnd.below bF).nodeRow) ((unhide K9).row (unhide R0))
  subst hv2
  have Z9 := hide z9
  clear hb hnd bF hi2 K7 K8 D7 D8 hM2 hmap z9
  go_wp2_with fail
  refine heq.mono ?_
  rintro e w10 ⟨rfl, hb⟩
  have K10 := hide ((unhide K9).next hb)
  have D10 := hide ((unhide D9).below hb)
  have z10 := at_below hb (unhide Z9) (Array.getElem?_eq_some_iff.1 (unhide Z9)).1
  have q0 : w10.cell? ⟨w1.heap.size, 0, none⟩ = some (.int .i64 c) := cell_of (unhide K10).box rfl
  have q1 : w10.cell? ⟨w1.heap.size, 1, none⟩ = some (.int .i64 a) := cell_of (unhide K10).box rfl
  have p0 : w10.cell? ⟨w8.heap.size, 0, none⟩ = some (.int .i64 c) := cell_of z10 rfl
  have p1 : w10.cell? ⟨w8.heap.size, 1, none⟩ = some (.int .i64 a) := cell_of z10 rfl
  have lq : w1.heap.size < w10.heap.size := (unhide K10).size
  have lp : w8.heap.size < w10.heap.size := (Array.getElem?_eq_some_iff.1 z10).1
  clear hb heq K9 D9 Z9 z10
  go_wp2_with fail
  refine (hef _).mono ?_
  rintro e w11 ⟨rfl, hb⟩
  have K11 := hide ((unhide K10).next hb)
  have D11 := hide ((unhide D10).below hb)
  have hhd := heldNodes_any M1 _ w11 (unhide D11) (unhide HML).1 (unhide HML).2
  rw [← unhide HE] at hhd
  clear hb K10 D10 q0 q1 p0 p1 lq lp
  go_wp2_with fail
  refine hhd.mono ?_
  rintro e w12 ⟨rfl, hb⟩
  have K12 := hide ((unhide K11).next hb)
  clear hb hhd K11 D11
  go_wp2
  go_ret
  exact ⟨rfl, (unhide K12).below⟩
end
end Go.Proofs.YtjikjejfobnfnaaGreatDoor.imp
