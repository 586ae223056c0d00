/-
  Nodes in a row: read, and compared.
-/
import Derived.Test.YtjikjejfobnfnaaGreatDoorC16
import Derived.Test.YtjikjejfobnfnaaGreatDoorC36
import Derived.Test.YtjikjejfobnfnaaGreatDoorC37
import Derived.Deep.RegionWith
import Derived.BigRegion
namespace Go.Proofs.YtjikjejfobnfnaaGreatDoor.imp
open Go.RowKit Go.Proofs.YtjikjejfobnfnaaGreatDoor.num Go.Proofs.YtjikjejfobnfnaaGreatDoor.lex Go.Proofs.YtjikjejfobnfnaaGreatDoor.par
set_option linter.unusedVariables false
section
theorem row_keep {w w' : World} {base : Nat} {e : TypeId} {size : Nat} {v : Value} {n : Nat} {xs : List Value} (h : w.ownsRow base e size v n xs) (hb : ∀ g, v.ownBlock = some g → w'.heap[g]? = w.heap[g]?) : w'.ownsRow base e size v n xs := by
  refine ⟨h.1, ?_⟩
  rcases h.2 with h2 | ⟨g, cap, cur, rfl, hg, hh, r⟩
  · exact .inl h2
  · exact .inr ⟨g, cap, cur, rfl, hg, (hb g rfl).trans hh, r⟩
/-- A row's block has its elements' type. -/
theorem row_type {w : World} {base e size n g : Nat} {v : Value} {xs : List Value} (h : w.ownsRow base e size v n xs) (hg : v.ownBlock = some g) : ∃ cur, w.heap[g]? = some (.cells cur e) := by
  rcases h.2 with ⟨rfl, _⟩ | ⟨g', cap, cur, rfl, _, hh, _⟩
  · cases hg
  · cases hg; exact ⟨cur, hh⟩
theorem row_ne {w : World} {b1 e1 s1 n1 b2 e2 s2 n2 g : Nat} {v1 v2 : Value} {x1 x2 : List Value} (h1 : w.ownsRow b1 e1 s1 v1 n1 x1) (h2 : w.ownsRow b2 e2 s2 v2 n2 x2) (he : e1 ≠ e2) (hg : v1.ownBlock = some g) : some g ≠ v2.ownBlock := by
  intro e
  obtain ⟨c1, q1⟩ := row_type h1 hg
  obtain ⟨c2, q2⟩ := row_type h2 e.symm
  rw [q1] at q2
  cases q2
  exact he rfl
/-- Nodes, where their kids lie, and that these rows are apart. -/
structure Nds (base : Nat) (v : Value) (M : List (Nd × Value)) (w : World) : Prop where
  row : w.ownsRow base 33 5 v M.length (flatN M)
  kids : ∀ m ∈ M, w.ownsRow base 3 1 m.2 m.1.kids.length (ints m.1.kids)
  dist : M.Pairwise fun a b => ∀ g, a.2.ownBlock = some g → b.2.ownBlock ≠ some g
section
variable {base : Nat} {v : Value} {M : List (Nd × Value)} {w w' : World}
theorem Nds.of_block (h : Nds base v M w) (hb : ∀ g, (v.ownBlock = some g ∨ ∃ m ∈ M, m.2.ownBlock = some g) → w'.heap[g]? = w.heap[g]?) : Nds base v M w' :=
  ⟨row_keep h.row (fun g hg => hb g (.inl hg)), fun m hm => row_keep (h.kids m hm) (fun g hg => hb g (.inr ⟨m, hm, hg⟩)), h.dist⟩
theorem Nds.lt (h : Nds base v M w) {g : Nat} (hg : v.ownBlock = some g ∨ ∃ m ∈ M, m.2.ownBlock = some g) : base ≤ g ∧ g < w.heap.size := by
  rcases hg with hg | ⟨m, hm, hg⟩
  · exact h.row.lt g hg
  · exact (h.kids m hm).lt g hg
theorem Nds.below (h : Nds base v M w) (hb : Below w.heap.size w w') : Nds base v M w' := h.of_block (fun g hg => hb.block g (h.lt hg).2)
theorem Nds.nodeRow (h : Nds base v M w) : NodeRow base v (M.map (·.1)) w := ⟨M, rfl, h.row, h.kids⟩
end
theorem flatN_flat (M : List (Nd × Value)) : flatN M = (M.map nCells).flatten := by rw [flatN, List.flatMap_def]
theorem flatN_get {M : List (Nd × Value)} {j i : Nat} {m : Nd × Value} (hj : M[j]? = some m) (hi : i < 5) : (flatN M)[j * 5 + i]? = (nCells m)[i]? := by
  rw [flatN_flat]
  exact rws.flat_get (k := 5) (fun c hc => by obtain ⟨s, _, rfl⟩ := List.mem_map.1 hc; rfl) (by rw [List.getElem?_map, hj]; rfl) hi
/-- A node in its row. -/
theorem node_at {base n cap : Nat} {a : Option Addr} {M : List (Nd × Value)} {w : World} (h : w.ownsRow base 33 5 (.slice a n cap) M.length (flatN M)) {j : Nat} {m : Nd × Value} (hj : M[j]? = some m) :
    ∃ g, a = some ⟨g, 0, none⟩ ∧ g < w.heap.size ∧ w.cell? ⟨g, j * 5, none⟩ = some (.int .i64 m.1.kind) ∧ w.cell? ⟨g, j * 5 + 1, none⟩ = some (.int .i64 m.1.pos) ∧ w.cell? ⟨g, j * 5 + 2, none⟩ = some (.int .i64 m.1.num) ∧ w.cell? ⟨g, j * 5 + 3, none⟩ = some (.string m.1.name) ∧ w.cell? ⟨g, j * 5 + 4, none⟩ = some m.2 := by
  have hl : j < M.length := (List.getElem?_eq_some_iff.1 hj).1
  rcases h.2 with ⟨e, h0⟩ | ⟨g, cap', cur, e, hg, hh, hc, hm, hsz, hx⟩
  · omega
  · injection e with e1 e2 e3
    have get : ∀ i (u : Value), i < 5 → (nCells m)[i]? = some u → w.cell? ⟨g, j * 5 + i, none⟩ = some u := fun i u hi hu => by
      have := flatN_get hj hi
      rw [hu, ← hx, List.getElem?_take_of_lt (by omega), Array.getElem?_toList] at this
      exact cell_of hh this
    exact ⟨g, e1, (Array.getElem?_eq_some_iff.1 hh).1, get 0 _ (by omega) rfl, get 1 _ (by omega) rfl, get 2 _ (by omega) rfl, get 3 _ (by omega) rfl, get 4 _ (by omega) rfl⟩
theorem ints_flat (l : List Nat) : ((l.map fun (k : Nat) => (k : Int)).map rws.ci).flatten = ints l := by
  induction l with
  | nil => rfl
  | cons a r ih => simp only [List.map_cons, List.flatten_cons, ih]; rfl
theorem kids_rints {base : Nat} {v : Value} {l : List Nat} {w : World} (h : w.ownsRow base 3 1 v l.length (ints l)) : rws.RInts base w v (l.map fun (k : Nat) => (k : Int)) := by
  unfold rws.RInts rws.Row
  have e := ints_flat l
  rw [e, List.length_map]
  exact h
theorem rints_kids {base : Nat} {v : Value} {l : List Nat} {w : World} (h : rws.RInts base w v (l.map fun (k : Nat) => (k : Int))) : w.ownsRow base 3 1 v l.length (ints l) := by
  unfold rws.RInts rws.Row at h
  have e := ints_flat l
  rw [e, List.length_map] at h
  exact h
theorem nodeRow_below {base : Nat} {v : Value} {N : List Nd} {w w' : World} (h : NodeRow base v N w) (hb : Below w.heap.size w w') : NodeRow base v N w' := by
  obtain ⟨M, hM, hr, hk⟩ := h
  exact ⟨M, hM, row_keep hr (fun g hg => hb.block g (hr.lt g hg).2), fun m hm => row_keep (hk m hm) (fun g hg => hb.block g ((hk m hm).lt g hg).2)⟩
set_option maxHeartbeats 2000000 in
set_option maxRecDepth 100000 in
theorem eqNode_same (k p n : Int) (m : ByteArray) (l : List Nat) (v1 v2 : Value) (b1 b2 : Nat) (w : World) (h1 : w.ownsRow b1 3 1 v1 l.length (ints l)) (h2 : w.ownsRow b2 3 1 v2 l.length (ints l)) :
    Calls Tryz.prog 28 #[.agg #[.int .i64 k, .int .i64 p, .int .i64 n, .string m, v1], .agg #[.int .i64 k, .int .i64 p, .int .i64 n, .string m, v2]] w fun e w' => e = .returned (.bool true) ∧ Below w.heap.size w w' := by
  have bb : Below w.heap.size w ((w.alloc (.cells #[.int .i64 k, .int .i64 p, .int .i64 n, .string m, v1] 33)).alloc (.cells #[.int .i64 k, .int .i64 p, .int .i64 n, .string m, v2] 33)) := ((Below.refl _ _).alloc (Nat.le_refl _) _).alloc (by simp) _
  have q1 := (kids_rints (row_keep h1 (fun g hg => bb.block g (h1.lt g hg).2))).seq (ok := fun _ => True) (fun _ => rfl) (fun _ _ _ => trivial)
  have q2 := (kids_rints (row_keep h2 (fun g hg => bb.block g (h2.lt g hg).2))).seq (ok := fun _ => True) (fun _ => rfl) (fun _ _ _ => trivial)
  have he := rws.eqI_same _ _ _ _ q1 q2
  obtain ⟨a1, c1, rfl⟩ := row_slice h1
  obtain ⟨a2, c2, rfl⟩ := row_slice h2
  have HB := hide bb
  clear q1 q2 bb h1 h2
  go_enter Tryz.func28, Tryz.ntmps28
  go_wp2_with fail
  refine he.mono ?_
  rintro e w1 ⟨rfl, hb⟩
  have HB2 := hide ((unhide HB).trans (hb.mono (unhide HB).size))
  clear hb he HB
  go_wp2
  go_ret
  exact ⟨rfl, unhide HB2⟩
set_option maxRecDepth 100000 in
theorem eqFault_same (c a : Int) (w : World) : Calls Tryz.prog 15 #[.agg #[.int .i64 c, .int .i64 a], .agg #[.int .i64 c, .int .i64 a]] w fun e w' => e = .returned (.bool true) ∧ Below w.heap.size w w' := by
  go_enter Tryz.func15, Tryz.ntmps15
  go_wp2
  go_ret
  exact ⟨rfl, ((Below.refl _ _).alloc (Nat.le_refl _) _).alloc (by simp) _⟩
set_option maxHeartbeats 4000000 in
set_option maxRecDepth 100000 in
theorem eqNodes_same (N : List Nd) (v1 v2 : Value) (b1 b2 : Nat) (w : World) (h1 : NodeRow b1 v1 N w) (h2 : NodeRow b2 v2 N w) :
    Calls Tryz.prog 14 #[v1, v2] w fun e w' => e = .returned (.bool true) ∧ Below w.heap.size w w' := by
  obtain ⟨a1, c1, rfl⟩ := h1.slice
  obtain ⟨a2, c2, rfl⟩ := h2.slice
  have hc1 : N.length ≤ c1 ∧ c1 ≤ maxLen := by
    obtain ⟨M, hM, hr, -⟩ := h1
    have hl : M.length = N.length := by rw [← hM]; simp
    rcases hr.2 with ⟨e, e0⟩ | ⟨g, cap, cur, e, _, _, hc, hm, _⟩
    · injection e with _ _ e3; rw [e3]; unfold maxLen; omega
    · injection e with _ _ e3; rw [e3]; omega
  have H := hide (And.intro h1 h2)
  unfold maxLen at hc1
  clear h1 h2
  go_enter Tryz.func14, Tryz.ntmps14
  go_wp2
  go_loopw [5] (fun i wr => ∃ j : Nat, j ≤ N.length ∧ i = .int .i64 j ∧ Hid (Below w.heap.size w wr)) (fun i _ => N.length - (intOf i).toNat)
  case atStart => exact ⟨0, by omega, rfl, hide (Below.refl _ _)⟩
  case round =>
    obtain ⟨j, hj, rfl, HB⟩ := hrel
    by_cases hlt : j < N.length
    · obtain ⟨t, ht⟩ : ∃ t, N[j]? = some t := ⟨_, List.getElem?_eq_getElem hlt⟩
      obtain ⟨M1, hM1, hr1, hk1⟩ := nodeRow_below (unhide H).1 (unhide HB)
      obtain ⟨M2, hM2, hr2, hk2⟩ := nodeRow_below (unhide H).2 (unhide HB)
      obtain ⟨m1, hm1, e1⟩ : ∃ m, M1[j]? = some m ∧ m.1 = t := by
        rw [← hM1, List.getElem?_map] at ht
        cases h : M1[j]? with
        | none => rw [h] at ht; cases ht
        | some m => rw [h] at ht; exact ⟨m, rfl, Option.some.inj ht⟩
      obtain ⟨m2, hm2, e2⟩ : ∃ m, M2[j]? = some m ∧ m.1 = t := by
        rw [← hM2, List.getElem?_map] at ht
        cases h : M2[j]? with
        | none => rw [h] at ht; cases ht
        | some m => rw [h] at ht; exact ⟨m, rfl, Option.some.inj ht⟩
      obtain ⟨g1, rfl, hg1, p0, p1, p2, p3, p4⟩ := node_at hr1 hm1
      obtain ⟨g2, rfl, hg2, q0, q1, q2, q3, q4⟩ := node_at hr2 hm2
      have k1 := hk1 m1 (List.mem_of_getElem? hm1)
      have k2 := hk2 m2 (List.mem_of_getElem? hm2)
      obtain ⟨n1, kv1⟩ := m1
      obtain ⟨n2, kv2⟩ := m2
      simp only at e1 e2 p0 p1 p2 p3 p4 q0 q1 q2 q3 q4 k1 k2
      subst e1
      subst e2
      have bd : Below wr.heap.size wr wr.drew := ⟨rfl, rfl, rfl, Nat.le_refl _, fun _ _ => rfl⟩
      have he := eqNode_same n2.kind n2.pos n2.num n2.name n2.kids kv1 kv2 b1 b2 wr.drew k1 k2
      obtain ⟨x1, y1, rfl⟩ := row_slice k1
      obtain ⟨x2, y2, rfl⟩ := row_slice k2
      clear k1 k2 hr1 hr2 hk1 hk2 hM1 hM2 hm1 hm2 ht
      go_wp2
      go_region_with (go_at_call 28; refine he.mono ?_; rintro e w1 ⟨rfl, hb1⟩)
      all_goals go_wp2
      all_goals go_roundw
      all_goals first
        | exact ⟨j + 1, by omega, by go_num, hide (((unhide HB).trans (bd.mono (unhide HB).size)).trans (hb1.mono (Nat.le_trans (unhide HB).size bd.size)))⟩
        | (simp [intOf]; omega)
    · go_wp2
      go_ret
      exact ⟨rfl, unhide HB⟩
end
end Go.Proofs.YtjikjejfobnfnaaGreatDoor.imp
