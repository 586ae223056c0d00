/-
  The program's edges of a point: walked.
-/
import Derived.Test.YtcdpfpdoiiaggaaRg
import Derived.Maps.GroupsBeside
namespace Go.Proofs.Ytcdpfpdoiiaggaa.rws
open Go.RowKit Go.ChangeShapes Go.Deep Go.Maps Go.WideAt Go.WideShapes Go.ChangeMaps Go.Proofs.Ytcdpfpdoiiaggaa.num
set_option linter.unusedVariables false

theorem groups_kept {w w' : World} {P : Program} {k base e : Nat} {q : IntKind} {b n : Nat} {D : DataW Unit} (h : w.ownsGroups P k base e q b n D) (hg : w.grownBy w' none) : w'.ownsGroups P k base e q b n D :=
  h.kept hg (by simp) (fun es cl hb x hx => by cases x.val.ownBlock <;> simp)
/-- What the loop keeps. -/
def EF (es : List Ed) (w : World) (j : Nat) (wr : World) : Prop :=
  (∃ D : DataW Unit, wr.ownsGroups Try.prog 3 (w.heap.size + 1) 3 .i64 w.heap.size j D ∧ Rep D es j) ∧ Below w.heap.size w wr ∧ w.heap.size + 1 ≤ wr.heap.size

theorem bel_alloc_drew {n : Nat} {w wr : World} (h : Below n w wr) (hn : n ≤ wr.heap.size) (o : Obj) : Below n w (wr.alloc o).drew := ⟨(h.alloc hn o).os, (h.alloc hn o).tape, (h.alloc hn o).output, (h.alloc hn o).size, (h.alloc hn o).block⟩
theorem grown_alloc_drew (w : World) (o : Obj) : w.grownBy (w.alloc o).drew none :=
  ⟨(World.grownBy_alloc w o none).os, (World.grownBy_alloc w o none).tape, (World.grownBy_alloc w o none).output, (World.grownBy_alloc w o none).size, (World.grownBy_alloc w o none).block⟩
/-- The edge's own cells stay while a row of numbers grows. -/
theorem edge_kept {W w2 : World} {v : Value} {n base b : Nat} {xs : List Value} {cs : Array Value} (h : W.ownsRow base 3 1 v n xs) (hg : W.grownBy w2 v.ownBlock) (hb : W.heap[b]? = some (.cells cs 41)) : w2.heap[b]? = some (.cells cs 41) := by
  refine (hg.block b (Array.getElem?_eq_some_iff.1 hb).1 (fun e => ?_)).trans hb
  rcases h.2 with ⟨rfl, _⟩ | ⟨g, cap, cur, rfl, _, hh, _⟩
  · cases e
  · cases e
    rw [hb] at hh
    cases hh
/-- The store, and what is kept behind it. -/
theorem back_next {es : List Ed} {w W w2 : World} {j : Nat} {v v' : Value} {t : Ed} {D : DataW Unit} (hback : W.groupBack Try.prog 45 3 (w.heap.size + 1) 3 .i64 w.heap.size j D (.int .i64 t.a) (.int .i64 t.a) v)
    (hbel : Below w.heap.size w W) (hws : w.heap.size ≤ W.heap.size) (hrep : Rep D es j) (ht : es[j]? = some t) (ho : W.ownsInts (w.heap.size + 1) 3 .i64 v (outs es t.a j)) (hg : W.grownBy w2 v.ownBlock)
    (hown' : w2.ownsRow (w.heap.size + 1) 3 1 v' ((outs es t.a j).length + 1) ((outs es t.a j).map (Value.int .i64) ++ [.int .i64 (j : Int)])) (hloc : v'.ownBlock = v.ownBlock ∨ ∃ g, v'.ownBlock = some g ∧ W.heap.size ≤ g) (hj : j < 1048576) :
    ∃ w3, (Instr.mapUpdate 45 (.map (some w.heap.size)) (.int .i64 t.a) v').run Try.prog w2 = .ok () w3 ∧ Hid (EF es w (j + 1) w3) := by
  have ho2 := ho.appended hown' (WalkArith.wf_i64 (by omega))
  obtain ⟨w3, hrun, hown3, hg3⟩ := hback w2 v' _ hg ho2 (by have := outs_len es t.a j; simp; omega) hloc
  have hlt := (Array.getElem?_eq_some_iff.1 (show w3.heap[w.heap.size]? = _ from hown3.choose_spec.choose_spec.1)).1
  exact ⟨w3, hrun, hide ⟨⟨_, hown3, hrep.put ht ho2⟩, hbel.groups ho hg hg3 hws (Nat.le_succ _) (Nat.le_refl _), hlt⟩⟩

set_option maxHeartbeats 8000000 in
set_option maxRecDepth 100000 in
theorem edgesFrom_any {base : Nat} (es : List Ed) (v : Value) (w : World) (h : Eds base w v es) (h20 : es.length ≤ 1048576) :
    Calls Try.prog 19 #[v] w fun e w' => e = .returned (.map (some w.heap.size)) ∧ EF es w es.length w' := by
  obtain ⟨a, cap, rfl, hc1, hc2⟩ := h.shape
  obtain ⟨i0, hi, hz0, hz1, hz2⟩ := info_parts infoI
  have hmm := @run_makeMap Try.prog
  have H := hide h
  unfold maxLen at hc2
  clear h
  go_enter Try.func19, Try.ntmps19
  go_wp2
  go_loopw [9] (fun i wr => ∃ (j : Nat), j ≤ es.length ∧ i = .int .i64 j ∧ Hid (EF es w j wr)) (fun i _ => es.length - (intOf i).toNat)
  case atStart => exact ⟨0, by omega, rfl, hide ⟨⟨_, World.ownsGroups_made _ _ _ _ _, rep_nil _⟩, (Below.refl _ _).alloc (Nat.le_refl _) _, by simp⟩⟩
  case round =>
    obtain ⟨j, hj, rfl, HE⟩ := hrel
    by_cases hlt : j < es.length
    · obtain ⟨t, ht⟩ : ∃ t, es[j]? = some t := ⟨_, List.getElem?_eq_getElem hlt⟩
      obtain ⟨b, off, rfl, hb, hwf, c0, c1, c2, c3, c4⟩ := ((unhide H).below (unhide HE).2.1).atE ht
      have hkey : keyOf Try.prog 3 (.int .i64 t.a) = some (.int .i64 t.a) := keyOf_int_mk Try.underlying3 hwf
      have HT := hide ht
      clear ht
      obtain ⟨⟨D, hown, hrep⟩, hbel, hws⟩ := unhide HE
      obtain ⟨E, hE⟩ : ∃ E : Obj, E = .cells #[.int .i64 t.a, .int .i64 t.b, .int .i64 t.c, .int .i64 t.d, .int .i64 t.e] 41 := ⟨_, rfl⟩
      obtain ⟨O, hO⟩ : ∃ O : Obj, O = .cells #[.int .i64 j] 3 := ⟨_, rfl⟩
      have g0 : wr.grownBy (wr.alloc E).drew none := grown_alloc_drew wr E
      have g1 : (wr.alloc E).drew.grownBy ((wr.alloc E).drew.alloc O) none := World.grownBy_alloc _ O none
      have hA := groups_kept hown g0
      obtain ⟨v1, zs1, hrun1, hat1, hoi1, hzl1, hback1⟩ := hA.at intKey Try.underlying45 (zeroRow _) (by unfold maxLen; omega) hkey
      obtain ⟨v2, zs2, hrun2, hat2, hoi2, hzl2, hback2⟩ := (groups_kept hA g1).at intKey Try.underlying45 (zeroRow _) (by unfold maxLen; omega) hkey
      have eW : (wr.alloc E).drew.alloc O = ((wr.alloc E).alloc O).drew := rfl
      rw [eW] at hrun2
      clear eW
      obtain rfl := hrep.row hat1 hoi1
      obtain rfl := hrep.row hat2 hoi2
      have hcell : ∀ k u, [Value.int .i64 (j : Int)][k]? = some u → ((wr.alloc E).drew.alloc O).cell? ((⟨wr.heap.size + 1, 0, none⟩ : Addr).add k) = some u := by
        have := cell_one_new (wr.alloc E).drew (.int .i64 (j : Int)) 3
        rw [← hO] at this
        have e : (wr.alloc E).drew.heap.size = wr.heap.size + 1 := by show (wr.alloc E).heap.size = _; simp
        rw [e] at this
        exact this
      have hsz0 : (wr.alloc E).drew.heap.size = wr.heap.size + 1 := by show (wr.alloc E).heap.size = _; simp
      have z0 : (wr.alloc E).drew.heap[wr.heap.size]? = some E := at_new wr E
      have z1 : ((wr.alloc E).drew.alloc O).heap[wr.heap.size]? = some E := at_alloc z0
      have b0 : Below w.heap.size w (wr.alloc E).drew := bel_alloc_drew hbel (by omega) E
      have b1 : Below w.heap.size w ((wr.alloc E).drew.alloc O) := b0.alloc (by omega) O
      have H1 := hide (And.intro hoi1 (And.intro hback1 hcell))
      have H3 := hide (And.intro z1 (And.intro b0 (And.intro b1 hsz0)))
      clear z0 z1 b0 b1 hsz0
      have H2 := hide (And.intro hoi2 (And.intro hback2 hrep))
      subst hE hO
      clear hoi1 hoi2 hback1 hback2 hat1 hat2 hA hown hrep g0 g1 hbel hcell
      have hzl := outs_len es t.a j
      go_wp2
      go_region_law (first
        | (refine step_append_own rfl (.tmp 20) (.tmp 22) 22 rfl (w.heap.size + 1) 3 i0 (.int .i64 0) 1 8 Try.underlying22 hi hz0 hz1 hz2 rfl (by decide) v1 (outs es t.a j).length ((outs es t.a j).map (Value.int .i64)) (by first | (simp [Act.eval]; done) | fail) ((unhide H1).1.1.alloc _) ⟨wr.heap.size + 1, 0, none⟩ 1 1 [.int .i64 j] (by simp [Act.eval]) rfl (unhide H1).2.2 (ints_oneCell .i64 [(j : Int)]) (by unfold maxLen; omega) (by omega) (by simp; omega) ?_; intro v' w2 hown' hgrow hloc; obtain ⟨w3, hrun3, HN⟩ := back_next (unhide H1).2.1 (unhide H3).2.1 (by have := (unhide H3).2.2.2; omega) (unhide H2).2.2 (unhide HT) (unhide H1).1 ((World.grownBy_alloc _ _ _).trans hgrow) hown' (hloc.imp id (fun h => ⟨_, h, by simp⟩)) (by omega); have zc := edge_kept ((unhide H1).1.1.alloc _) hgrow (unhide H3).1; have cc : w2.cell? ⟨wr.heap.size, 0, none⟩ = some (.int .i64 t.a) := cell_of zc rfl; have cl : wr.heap.size < w2.heap.size := (Array.getElem?_eq_some_iff.1 zc).1; clear hown' hgrow hloc zc)
        | (refine step_append_own rfl (.tmp 20) (.tmp 22) 22 rfl (w.heap.size + 1) 3 i0 (.int .i64 0) 1 8 Try.underlying22 hi hz0 hz1 hz2 rfl (by decide) v2 (outs es t.a j).length ((outs es t.a j).map (Value.int .i64)) (by first | (simp [Act.eval]; done) | fail) (unhide H2).1.1 ⟨wr.heap.size + 1, 0, none⟩ 1 1 [.int .i64 j] (by simp [Act.eval]) rfl (unhide H1).2.2 (ints_oneCell .i64 [(j : Int)]) (by unfold maxLen; omega) (by omega) (by simp; omega) ?_; intro v' w2 hown' hgrow hloc; obtain ⟨w3, hrun3, HN⟩ := back_next (unhide H2).2.1 (unhide H3).2.2.1 (by have := (unhide H3).2.2.1.size; omega) (unhide H2).2.2 (unhide HT) (unhide H2).1 hgrow hown' (hloc.imp id (fun h => ⟨_, h, Nat.le_refl _⟩)) (by omega); have zc := edge_kept (unhide H2).1.1 hgrow (unhide H3).1; have cc : w2.cell? ⟨wr.heap.size, 0, none⟩ = some (.int .i64 t.a) := cell_of zc rfl; have cl : wr.heap.size < w2.heap.size := (Array.getElem?_eq_some_iff.1 zc).1; clear hown' hgrow hloc zc))
      all_goals go_wp2
      all_goals go_roundw
      all_goals first
        | exact ⟨j + 1, by omega, by go_num, HN⟩
        | (simp [intOf]; omega)
    · obtain rfl : j = es.length := by omega
      go_wp2
      go_ret
      exact ⟨rfl, unhide HE⟩
end Go.Proofs.Ytcdpfpdoiiaggaa.rws
