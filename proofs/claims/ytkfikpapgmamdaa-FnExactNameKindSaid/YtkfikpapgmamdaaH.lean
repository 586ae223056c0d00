/-
  Tables compared.
-/
import Derived.Test.YtkfikpapgmamdaaG
namespace Go.Proofs.Ytkfikpapgmamdaa.nk
open Go.RowKit Go.Proofs.Ytkfikpapgmamdaa.num
set_option linter.unusedVariables false

theorem bel_next {w wr w1 : World} (h : Hid (Below w.heap.size w wr)) (hb : Below wr.heap.size wr w1) : Hid (Below w.heap.size w w1) := hide ((unhide h).trans (hb.mono (unhide h).size))
theorem bel_drew {w wr : World} (h : Hid (Below w.heap.size w wr)) : Hid (Below w.heap.size w wr.drew) := hide ⟨(unhide h).os, (unhide h).tape, (unhide h).output, (unhide h).size, (unhide h).block⟩
theorem grown_drew (w : World) : w.grownBy w.drew none := ⟨rfl, rfl, rfl, Nat.le_refl _, fun _ _ _ => rfl⟩
variable {b1 b2 : Nat}
set_option maxHeartbeats 4000000 in
set_option maxRecDepth 100000 in
theorem eqStrs_same (l : List ByteArray) (v1 v2 : Value) (w : World) (h1 : Strs b1 w v1 l) (h2 : Strs b2 w v2 l) :
    Calls Try.prog 20 #[v1, v2] w fun e w' => e = .returned (.bool true) ∧ Below w.heap.size w w' := by
  obtain ⟨a1, cap1, rfl, hc1, hm1, -⟩ := id h1
  obtain ⟨a2, cap2, rfl, hc2, hm2, -⟩ := id h2
  have H := hide (And.intro h1 h2)
  unfold maxLen at hm1 hm2
  clear h1 h2
  go_enter Try.func20, Try.ntmps20
  go_wp2
  go_loopw [5] (fun i wr => ∃ j : Nat, j ≤ l.length ∧ i = .int .i64 j ∧ Hid (Below w.heap.size w wr)) (fun i _ => l.length - (intOf i).toNat)
  case atStart => exact ⟨0, by omega, rfl, hide (Below.refl _ _)⟩
  case round =>
    obtain ⟨j, hj, rfl, HB⟩ := hrel
    by_cases hlt : j < l.length
    · obtain ⟨t, ht⟩ : ∃ t, l[j]? = some t := ⟨_, List.getElem?_eq_getElem hlt⟩
      obtain ⟨g1, o1, rfl, hg1, c1, -⟩ := ((unhide H).1.sbelow (unhide HB)).sget ht
      obtain ⟨g2, o2, rfl, hg2, c2, -⟩ := ((unhide H).2.sbelow (unhide HB)).sget ht
      clear ht
      go_wp2
      go_region
      all_goals go_wp2
      all_goals go_roundw
      all_goals first
        | exact ⟨j + 1, by omega, by go_num, bel_drew HB⟩
        | (simp [intOf]; omega)
    · go_wp2
      go_ret
      exact ⟨rfl, unhide HB⟩

theorem below2 (w : World) (a b : Obj) : Below w.heap.size w ((w.alloc a).alloc b) := ((Below.refl _ _).alloc (Nat.le_refl _) _).alloc (by simp) _
theorem eqArray_same (n : ByteArray) (k : Int) (w : World) : Calls Try.prog 30 #[.agg #[.string n, .int .i64 k], .agg #[.string n, .int .i64 k]] w fun e w' => e = .returned (.bool true) ∧ Below w.heap.size w w' := by
  go_enter Try.func30, Try.ntmps30
  go_wp2
  go_ret
  exact ⟨rfl, below2 _ _ _⟩

set_option maxHeartbeats 4000000 in
set_option maxRecDepth 100000 in
theorem eqArrs_same (l : List Ar) (v1 v2 : Value) (w : World) (h1 : Arrs b1 w v1 l) (h2 : Arrs b2 w v2 l) :
    Calls Try.prog 19 #[v1, v2] w fun e w' => e = .returned (.bool true) ∧ Below w.heap.size w w' := by
  obtain ⟨a1, cap1, rfl, hc1, hm1, -⟩ := id h1
  obtain ⟨a2, cap2, rfl, hc2, hm2, -⟩ := id h2
  have H := hide (And.intro h1 h2)
  unfold maxLen at hm1 hm2
  clear h1 h2
  go_enter Try.func19, Try.ntmps19
  go_wp2
  go_loopw [5] (fun i wr => ∃ j : Nat, j ≤ l.length ∧ i = .int .i64 j ∧ Hid (Below w.heap.size w wr)) (fun i _ => l.length - (intOf i).toNat)
  case atStart => exact ⟨0, by omega, rfl, hide (Below.refl _ _)⟩
  case round =>
    obtain ⟨j, hj, rfl, HB⟩ := hrel
    by_cases hlt : j < l.length
    · obtain ⟨t, ht⟩ : ∃ t, l[j]? = some t := ⟨_, List.getElem?_eq_getElem hlt⟩
      obtain ⟨g1, o1, rfl, hg1, c0, c1, -⟩ := ((unhide H).1.abelow (unhide HB)).aget ht
      obtain ⟨g2, o2, rfl, hg2, d0, d1, -⟩ := ((unhide H).2.abelow (unhide HB)).aget ht
      have heq := eqArray_same t.name t.size
      clear ht
      go_wp2
      go_region_with (go_at_call 30; refine (heq _).mono ?_; rintro e w1 ⟨rfl, hb1⟩)
      all_goals go_wp2
      all_goals go_roundw
      all_goals first
        | exact ⟨j + 1, by omega, by go_num, bel_next HB ⟨hb1.os, hb1.tape, hb1.output, hb1.size, hb1.block⟩⟩
        | (simp [intOf]; omega)
    · go_wp2
      go_ret
      exact ⟨rfl, unhide HB⟩

set_option maxHeartbeats 4000000 in
set_option maxRecDepth 100000 in
theorem eqFunc_same (u : Fu) (i1 r1 i2 r2 : Value) (w : World) (hi1 : Strs b1 w i1 u.ints) (hr1 : Strs b1 w r1 u.refs) (hi2 : Strs b2 w i2 u.ints) (hr2 : Strs b2 w r2 u.refs) :
    Calls Try.prog 31 #[.agg #[.string u.name, .int .i64 u.params, i1, r1, .int .i64 u.body], .agg #[.string u.name, .int .i64 u.params, i2, r2, .int .i64 u.body]] w fun e w' => e = .returned (.bool true) ∧ Below w.heap.size w w' := by
  have ki := fun wx (hb : Below w.heap.size w wx) => eqStrs_same u.ints i1 i2 wx (hi1.sbelow hb) (hi2.sbelow hb)
  have kr := fun wx (hb : Below w.heap.size w wx) => eqStrs_same u.refs r1 r2 wx (hr1.sbelow hb) (hr2.sbelow hb)
  clear hi1 hr1 hi2 hr2
  obtain ⟨n, p, li, lr, bd⟩ := u
  simp only at *
  go_enter Try.func31, Try.ntmps31
  go_wp2_with fail
  have b0 := below2 w (.cells #[.string n, .int .i64 p, i1, r1, .int .i64 bd] 43) (.cells #[.string n, .int .i64 p, i2, r2, .int .i64 bd] 43)
  refine (ki _ b0).mono ?_
  rintro e w1 ⟨rfl, hb⟩
  have z0 := at_below hb (at_alloc (at_new _ _))
  have z1 := at_below hb (at_new1 _ _ _)
  have bb : Below w.heap.size w w1 := b0.trans (hb.mono b0.size)
  clear hb b0 ki
  have l1 : w.heap.size + 1 < w1.heap.size := (Array.getElem?_eq_some_iff.1 z1).1
  have c3 : w1.cell? ⟨w.heap.size, 3, none⟩ = some r1 := cell_of z0 rfl
  have d3 : w1.cell? ⟨w.heap.size + 1, 3, none⟩ = some r2 := cell_of z1 rfl
  have HZ := hide (And.intro z0 (And.intro z1 bb))
  clear z0 z1 bb
  go_wp2_with fail
  obtain ⟨z0, z1, bb⟩ := unhide HZ
  refine (kr _ bb).mono ?_
  rintro e w2 ⟨rfl, hb⟩
  have y0 := at_below hb z0
  have y1 := at_below hb z1
  have bb2 : Below w.heap.size w w2 := bb.trans (hb.mono bb.size)
  clear hb bb z0 z1 HZ c3 d3 kr
  have l1 : w.heap.size + 1 < w2.heap.size := (Array.getElem?_eq_some_iff.1 y1).1
  have c4 : w2.cell? ⟨w.heap.size, 4, none⟩ = some (.int .i64 bd) := cell_of y0 rfl
  have d4 : w2.cell? ⟨w.heap.size + 1, 4, none⟩ = some (.int .i64 bd) := cell_of y1 rfl
  clear y0 y1
  go_wp2
  go_ret
  exact ⟨rfl, bb2⟩

set_option maxHeartbeats 4000000 in
set_option maxRecDepth 100000 in
theorem eqFuns_same (l : List Fu) (v1 v2 : Value) (w : World) (h1 : Funs b1 w v1 l) (h2 : Funs b2 w v2 l) :
    Calls Try.prog 21 #[v1, v2] w fun e w' => e = .returned (.bool true) ∧ Below w.heap.size w w' := by
  obtain ⟨a1, cap1, rfl, hc1, hm1, -⟩ := id h1
  obtain ⟨a2, cap2, rfl, hc2, hm2, -⟩ := id h2
  have H := hide (And.intro h1 h2)
  unfold maxLen at hm1 hm2
  clear h1 h2
  go_enter Try.func21, Try.ntmps21
  go_wp2
  go_loopw [5] (fun i wr => ∃ j : Nat, j ≤ l.length ∧ i = .int .i64 j ∧ Hid (Below w.heap.size w wr)) (fun i _ => l.length - (intOf i).toNat)
  case atStart => exact ⟨0, by omega, rfl, hide (Below.refl _ _)⟩
  case round =>
    obtain ⟨j, hj, rfl, HB⟩ := hrel
    by_cases hlt : j < l.length
    · obtain ⟨t, ht⟩ : ∃ t, l[j]? = some t := ⟨_, List.getElem?_eq_getElem hlt⟩
      obtain ⟨g1, o1, vi1, vr1, rfl, hg1, c0, c1, c2, c3, c4, -, si1, sr1⟩ := ((unhide H).1.fbelow (unhide HB)).fget ht
      obtain ⟨g2, o2, vi2, vr2, rfl, hg2, d0, d1, d2, d3, d4, -, si2, sr2⟩ := ((unhide H).2.fbelow (unhide HB)).fget ht
      have heq := fun wx (hb : wr.grownBy wx none) => eqFunc_same t vi1 vr1 vi2 vr2 wx (si1.strs hb (fun g e => by cases e)) (sr1.strs hb (fun g e => by cases e)) (si2.strs hb (fun g e => by cases e)) (sr2.strs hb (fun g e => by cases e))
      clear ht si1 sr1 si2 sr2
      go_wp2
      go_region_with (go_at_call 31; refine (heq _ (by first | exact grown_drew _ | exact World.grownBy.refl _ _)).mono ?_; rintro e w1 ⟨rfl, hb1⟩)
      all_goals go_wp2
      all_goals go_roundw
      all_goals first
        | exact ⟨j + 1, by omega, by go_num, bel_next HB ⟨hb1.os, hb1.tape, hb1.output, hb1.size, hb1.block⟩⟩
        | (simp [intOf]; omega)
    · go_wp2
      go_ret
      exact ⟨rfl, unhide HB⟩

set_option maxHeartbeats 4000000 in
set_option maxRecDepth 100000 in
theorem eqTable_same (t : Tb) (a1 g1 f1 a2 g2 f2 : Value) (w : World) (h1 : TbAt b1 w a1 g1 f1 t) (h2 : TbAt b2 w a2 g2 f2 t) :
    Calls Try.prog 8 #[.agg #[a1, g1, f1], .agg #[a2, g2, f2]] w fun e w' => e = .returned (.bool true) ∧ Below w.heap.size w w' := by
  have ka := fun wx (hb : Below w.heap.size w wx) => eqArrs_same t.arrays a1 a2 wx (h1.arrays.abelow hb) (h2.arrays.abelow hb)
  have kg := fun wx (hb : Below w.heap.size w wx) => eqStrs_same t.globals g1 g2 wx (h1.globals.sbelow hb) (h2.globals.sbelow hb)
  have kf := fun wx (hb : Below w.heap.size w wx) => eqFuns_same t.funcs f1 f2 wx (h1.funcs.fbelow hb) (h2.funcs.fbelow hb)
  clear h1 h2
  go_enter Try.func8, Try.ntmps8
  go_wp2_with fail
  have b0 := below2 w (.cells #[a1, g1, f1] 33) (.cells #[a2, g2, f2] 33)
  refine (ka _ b0).mono ?_
  rintro e w1 ⟨rfl, hb⟩
  have z0 := at_below hb (at_alloc (at_new _ _))
  have z1 := at_below hb (at_new1 _ _ _)
  have bb : Below w.heap.size w w1 := b0.trans (hb.mono b0.size)
  clear hb b0 ka
  have l1 : w.heap.size + 1 < w1.heap.size := (Array.getElem?_eq_some_iff.1 z1).1
  have c1 : w1.cell? ⟨w.heap.size, 1, none⟩ = some g1 := cell_of z0 rfl
  have d1 : w1.cell? ⟨w.heap.size + 1, 1, none⟩ = some g2 := cell_of z1 rfl
  have HZ := hide (And.intro z0 (And.intro z1 bb))
  clear z0 z1 bb
  go_wp2_with fail
  obtain ⟨z0, z1, bb⟩ := unhide HZ
  refine (kg _ bb).mono ?_
  rintro e w2 ⟨rfl, hb⟩
  have y0 := at_below hb z0
  have y1 := at_below hb z1
  have bb2 : Below w.heap.size w w2 := bb.trans (hb.mono bb.size)
  clear hb bb z0 z1 HZ c1 d1 kg
  have l1 : w.heap.size + 1 < w2.heap.size := (Array.getElem?_eq_some_iff.1 y1).1
  have c2 : w2.cell? ⟨w.heap.size, 2, none⟩ = some f1 := cell_of y0 rfl
  have d2 : w2.cell? ⟨w.heap.size + 1, 2, none⟩ = some f2 := cell_of y1 rfl
  have HZ := hide bb2
  clear y0 y1 bb2
  go_wp2_with fail
  refine (kf _ (unhide HZ)).mono ?_
  rintro e w3 ⟨rfl, hb⟩
  have bb3 := bel_next HZ hb
  clear hb
  go_wp2
  go_ret
  exact ⟨rfl, unhide bb3⟩
end Go.Proofs.Ytkfikpapgmamdaa.nk
