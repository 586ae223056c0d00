/-
  A text is read: the program that it is, or what is wrong with it.
  A text is read: what the lexer tells of it.
  Where the lexer tells no fault it tells no place.
-/
import Derived.Test.YtjikjejfobnfnaaGreatDoorC41
import Derived.Test.YtjikjejfobnfnaaGreatDoorC42
namespace Go.Proofs.YtjikjejfobnfnaaGreatDoor.imp
open Go.RowKit Go.Proofs.YtjikjejfobnfnaaGreatDoor.num Go.Proofs.YtjikjejfobnfnaaGreatDoor.lex Go.Proofs.YtjikjejfobnfnaaGreatDoor.par
set_option linter.unusedVariables false
theorem Tb.below {w w' : World} {B : Nat} (h : Tb w) (hb : Below B w w') (hB : 2 < B) : Tb w' := by
  obtain ⟨t1, f1, e1⟩ := h.ops
  obtain ⟨t2, f2, e2⟩ := h.cmps
  exact ⟨⟨t1, f1, at_below hb e1 hB⟩, ⟨t2, f2, at_below hb e2 (by omega)⟩⟩
/-- Tokens in a row: what the reader asks of them. -/
theorem ok_of {W : World} {base B : Nat} (hB : B = W.heap.size) {a : Option Addr} {c : Nat} {ts : List Tok} (fin : Int) (h : W.ownsRow base 93 4 (.slice a ts.length c) ts.length (rowOf ts)) (hl : ts.length ≤ 700) : (Cx.mk W B a c ts fin).Ok := by
  subst hB
  by_cases h0 : 0 < ts.length
  · obtain ⟨g, cap, e, _, hc, hg, r⟩ := row_read h h0
    injection e with e1 e2 e3
    subst e1 e3
    exact ⟨hl, hc, Nat.le_refl _, fun j t ht => ⟨g, rfl, hg, r j t ht⟩⟩
  · refine ⟨hl, by simp; omega, Nat.le_refl _, fun j t ht => ?_⟩
    have := (List.getElem?_eq_some_iff.1 ht).1
    simp at this
    omega
theorem PT.start {W w' : World} {B : Nat} (hB : B = W.heap.size) {a : Option Addr} {c : Nat} {ts : List Tok} {fin : Int} (hz : w'.heap[W.heap.size]? = some (.cells (newI W.heap.size (.slice a ts.length c) fin 0) 108)) (hb : Below W.heap.size W w') : PT (Cx.mk W B a c ts fin) [] [] ⟨0, 0, 0, 0⟩ w' := by
  subst hB
  exact ⟨fun _ => ⟨by simp, by simp⟩, hz, fun v p hm => (by cases hm), fun b o hm => (by cases hm), List.nodup_nil, hb⟩
set_option maxHeartbeats 4000000 in
set_option maxRecDepth 100000 in
theorem readProgram_ok (t : ByteArray) (w : World) (hs : t.size ≤ 1048576) (hg : Sg w) (tb : Tb w) {ps : List P} {s' : T} (F : Nat) (h0 : (lexAll t).2 = (0, 0)) (hp : progI (lexAll t).1 t.size (runI (lexAll t).1 t.size F) ⟨0, 0, 0, 0⟩ = some (ps, s')) :
    Calls Tryz.prog 19 #[.string t] w fun e w' => ∃ (x : Cx) (lv : Value), e = .returned (progV s' ps.length lv) ∧ w.heap.size < x.B ∧ IsPart x [] w' (rowV lv) (rowP ps) ∧ Below w.heap.size w w' := by
  have h3 := hg.size
  have b0 : Below w.heap.size w (w.alloc (.cells #[.int .i64 0, .int .i64 0, .int .i64 0, .string ⟨#[]⟩, .slice none 0 0] 46)) := (Below.refl _ _).alloc (Nat.le_refl _) _
  have hL := implLex_any t _ hs (hg.below b0 h3)
  have hts := lexAll_len t
  have e1 : (lexAll t).2.1 = 0 := by rw [h0]
  have e2 : (lexAll t).2.2 = 0 := by rw [h0]
  unfold Out at hL
  rw [e1, e2] at hL
  generalize (lexAll t).1 = ts at *
  clear h0 e1 e2
  have HP0 := hide hp
  clear hp
  have z0 := one_first w (.cells #[.int .i64 0, .int .i64 0, .int .i64 0, .string ⟨#[]⟩, .slice none 0 0] 46)
  go_enter Tryz.func19, Tryz.ntmps19
  go_wp2_with fail
  refine hL.mono ?_
  rintro e w1 ⟨v, rfl, hrow, hb⟩
  obtain ⟨a, c, rfl⟩ := row_slice hrow
  have z1 := at_below hb z0 (by simp)
  have bb := hide (b0.trans (hb.mono b0.size))
  have HR := hide hrow
  have HZ := hide z1
  have l1 : w.heap.size < w1.heap.size := (Array.getElem?_eq_some_iff.1 z1).1
  clear hrow hb hL z0 z1
  have hg0 := hide (And.intro hg tb)
  clear hg tb b0
  go_wp2_with fail
  refine (newReader_any a ts.length c t.size _).mono ?_
  rintro e w2 ⟨rfl, hz, hb2⟩
  have hB : w1.heap.size + 1 = (w1.alloc (.cells #[.int .i64 0, .int .i64 0] 25)).heap.size := (size1 _ _).symm
  have bA : Below w1.heap.size w1 (w1.alloc (.cells #[.int .i64 0, .int .i64 0] 25)) := (Below.refl _ _).alloc (Nat.le_refl _) _
  have bW := hide ((unhide bb).trans (bA.mono (unhide bb).size))
  have ok := ok_of (fin := (t.size : Int)) hB (row_below (unhide HR) bA) hts
  have h := PT.start (fin := (t.size : Int)) hB hz hb2
  have tbW : Tb (w1.alloc (.cells #[.int .i64 0, .int .i64 0] 25)) := (unhide hg0).2.below (unhide bW) (by omega)
  have hPW := hide (program_walk ok (good_runI ok tbW (by show 2 < w1.heap.size + 1; omega) F).2.2 h (unhide HP0))
  have HZ2 := hide (at_alloc (a := .cells #[.int .i64 0, .int .i64 0] 25) (unhide HZ))
  clear HR bb HZ hz hb2 h ok tbW bA HP0 hB
  go_wp2_with fail
  refine (unhide hPW).mono ?_
  rintro e w3 ⟨lv, rfl, h⟩
  clear hPW
  have z3 := at_below h.bel (unhide HZ2) (by show w.heap.size < w1.heap.size + 1; omega)
  obtain ⟨la, lc, rfl⟩ := row_shape h.top
  have m0 : w3.cell? ⟨w.heap.size, 0, none⟩ = some (.int .i64 0) := cell_of z3 rfl
  have m1 : w3.cell? ⟨w.heap.size, 1, none⟩ = some (.int .i64 0) := cell_of z3 rfl
  have m2 : w3.cell? ⟨w.heap.size, 2, none⟩ = some (.int .i64 0) := cell_of z3 rfl
  have m3 : w3.cell? ⟨w.heap.size, 3, none⟩ = some (.string ⟨#[]⟩) := cell_of z3 rfl
  have m4 : w3.cell? ⟨w.heap.size, 4, none⟩ = some (.slice none 0 0) := cell_of z3 rfl
  have y0 : w3.frozen? ⟨w.heap.size, 0, none⟩ = false := frozen_of z3
  have y1 : w3.frozen? ⟨w.heap.size, 1, none⟩ = false := frozen_of z3
  have y2 : w3.frozen? ⟨w.heap.size, 2, none⟩ = false := frozen_of z3
  have y3 : w3.frozen? ⟨w.heap.size, 3, none⟩ = false := frozen_of z3
  have y4 : w3.frozen? ⟨w.heap.size, 4, none⟩ = false := frozen_of z3
  have l3 : w.heap.size < w3.heap.size := (Array.getElem?_eq_some_iff.1 z3).1
  have HP := hide (And.intro h z3)
  have hB2 : w.heap.size < w1.heap.size + 1 := by omega
  clear h z3
  by_cases hc : s'.c = 0
  · have ev : progV s' ps.length (.slice la ps.length lc) = .tuple #[.agg #[.int .i64 1, .int .i64 0, .int .i64 0, .string ⟨#[]⟩, .slice la ps.length lc], .nilIface] := by simp [progV, hc]
    rw [ev]
    go_wp2
    obtain ⟨h, z3⟩ := unhide HP
    refine bodyPost_ret (results_cell_tmp rfl _ _ w.heap.size 46 #[.int .i64 1, .int .i64 0, .int .i64 0, .string ⟨#[]⟩, .slice la ps.length lc] (0, 0) _ rfl (at_same (at_same (at_same (at_same (at_same z3))))) Tryz.underlying46 rfl (by kernel_rfl)) rfl ?_
    refine ⟨_, _, by rw [ev]; rfl, hB2, h.top.of_blocks fun b o hbo hlt hn => ⟨?_, hn⟩, ?_⟩
    · have hlt' : w1.heap.size + 1 < b := hlt
      exact at_other (at_other (at_other (at_other (at_other hbo (by omega)) (by omega)) (by omega)) (by omega)) (by omega)
    · have k := (unhide bW).trans (h.bel.mono (by show w.heap.size ≤ w1.heap.size + 1; omega))
      exact ((((k.setCell (p := ⟨w.heap.size, 0, none⟩) (Nat.le_refl _) _).setCell (p := ⟨w.heap.size, 1, none⟩) (Nat.le_refl _) _).setCell (p := ⟨w.heap.size, 2, none⟩) (Nat.le_refl _) _).setCell (p := ⟨w.heap.size, 3, none⟩) (Nat.le_refl _) _).setCell (p := ⟨w.heap.size, 4, none⟩) (Nat.le_refl _) _
  · have ev : progV s' ps.length (.slice la ps.length lc) = .tuple #[.agg #[.int .i64 0, .int .i64 0, .int .i64 0, .string ⟨#[]⟩, .slice none 0 0], .iface 113 (.agg #[.int .i64 ps.length, .iface 77 (.agg #[.int .i64 s'.c, .int .i64 s'.a])])] := by simp [progV, hc]
    rw [ev]
    go_wp2
    obtain ⟨h, z3⟩ := unhide HP
    refine bodyPost_ret (results_cell_tmp rfl _ _ w.heap.size 46 #[.int .i64 0, .int .i64 0, .int .i64 0, .string ⟨#[]⟩, .slice none 0 0] (0, 0) _ rfl (at_same (at_same (at_same (at_same (at_same z3))))) Tryz.underlying46 rfl (by kernel_rfl)) rfl ?_
    refine ⟨_, _, by rw [ev]; rfl, hB2, h.top.of_blocks fun b o hbo hlt hn => ⟨?_, hn⟩, ?_⟩
    · have hlt' : w1.heap.size + 1 < b := hlt
      exact at_other (at_other (at_other (at_other (at_other hbo (by omega)) (by omega)) (by omega)) (by omega)) (by omega)
    · have k := (unhide bW).trans (h.bel.mono (by show w.heap.size ≤ w1.heap.size + 1; omega))
      exact ((((k.setCell (p := ⟨w.heap.size, 0, none⟩) (Nat.le_refl _) _).setCell (p := ⟨w.heap.size, 1, none⟩) (Nat.le_refl _) _).setCell (p := ⟨w.heap.size, 2, none⟩) (Nat.le_refl _) _).setCell (p := ⟨w.heap.size, 3, none⟩) (Nat.le_refl _) _).setCell (p := ⟨w.heap.size, 4, none⟩) (Nat.le_refl _) _
set_option maxHeartbeats 4000000 in
set_option maxRecDepth 100000 in
theorem readProgram_bad (t : ByteArray) (w : World) (hs : t.size ≤ 1048576) (hg : Sg w) (h0 : ¬ (lexAll t).2.1 = 0) :
    Calls Tryz.prog 19 #[.string t] w fun e w' => e = .returned (.tuple #[.agg #[.int .i64 0, .int .i64 0, .int .i64 0, .string ⟨#[]⟩, .slice none 0 0], .iface 77 (.agg #[.int .i64 (lexAll t).2.1, .int .i64 (lexAll t).2.2])]) ∧ Below w.heap.size w w' := by
  have h3 := hg.size
  have b0 : Below w.heap.size w (w.alloc (.cells #[.int .i64 0, .int .i64 0, .int .i64 0, .string ⟨#[]⟩, .slice none 0 0] 46)) := (Below.refl _ _).alloc (Nat.le_refl _) _
  have hL := implLex_any t _ hs (hg.below b0 h3)
  unfold Out at hL
  generalize (lexAll t).1 = ts at *
  generalize (lexAll t).2.1 = cd at *
  generalize (lexAll t).2.2 = ca at *
  have hcd : (cd == 0) = false := by simpa using h0
  have z0 := one_first w (.cells #[.int .i64 0, .int .i64 0, .int .i64 0, .string ⟨#[]⟩, .slice none 0 0] 46)
  go_enter Tryz.func19, Tryz.ntmps19
  go_wp2_with fail
  refine hL.mono ?_
  rintro e w1 ⟨v, rfl, hrow, hb⟩
  obtain ⟨a, c, rfl⟩ := row_slice hrow
  have z1 := at_below hb z0 (by simp)
  have bb := hide (b0.trans (hb.mono b0.size))
  have l1 : w.heap.size < w1.heap.size := (Array.getElem?_eq_some_iff.1 z1).1
  have m0 : w1.cell? ⟨w.heap.size, 0, none⟩ = some (.int .i64 0) := cell_of z1 rfl
  have m1 : w1.cell? ⟨w.heap.size, 1, none⟩ = some (.int .i64 0) := cell_of z1 rfl
  have m2 : w1.cell? ⟨w.heap.size, 2, none⟩ = some (.int .i64 0) := cell_of z1 rfl
  have m3 : w1.cell? ⟨w.heap.size, 3, none⟩ = some (.string ⟨#[]⟩) := cell_of z1 rfl
  have m4 : w1.cell? ⟨w.heap.size, 4, none⟩ = some (.slice none 0 0) := cell_of z1 rfl
  have y0 : w1.frozen? ⟨w.heap.size, 0, none⟩ = false := frozen_of z1
  have y1 : w1.frozen? ⟨w.heap.size, 1, none⟩ = false := frozen_of z1
  have y2 : w1.frozen? ⟨w.heap.size, 2, none⟩ = false := frozen_of z1
  have y3 : w1.frozen? ⟨w.heap.size, 3, none⟩ = false := frozen_of z1
  have y4 : w1.frozen? ⟨w.heap.size, 4, none⟩ = false := frozen_of z1
  have HZ := hide z1
  clear hrow hb hL z0 z1 b0
  go_wp2
  go_region
  all_goals go_wp2
  have k := (((((unhide bb).setCell (p := ⟨w.heap.size, 0, none⟩) (Nat.le_refl _) (.int .i64 0)).setCell (p := ⟨w.heap.size, 1, none⟩) (Nat.le_refl _) (.int .i64 0)).setCell (p := ⟨w.heap.size, 2, none⟩) (Nat.le_refl _) (.int .i64 0)).setCell (p := ⟨w.heap.size, 3, none⟩) (Nat.le_refl _) (.string ⟨#[]⟩)).setCell (p := ⟨w.heap.size, 4, none⟩) (Nat.le_refl _) (.slice none 0 0)
  have k2 := k.alloc k.size (.cells #[.int .i64 cd, .int .i64 ca] 25)
  refine bodyPost_ret (results_cell_tmp rfl _ _ w.heap.size 46 #[.int .i64 0, .int .i64 0, .int .i64 0, .string ⟨#[]⟩, .slice none 0 0] (0, 0) _ rfl (at_drewN (n := 1) (at_alloc (at_same (at_same (at_same (at_same (at_same (unhide HZ)))))))) Tryz.underlying46 rfl (by kernel_rfl)) rfl ?_
  exact ⟨rfl, ⟨k2.os, k2.tape, k2.output, k2.size, k2.block⟩⟩
theorem lexFrom_zero (s : ByteArray) : ∀ (n k : Nat) (acc : List Tok), s.size - k ≤ n → (lexFrom s k acc).2.1 = 0 → (lexFrom s k acc).2 = (0, 0) := by
  intro n
  induction n with
  | zero =>
    intro k acc hn h
    have := le_skip s k
    rw [lexFrom_end s k acc (by omega)]
  | succ n ih =>
    intro k acc hn h
    have hk0 := le_skip s k
    by_cases hlt : skip s k < s.size
    · by_cases hC : tokCode s (skip s k) = 0
      · by_cases hm : 700 ≤ acc.length
        · rw [lexFrom_many s k acc hlt hC hm] at h
          exact absurd (show (5 : Int) = 0 from h) (by decide)
        · rw [lexFrom_go s k acc hlt hC hm] at h ⊢
          have := lt_tokEnd s _ hlt hC
          exact ih _ _ (by omega) h
      · rw [lexFrom_bad s k acc hlt hC] at h
        exact absurd h hC
    · rw [lexFrom_end s k acc hlt]
theorem lexAll_zero (s : ByteArray) (h : (lexAll s).2.1 = 0) : (lexAll s).2 = (0, 0) := by
  unfold lexAll at h ⊢
  split at h
  · exact absurd h (by decide)
  · rename_i hs
    rw [if_neg hs]
    exact lexFrom_zero s _ 0 [] (Nat.le_refl _) h
end Go.Proofs.YtjikjejfobnfnaaGreatDoor.imp
