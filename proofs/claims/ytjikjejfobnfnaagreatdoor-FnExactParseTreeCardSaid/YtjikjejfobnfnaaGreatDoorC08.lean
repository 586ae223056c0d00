/-
  The model's tokens of a text: what is returned, and that it owns its memory.
-/
import Derived.Test.YtjikjejfobnfnaaGreatDoorC07
import Derived.OwnWalk
namespace Go.Proofs.YtjikjejfobnfnaaGreatDoor.lex
open Go.RowKit Go.Proofs.YtjikjejfobnfnaaGreatDoor.num
set_option linter.unusedVariables false
theorem row_below {w w' : World} {base : Nat} {e : TypeId} {size : Nat} {v : Value} {n : Nat} {xs : List Value} (h : w.ownsRow base e size v n xs) (hb : Below w.heap.size w w') : w'.ownsRow base e size v n xs := by
  obtain ⟨h1, h2⟩ := h
  refine ⟨h1, ?_⟩
  rcases h2 with h2 | ⟨g, cap, cur, hv, hg, hh, r⟩
  · exact .inl h2
  · exact .inr ⟨g, cap, cur, hv, hg, (hb.block g (Array.getElem?_eq_some_iff.1 hh).1).trans hh, r⟩
theorem row_block {w : World} {base : Nat} {e : TypeId} {size : Nat} {v : Value} {n : Nat} {xs : List Value} (h : w.ownsRow base e size v n xs) (g : Nat) (hg : v.ownBlock = some g) : base ≤ g := by
  rcases h.2 with ⟨rfl, _⟩ | ⟨g', cap, cur, rfl, hb, _⟩
  · cases hg
  · cases hg
    exact hb
theorem row_slice {w : World} {base : Nat} {e : TypeId} {size : Nat} {v : Value} {n : Nat} {xs : List Value} (h : w.ownsRow base e size v n xs) : ∃ a c, v = .slice a n c := by
  rcases h.2 with ⟨rfl, rfl⟩ | ⟨g', cap, cur, rfl, hb, _⟩
  · exact ⟨_, _, rfl⟩
  · exact ⟨_, _, rfl⟩
theorem row_mono {w : World} {base base' : Nat} {e : TypeId} {size : Nat} {v : Value} {n : Nat} {xs : List Value} (h : w.ownsRow base e size v n xs) (hb : base' ≤ base) : w.ownsRow base' e size v n xs := by
  refine ⟨h.1, ?_⟩
  rcases h.2 with h2 | ⟨g, cap, cur, hv, hg, r⟩
  · exact .inl h2
  · exact .inr ⟨g, cap, cur, hv, Nat.le_trans hb hg, r⟩
theorem row_set {w : World} {base : Nat} {e : TypeId} {size : Nat} {v : Value} {n : Nat} {xs : List Value} (h : w.ownsRow base e size v n xs) {p : Addr} (hp : p.block < base) (u : Value) : (w.setCell p u).ownsRow base e size v n xs := by
  refine ⟨h.1, ?_⟩
  rcases h.2 with h2 | ⟨g, cap, cur, hv, hg, hh, r⟩
  · exact .inl h2
  · exact .inr ⟨g, cap, cur, hv, hg, (Below.heap_setCell w p u g (by omega)).trans hh, r⟩
theorem row_empty {w : World} {base g : Nat} {e : TypeId} {size : Nat} (h : w.heap[g]? = some (.cells #[] e)) (hb : base ≤ g) : w.ownsRow base e size (.slice (some ⟨g, 0, none⟩) 0 0) 0 [] :=
  ⟨by simp, .inr ⟨g, 0, #[], rfl, hb, h, Nat.le_refl _, by decide, by simp, by simp⟩⟩
theorem at_grown {w w' : World} {r : Option Nat} {b : Nat} {o : Obj} (hg : w.grownBy w' r) (h : w.heap[b]? = some o) (hr : ∀ g, r = some g → b < g) : w'.heap[b]? = some o :=
  (hg.block b (Array.getElem?_eq_some_iff.1 h).1 (fun e => by have := hr b e.symm; omega)).trans h
theorem at_alloc {w : World} {b : Nat} {o a : Obj} (h : w.heap[b]? = some o) : (w.alloc a).heap[b]? = some o :=
  (Below.heap_alloc w a b (Array.getElem?_eq_some_iff.1 h).1).trans h
theorem at_below {w w' : World} {B b : Nat} {o : Obj} (hb : Below B w w') (h : w.heap[b]? = some o) (hB : b < B) : w'.heap[b]? = some o := (hb.block b hB).trans h
theorem cell_of {w : World} {b i : Nat} {cs : Array Value} {t : TypeId} {fr : Nat × Nat} {v : Value} (h : w.heap[b]? = some (.cells cs t fr)) (hi : cs[i]? = some v) : w.cell? ⟨b, i, none⟩ = some v := by simp [World.cell?, h, hi]
theorem frozen_of {w : World} {b i : Nat} {cs : Array Value} {t : TypeId} (h : w.heap[b]? = some (.cells cs t)) : w.frozen? ⟨b, i, none⟩ = false := by simp [World.frozen?, h]
theorem four_new (w : World) (a b c d : Value) (t : TypeId) : ∀ j u, [a, b, c, d][j]? = some u → (w.alloc (.cells #[a, b, c, d] t)).cell? ((⟨w.heap.size, 0, none⟩ : Addr).add j) = some u := by
  intro j u h
  match j, h with
  | 0, h => simpa [Addr.add] using h
  | 1, h => simpa [Addr.add] using h
  | 2, h => simpa [Addr.add] using h
  | 3, h => simpa [Addr.add] using h
theorem infoTok : (Tryz.prog.info? 93).map (fun i => (i.zero, i.size, i.bytes)) = some (some (.agg #[.int .i64 0, .int .i64 0, .string ⟨#[]⟩, .int .i64 0]), 4, 40) := by kernel_rfl
theorem four_one (a b d : Int) (c : ByteArray) : ∀ u ∈ [Value.int .i64 a, .int .i64 b, .string c, .int .i64 d], u.oneCell' = true := by
  intro u hu
  simp only [List.mem_cons, List.not_mem_nil, or_false] at hu
  rcases hu with rfl | rfl | rfl | rfl <;> rfl

set_option maxHeartbeats 2000000 in
set_option maxRecDepth 100000 in
theorem specLex_long (s : ByteArray) (w : World) (h : 3000 < s.size) (hs : s.size ≤ 1048576) : Calls Tryz.prog 26 #[.string s] w fun e w' => ∃ v, e = .returned (.tuple #[v, .agg #[.int .i64 1, .int .i64 0]]) ∧ w'.ownsRow w.heap.size 93 4 v 0 [] ∧ Below w.heap.size w w' := by
  have h' : 3000 < (s.size : Int) := by omega
  go_enter Tryz.func26, Tryz.ntmps26
  go_wp2
  (try simp only [Exit.inBlock, Exit.then])
  refine bodyPost_ret (results_tmp_cell rfl _ _ w.heap.size 25 _ (0, 0) _ rfl (two_first _ _ _) Tryz.underlying25 rfl (by kernel_rfl)) rfl ?_
  exact ⟨_, rfl, ⟨rfl, .inr ⟨w.heap.size + 1, 0, #[], rfl, by omega, (by have := one_first (w.alloc (.cells #[.int .i64 1, .int .i64 0] 25)) (.cells #[] 93); simpa using this), Nat.le_refl _, by decide, rfl, rfl⟩⟩, below_two _ _ _⟩

set_option maxHeartbeats 2000000 in
set_option maxRecDepth 100000 in
theorem specLex_short (s : ByteArray) (w : World) (hs : s.size ≤ 3000) : Calls Tryz.prog 26 #[.string s] w fun e w' => ∃ v, e = .returned (.tuple #[v, .agg #[.int .i64 (lexFrom s 0 []).2.1, .int .i64 (lexFrom s 0 []).2.2]]) ∧ w'.ownsRow w.heap.size 93 4 v (lexFrom s 0 []).1.length (rowOf (lexFrom s 0 []).1) ∧ Below w.heap.size w w' := by
  have h' : ¬ 3000 < (s.size : Int) := by omega
  have hsk := fun k hk w => skip_any s k w (by omega) hk
  have hone := fun k hk w => one_any s k w (by omega) hk
  obtain ⟨i0, hi, hz0, hz1, hz2⟩ := info_parts infoTok
  generalize hR : lexFrom s 0 [] = R
  go_enter Tryz.func26, Tryz.ntmps26
  go_wp2_with (go_at_call 44; refine (hsk 0 (by omega) _).mono ?_; rintro e w' ⟨rfl, rfl⟩)
  go_loopw [5, 6] (fun v i wr => ∃ (k : Nat) (acc : List Tok) (sa : Option Addr) (sc : Nat), v = .slice sa acc.length sc ∧ k ≤ s.size ∧ i = .int .i64 (skip s k : Nat) ∧ Hid (lexFrom s k acc = R) ∧ acc.length ≤ 700 ∧ wr.ownsRow (w.heap.size + 2) 93 4 v acc.length (rowOf acc) ∧
      wr.heap[w.heap.size]? = some (.cells #[.int .i64 0, .int .i64 0] 25) ∧ wr.heap[w.heap.size + 1]? = some (.cells #[] 93) ∧ Below w.heap.size w wr ∧ w.heap.size + 2 ≤ wr.heap.size)
    (fun _ i _ => s.size - (intOf i).toNat)
  case atStart =>
    refine ⟨0, [], _, _, rfl, by omega, rfl, hide hR, by simp, ⟨rfl, .inr ⟨w.heap.size + 2, 0, #[], rfl, Nat.le_refl _, ?_, Nat.le_refl _, by decide, rfl, rfl⟩⟩, three_first _ _ _ _, ?_, (below_two _ _ _).alloc (by simp; omega) _, by simp⟩
    · have := one_first ((w.alloc (.cells #[.int .i64 0, .int .i64 0] 25)).alloc (.cells #[] 93)) (.cells #[] 93)
      simpa using this
    · have := two_first (w.alloc (.cells #[.int .i64 0, .int .i64 0] 25)) (.cells #[] 93) (.cells #[] 93)
      simpa using this
  case round =>
    obtain ⟨k, acc, sa, sc, rfl, hk, rfl, HL, hacc, hrow, hB0, hB1, hbel, hsz⟩ := hrel
    have s1 := le_skip s k
    have s2 := skip_le s k hk
    by_cases hlt : skip s k < s.size
    · have h1 := hone (skip s k) hlt
      have e1 := lexFrom_bad s k acc hlt
      have e2 := lexFrom_many s k acc hlt
      have e3 := lexFrom_go s k acc hlt
      have t1 := tokEnd_le s _ hlt
      have t2 := lt_tokEnd s _ hlt
      generalize hn : skip s k = n at *
      have hsk1 := hsk (tokEnd s n) t1
      have sk1 := le_skip s (tokEnd s n)
      have sk2 := skip_le s (tokEnd s n) t1
      generalize hT : tokAt s n = T at *
      generalize hE : tokEnd s n = E at *
      generalize hC : tokCode s n = C at *
      obtain ⟨tk, tp, tx, tn⟩ := T
      simp only [Tok.val] at h1
      clear hT hE hC hone hsk hn
      have HROW := hide hrow
      have HB0 := hide hB0
      have HB1 := hide hB1
      have HBEL := hide hbel
      clear hrow hB0 hB1 hbel
      by_cases hC0 : C ≠ 0
      · have hC1 : (C != 0) = true := by simpa using hC0
        have eR : ([], C, (n : Int)) = R := (e1 hC0).symm.trans (unhide HL)
        clear e1 e2 e3 t2
        go_wp2_with (go_at_call 45; refine (h1 _).mono ?_; rintro e w1 ⟨rfl, hb⟩; have q0 := at_below hb (unhide HB0) (by omega); have c0 : ∀ o, (w1.alloc o).cell? ⟨w.heap.size, 0, none⟩ = some (.int .i64 0) := fun o => cell_of (at_alloc q0) rfl; have c1 : ∀ o, (w1.alloc o).cell? ⟨w.heap.size, 1, none⟩ = some (.int .i64 0) := fun o => cell_of (at_alloc q0) rfl; have f0 : ∀ o, (w1.alloc o).frozen? ⟨w.heap.size, 0, none⟩ = false := fun o => frozen_of (at_alloc q0); have f1 : ∀ o, (w1.alloc o).frozen? ⟨w.heap.size, 1, none⟩ = false := fun o => frozen_of (at_alloc q0); clear q0)
        (try simp only [Exit.inBlock, Exit.then])
        refine bodyPost_ret (results_tmp_cell rfl _ _ w.heap.size 25 _ (0, 0) _ rfl (at_same (at_same (at_alloc (at_below hb (unhide HB0) (by omega))))) Tryz.underlying25 rfl (by kernel_rfl)) rfl ?_
        subst eR
        refine ⟨_, rfl, row_empty (at_other (at_other (at_alloc (at_below hb (unhide HB1) (by omega))) (by omega)) (by omega)) (by omega), ?_⟩
        have b1 := (unhide HBEL).trans (hb.mono (by omega))
        exact ((b1.alloc b1.size _).setCell (Nat.le_refl _) _).setCell (Nat.le_refl _) _
      · have hC1 : (C != 0) = false := by simpa using hC0
        obtain rfl : C = 0 := by omega
        by_cases hm : 700 ≤ acc.length
        · have hm' : 700 ≤ (acc.length : Int) := by omega
          have eR : ([], (5 : Int), (n : Int)) = R := (e2 rfl hm).symm.trans (unhide HL)
          clear e1 e2 e3 t2
          go_wp2_with (go_at_call 45; refine (h1 _).mono ?_; rintro e w1 ⟨rfl, hb⟩; have q0 := at_below hb (unhide HB0) (by omega); have c0 : ∀ o, (w1.alloc o).cell? ⟨w.heap.size, 0, none⟩ = some (.int .i64 0) := fun o => cell_of (at_alloc q0) rfl; have c1 : ∀ o, (w1.alloc o).cell? ⟨w.heap.size, 1, none⟩ = some (.int .i64 0) := fun o => cell_of (at_alloc q0) rfl; have f0 : ∀ o, (w1.alloc o).frozen? ⟨w.heap.size, 0, none⟩ = false := fun o => frozen_of (at_alloc q0); have f1 : ∀ o, (w1.alloc o).frozen? ⟨w.heap.size, 1, none⟩ = false := fun o => frozen_of (at_alloc q0); clear q0)
          (try simp only [Exit.inBlock, Exit.then])
          refine bodyPost_ret (results_tmp_cell rfl _ _ w.heap.size 25 _ (0, 0) _ rfl (at_same (at_same (at_alloc (at_below hb (unhide HB0) (by omega))))) Tryz.underlying25 rfl (by kernel_rfl)) rfl ?_
          subst eR
          refine ⟨_, rfl, row_empty (at_other (at_other (at_alloc (at_below hb (unhide HB1) (by omega))) (by omega)) (by omega)) (by omega), ?_⟩
          have b1 := (unhide HBEL).trans (hb.mono (by omega))
          exact ((b1.alloc b1.size _).setCell (Nat.le_refl _) _).setCell (Nat.le_refl _) _
        · have hm' : ¬ 700 ≤ (acc.length : Int) := by omega
          have eR := (e3 rfl hm).symm.trans (unhide HL)
          have t3 := t2 rfl
          clear e1 e2 e3 t2 HL
          have HL := hide eR
          clear eR
          go_wp2_with (first | (go_at_call 45; refine (h1 _).mono ?_; rintro e w1 ⟨rfl, hb⟩) | (go_at_call 44; refine (hsk1 _).mono ?_; rintro e w' ⟨rfl, rfl⟩) | (at_builtin; refine wpList_append_own _ rfl _ _ 62 rfl (w.heap.size + 2) 93 i0 (.agg #[.int .i64 0, .int .i64 0, .string ⟨#[]⟩, .int .i64 0]) 4 40 Tryz.underlying62 hi hz0 hz1 hz2 rfl (by decide) _ _ _ rfl (((row_below (unhide HROW) hb).alloc _).alloc _) ⟨w1.heap.size + 1, 0, none⟩ 1 1 [.int .i64 tk, .int .i64 tp, .string tx, .int .i64 tn] rfl rfl (by have := four_new (w1.alloc (.cells #[.int .i64 tk, .int .i64 tp, .string tx, .int .i64 tn] 93)) (.int .i64 tk) (.int .i64 tp) (.string tx) (.int .i64 tn) 93; simpa using this) (four_one _ _ _ _) (by unfold maxLen; omega) (by omega) (by have := hb.size; simp; omega) ?_; intro v' w2 hown' hgrow hnil))
          have b1 := (unhide HBEL).trans (hb.mono (by omega))
          have hg2 := hgrow.size
          have hs1 := hb.size
          simp at hg2
          obtain ⟨na, nc, rfl⟩ := row_slice hown'
          have hob : ∀ g, (Value.slice sa acc.length sc).ownBlock = some g → w.heap.size + 2 ≤ g := row_block (unhide HROW)
          go_roundw
          case rel =>
            refine ⟨E, acc ++ [⟨tk, tp, tx, tn⟩], na, nc, by simp, by omega, rfl, HL, by simp; omega, ?_, ?_, ?_, ?_, by omega⟩
            · rw [rowOf_snoc, List.length_append]
              exact hown'
            · exact at_grown hgrow (at_alloc (at_alloc (at_below hb (unhide HB0) (by omega)))) (fun g hg => by have := hob g hg; omega)
            · exact at_grown hgrow (at_alloc (at_alloc (at_below hb (unhide HB1) (by omega)))) (fun g hg => by have := hob g hg; omega)
            · exact ((b1.alloc b1.size _).alloc (by have := b1.size; simp; omega) _).grown hgrow (by have := b1.size; simp; omega) (fun g hg => by have := hob g hg; omega)
          case measure => simp [intOf]; omega
    · have eR := (lexFrom_end s k acc hlt).symm.trans (unhide HL)
      have HROW := hide hrow
      have HB0 := hide hB0
      have HBEL := hide hbel
      have c0 : wr.cell? ⟨w.heap.size, 0, none⟩ = some (.int .i64 0) := cell_of hB0 rfl
      have c1 : wr.cell? ⟨w.heap.size, 1, none⟩ = some (.int .i64 0) := cell_of hB0 rfl
      have f0 : wr.frozen? ⟨w.heap.size, 0, none⟩ = false := frozen_of hB0
      have f1 : wr.frozen? ⟨w.heap.size, 1, none⟩ = false := frozen_of hB0
      clear hrow hB0 hB1 hbel
      go_wp2
      (try simp only [Exit.inBlock, Exit.then])
      refine bodyPost_ret (results_tmp_cell rfl _ _ w.heap.size 25 _ (0, 0) _ rfl (at_same (at_same (unhide HB0))) Tryz.underlying25 rfl (by kernel_rfl)) rfl ?_
      subst eR
      have hr := unhide HROW
      exact ⟨_, rfl, row_mono (row_set (row_set hr (by simp) _) (by simp) _) (by omega), ((unhide HBEL).setCell (Nat.le_refl _) _).setCell (Nat.le_refl _) _⟩

/-- The model's tokens of a text. -/
theorem specLex_any (s : ByteArray) (w : World) (hs : s.size ≤ 1048576) : Calls Tryz.prog 26 #[.string s] w fun e w' => ∃ v, e = .returned (.tuple #[v, .agg #[.int .i64 (lexAll s).2.1, .int .i64 (lexAll s).2.2]]) ∧ w'.ownsRow w.heap.size 93 4 v (lexAll s).1.length (rowOf (lexAll s).1) ∧ Below w.heap.size w w' := by
  by_cases h : 3000 < s.size
  · have e : lexAll s = ([], 1, 0) := by rw [lexAll, if_pos h]
    rw [e]
    exact specLex_long s w h hs
  · have e : lexAll s = lexFrom s 0 [] := by rw [lexAll, if_neg h]
    rw [e]
    exact specLex_short s w (by omega)
end Go.Proofs.YtjikjejfobnfnaaGreatDoor.lex
