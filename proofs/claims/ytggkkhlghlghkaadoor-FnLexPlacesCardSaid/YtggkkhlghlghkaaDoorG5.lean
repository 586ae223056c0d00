/-
  The reader behind a token.
-/
import Derived.Test.YtggkkhlghlghkaaDoorG2
import Derived.OwnWalk
namespace Go.Proofs.YtggkkhlghlghkaaDoor.lex
open Go.RowKit Go.Maps Go.Proofs.YtggkkhlghlghkaaDoor.num
set_option linter.unusedVariables false

/-- The code behind the last label. -/
noncomputable def told28 : Code := match tail28 5 with | .seq _ x => x | _ => .skip
theorem tail5 : tail28 5 = .seq .skip told28 := rfl
theorem two_new (w : World) (a b : Value) (t : TypeId) : (w.alloc (.cells #[a, b] t)).cell? ⟨w.heap.size, 0, none⟩ = some a ∧ (w.alloc (.cells #[a, b] t)).cell? ⟨w.heap.size, 1, none⟩ = some b :=
  ⟨cell_of (one_first w _) rfl, cell_of (one_first w _) rfl⟩

set_option maxHeartbeats 4000000 in
set_option maxRecDepth 100000 in
theorem told_bad (s : ByteArray) (R : List Tok × Int × Int) (w0 : World) (hs : s.size ≤ 3000) (a : Act) (wr : World) (k e : Nat) (code : Int) (acc : List Tok) (v : Value) (T : Tok) (M : Nat) (hM : left s.size 5 k e ≤ M)
    (hF : Fr s w0 v code (k : Int) (e : Int) a) (hW : Hid (Wf s w0 acc v wr)) (hT : Hid (Tc w0 T wr)) (hlt : k < s.size) (hR : Hid (lexFrom s k acc = R)) (hS : Hid (skip s k = k)) (hC : Hid (code = tokCode s k)) (h0 : code ≠ 0) :
    told28.wp Tryd.prog (jumps (fun l' a' w' => ∃ m', J28 s R w0 l' m' a' w' ∧ m' < M) (bodyPost Tryd.prog Tryd.f28 (Out R w0))) a wr := by
  obtain ⟨u, rfl⟩ := fr_open hF
  clear hF
  obtain ⟨sa, sc, rfl⟩ := row_slice (unhide hW).row
  have eR : ([], code, (k : Int)) = R := by
    have := lexFrom_bad s k acc (by rw [unhide hS]; exact hlt)
    rw [unhide hS, ← unhide hC] at this
    exact (this h0).symm.trans (unhide hR)
  have g0 : (code != 0) = true := by simpa using h0
  have HO : ∀ (b : Nat) (w : World), w.cell? ⟨b, 0, none⟩ = some (.int .i64 code) → w.cell? ⟨b, 1, none⟩ = some (.int .i64 5) → Calls Tryd.prog 49 #[.slice (some ⟨b, 0, none⟩) 2 2] w fun e w' => e = .returned (.int .i64 code) ∧ w' = w := fun b w h1 h2 => by
    have := or_any b code 5 w h1 h2
    rwa [if_pos h0] at this
  have q0 := (unhide hW).fault
  have c0 : ∀ o, (wr.alloc o).cell? ⟨w0.heap.size, 0, none⟩ = some (.int .i64 0) := fun o => cell_of (at_alloc q0) rfl
  have c1 : ∀ o, (wr.alloc o).cell? ⟨w0.heap.size, 1, none⟩ = some (.int .i64 0) := fun o => cell_of (at_alloc q0) rfl
  have f0 : ∀ o, (wr.alloc o).frozen? ⟨w0.heap.size, 0, none⟩ = false := fun o => frozen_of (at_alloc q0)
  have f1 : ∀ o, (wr.alloc o).frozen? ⟨w0.heap.size, 1, none⟩ = false := fun o => frozen_of (at_alloc q0)
  have HQ := hide q0
  clear q0
  conv => arg 2; whnf
  go_wp2_with (go_at_call 49; refine (HO _ _ (two_new _ _ _ _).1 (two_new _ _ _ _).2).mono ?_; rintro e1 w1 ⟨rfl, rfl⟩)
  show bodyPost Tryd.prog Tryd.f28 (Out R w0) Exit.ret _ _
  refine bodyPost_ret (results_tmp_cell rfl _ _ w0.heap.size 26 _ (0, 0) _ rfl (at_same (at_same (at_alloc (unhide HQ)))) Tryd.underlying26 rfl (by kernel_rfl)) rfl ?_
  subst eR
  have hsz := (unhide hW).size
  exact ⟨_, rfl, ⟨rfl, .inl ⟨rfl, rfl⟩⟩, (((unhide hW).below.alloc (by omega) _).setCell (Nat.le_refl _) _).setCell (Nat.le_refl _) _⟩

set_option maxHeartbeats 4000000 in
set_option maxRecDepth 100000 in
theorem told_many (s : ByteArray) (R : List Tok × Int × Int) (w0 : World) (hs : s.size ≤ 3000) (a : Act) (wr : World) (k e : Nat) (code : Int) (acc : List Tok) (v : Value) (T : Tok) (M : Nat) (hM : left s.size 5 k e ≤ M)
    (hF : Fr s w0 v code (k : Int) (e : Int) a) (hW : Hid (Wf s w0 acc v wr)) (hT : Hid (Tc w0 T wr)) (hlt : k < s.size) (hR : Hid (lexFrom s k acc = R)) (hS : Hid (skip s k = k)) (hC : Hid ((0 : Int) = tokCode s k)) (hn : acc.length = 700) (h0 : code = 0) :
    told28.wp Tryd.prog (jumps (fun l' a' w' => ∃ m', J28 s R w0 l' m' a' w' ∧ m' < M) (bodyPost Tryd.prog Tryd.f28 (Out R w0))) a wr := by
  obtain ⟨u, rfl⟩ := fr_open hF
  clear hF
  obtain ⟨sa, sc, rfl⟩ := row_slice (unhide hW).row
  have eR : ([], (5 : Int), (k : Int)) = R := by
    have := lexFrom_many s k acc (by rw [unhide hS]; exact hlt)
    rw [unhide hS, ← unhide hC] at this
    exact (this rfl (by omega)).symm.trans (unhide hR)
  subst h0
  have g0 : ((acc.length : Int) == 700) = true := by simp; omega
  have HO : ∀ (b : Nat) (w : World), w.cell? ⟨b, 0, none⟩ = some (.int .i64 0) → w.cell? ⟨b, 1, none⟩ = some (.int .i64 5) → Calls Tryd.prog 49 #[.slice (some ⟨b, 0, none⟩) 2 2] w fun e w' => e = .returned (.int .i64 5) ∧ w' = w := fun b w h1 h2 => by
    have := or_any b 0 5 w h1 h2
    rwa [if_neg (by omega)] at this
  have q0 := (unhide hW).fault
  have c0 : ∀ o, (wr.alloc o).cell? ⟨w0.heap.size, 0, none⟩ = some (.int .i64 0) := fun o => cell_of (at_alloc q0) rfl
  have c1 : ∀ o, (wr.alloc o).cell? ⟨w0.heap.size, 1, none⟩ = some (.int .i64 0) := fun o => cell_of (at_alloc q0) rfl
  have f0 : ∀ o, (wr.alloc o).frozen? ⟨w0.heap.size, 0, none⟩ = false := fun o => frozen_of (at_alloc q0)
  have f1 : ∀ o, (wr.alloc o).frozen? ⟨w0.heap.size, 1, none⟩ = false := fun o => frozen_of (at_alloc q0)
  have HQ := hide q0
  clear q0
  conv => arg 2; whnf
  go_wp2_with (go_at_call 49; refine (HO _ _ (two_new _ _ _ _).1 (two_new _ _ _ _).2).mono ?_; rintro e1 w1 ⟨rfl, rfl⟩)
  show bodyPost Tryd.prog Tryd.f28 (Out R w0) Exit.ret _ _
  refine bodyPost_ret (results_tmp_cell rfl _ _ w0.heap.size 26 _ (0, 0) _ rfl (at_same (at_same (at_alloc (unhide HQ)))) Tryd.underlying26 rfl (by kernel_rfl)) rfl ?_
  subst eR
  have hsz := (unhide hW).size
  exact ⟨_, rfl, ⟨rfl, .inl ⟨rfl, rfl⟩⟩, (((unhide hW).below.alloc (by omega) _).setCell (Nat.le_refl _) _).setCell (Nat.le_refl _) _⟩

set_option maxHeartbeats 4000000 in
set_option maxRecDepth 100000 in
theorem told_go (s : ByteArray) (R : List Tok × Int × Int) (w0 : World) (hs : s.size ≤ 3000) (a : Act) (wr : World) (k e : Nat) (code : Int) (acc : List Tok) (v : Value) (T : Tok) (M : Nat) (hM : left s.size 5 k e ≤ M)
    (hF : Fr s w0 v code (k : Int) (e : Int) a) (hW : Hid (Wf s w0 acc v wr)) (hT : Hid (Tc w0 T wr)) (hlt : k < s.size) (hR : Hid (lexFrom s k acc = R)) (hS : Hid (skip s k = k)) (hC : Hid ((0 : Int) = tokCode s k)) (hn : acc.length < 700) (h0 : code = 0) (hE : Hid (e = tokEnd s k)) (hTT : Hid (Tc w0 { tokAt s k with pos := 0 } wr)) :
    told28.wp Tryd.prog (jumps (fun l' a' w' => ∃ m', J28 s R w0 l' m' a' w' ∧ m' < M) (bodyPost Tryd.prog Tryd.f28 (Out R w0))) a wr := by
  obtain ⟨u, rfl⟩ := fr_open hF
  clear hF
  obtain ⟨sa, sc, rfl⟩ := row_slice (unhide hW).row
  subst h0
  obtain ⟨i0, hi, hz0, hz1, hz2⟩ := info_parts info32
  have eR : lexFrom s e (acc ++ [tokAt s k]) = R := by
    have := lexFrom_go s k acc (by rw [unhide hS]; exact hlt)
    rw [unhide hS, ← unhide hC, ← unhide hE] at this
    exact (this rfl (by omega)).symm.trans (unhide hR)
  have t1 := tokEnd_le s k hlt
  have t2 := lt_tokEnd s k hlt (unhide hC).symm
  rw [← unhide hE] at t1 t2
  have epos : (tokAt s k).pos = k := by unfold tokAt; split; rfl; split; rfl; rfl
  have hTc := unhide hTT
  clear hTT hC hR hE hT
  generalize tokAt s k = X at *
  obtain ⟨tk, tp, tx, tn⟩ := X
  simp only at epos
  subst epos
  have HR := hide eR
  clear eR
  have HT := hide hTc
  have hn1 : ((acc.length : Int) == 700) = false := by simp; omega
  obtain ⟨c0, c1, c2, c3, g0, g1, g2, g3⟩ := f4 hTc
  clear hTc
  have hsz := (unhide hW).size
  have hW1 := hide ((unhide hW).set 1 (.int .i64 (k : Int)))
  conv => arg 2; whnf
  go_wp2_with (at_builtin; refine wpList_append_own _ rfl _ _ 24 rfl (w0.heap.size + 3) 32 i0 (.agg #[.int .i64 0, .int .i64 0, .string ⟨#[]⟩, .int .i64 0]) 4 40 Tryd.underlying24 hi hz0 hz1 hz2 rfl (by decide) _ _ _ rfl ((unhide hW1).row.alloc _) ⟨wr.heap.size, 0, none⟩ 1 1 [.int .i64 tk, .int .i64 k, .string tx, .int .i64 tn] rfl rfl (by have := four_new (wr.setCell ⟨w0.heap.size + 1, 1, none⟩ (.int .i64 k)) (.int .i64 tk) (.int .i64 k) (.string tx) (.int .i64 tn) 32; simpa using this) (four_one _ _ _ _) (by unfold maxLen; omega) (by omega) (by simp; omega) ?_; intro v' w2 hown' hgrow hnil)
  obtain ⟨na, nc, rfl⟩ := row_slice hown'
  have hob : ∀ g, (Value.slice sa acc.length sc).ownBlock = some g → w0.heap.size + 3 ≤ g := row_block (unhide hW).row
  have hg2 := hgrow.size
  simp at hg2
  apply wp_goto
  show ∃ m', J28 s R w0 0 m' _ _ ∧ m' < M
  refine ⟨_, ⟨e, e, 0, acc ++ [⟨tk, k, tx, tn⟩], .slice na (acc.length + 1) nc, ⟨tk, k, tx, tn⟩, ⟨rfl, rfl, rfl, rfl, rfl, rfl, rfl, rfl, rfl, rfl, rfl⟩, ?_, ?_, rfl, by omega, unhide HR⟩, ?_⟩
  · have W1 := unhide hW1
    refine ⟨at_grown hgrow (at_alloc W1.fault) (fun g hg => by have := hob g hg; omega), ?_, ?_, ?_, by omega, by simp; omega, ?_⟩
    · obtain ⟨es, clock, hh, r⟩ := W1.words
      exact ⟨es, clock, at_grown hgrow (at_alloc hh) (fun g hg => by have := hob g hg; omega), r⟩
    · have : rowOf (acc ++ [⟨tk, k, tx, tn⟩]) = rowOf acc ++ [.int .i64 tk, .int .i64 k, .string tx, .int .i64 tn] := rowOf_snoc _ _
      rw [this, List.length_append]
      exact hown'
    · exact (W1.below.alloc (by have := W1.size; omega) _).grown hgrow (by have := W1.size; simp; omega) (fun g hg => by have := hob g hg; omega)
    · obtain ⟨tt, fr, hh⟩ := W1.sg
      exact ⟨tt, fr, at_grown hgrow (at_alloc hh) (fun g hg => by have := hob g hg; omega)⟩
  · exact at_grown hgrow (at_alloc (at_same (unhide HT))) (fun g hg => by have := hob g hg; omega)
  · have := left_next s.size k e (by omega) (by omega)
    refine Nat.lt_of_lt_of_le ?_ hM
    simp only [left]
    omega

end Go.Proofs.YtggkkhlghlghkaaDoor.lex
