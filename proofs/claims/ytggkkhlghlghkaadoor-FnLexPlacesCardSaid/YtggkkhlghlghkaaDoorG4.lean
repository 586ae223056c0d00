/-
  The reader at a sign; and the reader as a whole.
-/
import Derived.Test.YtggkkhlghlghkaaDoorG5
namespace Go.Proofs.YtggkkhlghlghkaaDoor.lex
open Go.RowKit Go.Maps Go.Proofs.YtggkkhlghlghkaaDoor.num
set_option linter.unusedVariables false

theorem told_any (s : ByteArray) (R : List Tok × Int × Int) (w0 : World) (hs : s.size ≤ 3000) (a : Act) (wr : World) (k e : Nat) (code : Int) (acc : List Tok) (v : Value) (T : Tok) (M : Nat) (hM : left s.size 5 k e ≤ M)
    (hF : Fr s w0 v code (k : Int) (e : Int) a) (hW : Wf s w0 acc v wr) (hT : Tc w0 T wr) (hlt : k < s.size) (hR : lexFrom s k acc = R) (hS : skip s k = k) (hC : code = tokCode s k) (h5 : code = 0 → e = tokEnd s k ∧ Tc w0 { tokAt s k with pos := 0 } wr) :
    told28.wp Tryd.prog (jumps (fun l' a' w' => ∃ m', J28 s R w0 l' m' a' w' ∧ m' < M) (bodyPost Tryd.prog Tryd.f28 (Out R w0))) a wr := by
  by_cases h0 : code = 0
  · obtain ⟨h6, h7⟩ := h5 h0
    by_cases hn : acc.length < 700
    · exact told_go s R w0 hs a wr k e code acc v T M hM hF (hide hW) (hide hT) hlt (hide hR) (hide hS) (hide (h0 ▸ hC)) hn h0 (hide h6) (hide h7)
    · exact told_many s R w0 hs a wr k e code acc v T M hM hF (hide hW) (hide hT) hlt (hide hR) (hide hS) (hide (h0 ▸ hC)) (by have := hW.few; omega) h0
  · exact told_bad s R w0 hs a wr k e code acc v T M hM hF (hide hW) (hide hT) hlt (hide hR) (hide hS) (hide hC) h0

set_option maxHeartbeats 4000000 in
set_option maxRecDepth 100000 in
theorem pass4 (s : ByteArray) (R : List Tok × Int × Int) (w0 : World) (hs : s.size ≤ 3000) (a : Act) (wr : World) (k e : Nat) (code : Int) (acc : List Tok) (v : Value) (T : Tok)
    (hF : Fr s w0 v code (k : Int) (e : Int) a) (hW : Hid (Wf s w0 acc v wr)) (hT : Hid (Tc w0 T wr)) (hlt : k < s.size) (hR : Hid (lexFrom s k acc = R)) (hS : Hid (skip s k = k)) (hl : Hid (isLet (gb s k) = false)) (hd : Hid (isDig (gb s k) = false)) :
    (tail28 4).wp Tryd.prog (jumps (fun l' a' w' => ∃ m', J28 s R w0 l' m' a' w' ∧ m' < left s.size 4 k e) (bodyPost Tryd.prog Tryd.f28 (Out R w0))) a wr := by
  obtain ⟨u, rfl⟩ := fr_open hF
  clear hF
  have HS := fun w hg => implSign_any s k w (by omega) hg
  have HT := fun w => signToken_any (signAt s k) w
  have eT : tokAt s k = sgnTok s k := by rw [tokAt, if_neg (by rw [unhide hl]; exact Bool.false_ne_true), if_neg (by rw [unhide hd]; exact Bool.false_ne_true)]
  have eE : tokEnd s k = k + (signAt s k).size := by rw [tokEnd, if_neg (by rw [unhide hl]; exact Bool.false_ne_true), if_neg (by rw [unhide hd]; exact Bool.false_ne_true)]
  have eC : tokCode s k = if (signAt s k).size = 0 then 2 else 0 := by rw [tokCode, if_neg (by rw [unhide hl]; exact Bool.false_ne_true), if_neg (by rw [unhide hd]; exact Bool.false_ne_true)]
  have hsz := signAt_size s k hlt
  rw [sgnTok] at eT
  have HTT := hide eT
  have HEE := hide eE
  have HCC := hide eC
  clear eT eE eC
  generalize signAt s k = g at *
  generalize hX : (if g.size = 0 then (2 : Int) else 0) = X at *
  generalize hY : (if g.size = 0 then (0 : Int) else 4) = Y at *
  have HX := hide hX
  have HY := hide hY
  clear hX hY
  conv => arg 2; whnf
  go_wp2_with (first | (go_at_call 14; refine (HS _ (unhide hW).sg).mono ?_; rintro e' w' ⟨rfl, rfl⟩) | (go_at_call 48; refine (HT _).mono ?_; rintro e1 w1 ⟨rfl, hb⟩; have q4 := (unhide hT).later hb; obtain ⟨c0, c1, c2, c3, g0, g1, g2, g3⟩ := f4 q4; have Q4 := hide q4; clear q4; have W4 := hide ((unhide hW).later hb)))
  rename_i K hK
  apply wp_label
  refine hK _ _ ?_
  refine told_any s R w0 hs _ _ k (k + g.size) X acc v ⟨Y, 0, g, 0⟩ (left s.size 4 k e) ?_ ⟨rfl, rfl, rfl, rfl, rfl, rfl, rfl, rfl, rfl, rfl, rfl⟩ ((unhide W4).set4 _ _ _ _) ((unhide Q4).set4 _ _ _ _) hlt (unhide hR) (unhide hS) (by rw [unhide HCC]) ?_
  · simp only [left]
    omega
  · intro h
    have hg : ¬ g.size = 0 := by
      intro hg
      have := unhide HX
      rw [if_pos hg] at this
      omega
    have hY := unhide HY
    rw [if_neg hg] at hY
    refine ⟨by rw [unhide HEE], ?_⟩
    rw [unhide HTT, hY]
    exact (unhide Q4).set4 _ _ _ _

theorem head_any (s : ByteArray) (R : List Tok × Int × Int) (w0 : World) (hs : s.size ≤ 3000) (a : Act) (wr : World) (k e : Nat) (code : Int) (acc : List Tok) (v : Value) (T : Tok) (hF : Fr s w0 v code (k : Int) (e : Int) a) (hW : Wf s w0 acc v wr) (hT : Tc w0 T wr) (hS : k ≤ s.size ∧ lexFrom s k acc = R) :
    head28.wp Tryd.prog (jumps (fun l' a' w' => ∃ m', J28 s R w0 l' m' a' w' ∧ m' < left s.size 0 k e) (bodyPost Tryd.prog Tryd.f28 (Out R w0))) a wr := by
  obtain ⟨hk, hR⟩ := hS
  by_cases hlt : k < s.size
  · by_cases h1 : gb s k = 32 ∨ gb s k = 10
    · exact pass0_blank s R w0 hs a wr k e code acc v T hF (hide hW) (hide hT) (hide hR) hlt h1
    · by_cases h2 : gb s k = 35
      · exact pass0_hash s R w0 hs a wr k e code acc v T hF (hide hW) (hide hT) (hide hR) hlt h2
      · cases hl : isLet (gb s k) with
        | true => exact pass0_name s R w0 hs a wr k e code acc v T hF (hide hW) (hide hT) (hide hR) hlt h1 h2 hl
        | false =>
          cases hd : isDig (gb s k) with
          | true => exact pass0_num s R w0 hs a wr k e code acc v T hF (hide hW) (hide hT) (hide hR) hlt h1 h2 hl hd
          | false => exact pass0_sign s R w0 hs a wr k e code acc v T hF (hide hW) (hide hT) (hide hR) hlt h1 h2 hl hd
  · exact pass0_end s R w0 hs a wr k e code acc v T hF (hide hW) (hide hT) (hide hR) hlt

/-- A pass from each label. -/
theorem pass_any (s : ByteArray) (R : List Tok × Int × Int) (w0 : World) (hs : s.size ≤ 3000) (l m : Nat) (a : Act) (wr : World) (h : J28 s R w0 l m a wr) :
    ∃ rest, findLabel c28 l = some rest ∧ rest.wp Tryd.prog (jumps (fun l' a' w' => ∃ m', J28 s R w0 l' m' a' w' ∧ m' < m) (bodyPost Tryd.prog Tryd.f28 (Out R w0))) a wr := by
  obtain ⟨k, e, code, acc, v, T, hF, hW, hT, rfl, hS⟩ := h
  match l, hS with
  | 0, hS =>
    refine ⟨_, tail_some 0 (by omega), ?_⟩
    rw [tail0]
    refine wp_seq (wp_skip ?_)
    show head28.wp _ _ _ _
    exact head_any s R w0 hs a wr k e code acc v T hF hW hT hS
  | 1, hS =>
    refine ⟨_, tail_some 1 (by omega), ?_⟩
    obtain ⟨hlt, h10, hR⟩ := hS
    by_cases h2 : k + 1 < s.size
    · by_cases h3 : gb s (k + 1) = 10
      · exact pass1_line s R w0 hs a wr k e code acc v T hF (hide hW) (hide hT) hlt h10 (hide hR) h2 h3
      · exact pass1_more s R w0 hs a wr k e code acc v T hF (hide hW) (hide hT) hlt h10 (hide hR) h2 h3
    · exact pass1_end s R w0 hs a wr k e code acc v T hF (hide hW) (hide hT) hlt h10 (hide hR) h2
  | 2, hS =>
    refine ⟨_, tail_some 2 (by omega), ?_⟩
    obtain ⟨hlt, hR, hK, hl, hke, hes, hE⟩ := hS
    cases hl' : isLet (rAt s e) with
    | true =>
      have h2 : e < s.size := by
        by_cases h2 : e < s.size
        · exact h2
        · rw [rAt_out s e h2] at hl'; cases hl'
      exact pass2_let s R w0 hs a wr k e code acc v T hF (hide hW) (hide hT) hlt (hide hR) (hide hK) (hide hl) hke hes (hide hE) h2 hl'
    | false =>
      cases hd' : isDig (rAt s e) with
      | true =>
        have h2 : e < s.size := by
          by_cases h2 : e < s.size
          · exact h2
          · rw [rAt_out s e h2] at hd'; cases hd'
        exact pass2_dig s R w0 hs a wr k e code acc v T hF (hide hW) (hide hT) hlt (hide hR) (hide hK) (hide hl) hke hes (hide hE) h2 hl' hd'
      | false =>
        by_cases h8 : 8 < e - k
        · exact pass2_long s R w0 hs a wr k e code acc v T hF (hide hW) (hide hT) hlt (hide hR) (hide hK) (hide hl) hke hes (hide hE) hl' hd' h8
        · exact pass2_short s R w0 hs a wr k e code acc v T hF (hide hW) (hide hT) hlt (hide hR) (hide hK) (hide hl) hke hes (hide hE) hl' hd' h8
  | 3, hS =>
    refine ⟨_, tail_some 3 (by omega), ?_⟩
    obtain ⟨hlt, hR, hK, hl, hd, hke, hes, hE⟩ := hS
    cases hd' : isDig (rAt s e) with
    | true =>
      have h2 : e < s.size := by
        by_cases h2 : e < s.size
        · exact h2
        · rw [rAt_out s e h2] at hd'; cases hd'
      exact pass3_dig s R w0 hs a wr k e code acc v T hF (hide hW) (hide hT) hlt (hide hR) (hide hK) (hide hl) (hide hd) hke hes (hide hE) h2 hd'
    | false =>
      by_cases h8 : value (s.extract k e) < 0
      · exact pass3_bad s R w0 hs a wr k e code acc v T hF (hide hW) (hide hT) hlt (hide hR) (hide hK) (hide hl) (hide hd) hke hes (hide hE) hd' h8
      · exact pass3_good s R w0 hs a wr k e code acc v T hF (hide hW) (hide hT) hlt (hide hR) (hide hK) (hide hl) (hide hd) hke hes (hide hE) hd' (by omega)
  | 4, hS =>
    refine ⟨_, tail_some 4 (by omega), ?_⟩
    obtain ⟨hlt, hR, hK, hl, hd⟩ := hS
    exact pass4 s R w0 hs a wr k e code acc v T hF (hide hW) (hide hT) hlt (hide hR) (hide hK) (hide hl) (hide hd)
  | 5, hS =>
    refine ⟨_, tail_some 5 (by omega), ?_⟩
    obtain ⟨hlt, hR, hK, hC, h5⟩ := hS
    rw [tail5]
    refine wp_seq (wp_skip ?_)
    exact told_any s R w0 hs a wr k e code acc v T _ (Nat.le_refl _) hF hW hT hlt hR hK hC h5
  | n + 6, hS => exact hS.elim

set_option maxHeartbeats 4000000 in
set_option maxRecDepth 100000 in
theorem lexRead_any (s : ByteArray) (w : World) (hs : s.size ≤ 3000) (hg : Sg w) : Calls Tryd.prog 28 #[.string s] w (Out (lexFrom s 0 []) w) := by
  generalize hR : lexFrom s 0 [] = R
  go_enter Tryd.func28, Tryd.ntmps28
  go_wp2
  refine wp_scope_labels (J28 s R w) (left s.size 0 0 0) ?_ (fun l m a wr h => pass_any s R w hs l m a wr h)
  go_wp2_with (go_at_call 35; refine (lexWords_any _).mono ?_; rintro e w1 ⟨rfl, hown, hb, hs1⟩)
  rename_i K hK
  apply wp_label
  refine hK _ _ ?_
  show head28.wp _ _ _ _
  have hz := hg.size
  refine head_any s R w hs _ _ 0 0 0 [] (.slice none 0 0) ⟨0, 0, ⟨#[]⟩, 0⟩ ⟨rfl, rfl, rfl, rfl, rfl, rfl, rfl, rfl, rfl, rfl, rfl⟩ ?_ ?_ ⟨by omega, hR⟩
  · have hs2 : w.heap.size + 3 ≤ w1.heap.size := by simp at hs1; omega
    have b1 : Below w.heap.size w w1 := (below_two _ _ _).trans (hb.mono (by simp; omega))
    exact ⟨at_below hb (two_first _ _ _) (by simp; omega), by simpa using hown, ⟨rfl, .inl ⟨rfl, rfl⟩⟩, b1, hs2, by simp, hg.below b1 (by omega)⟩
  · have q := one_first (w.alloc (.cells #[.int .i64 0, .int .i64 0] 26)) (.cells #[.int .i64 0, .int .i64 0, .string ⟨#[]⟩, .int .i64 0] 32)
    have q2 := at_below hb q (by simp)
    show w1.heap[w.heap.size + 1]? = _
    simpa using q2

/-- The program's tokens of a text. -/
theorem implLex_any (s : ByteArray) (w : World) (hs : s.size ≤ 1048576) (hg : Sg w) : Calls Tryd.prog 10 #[.string s] w (Out (lexAll s) w) := by
  by_cases h : 3000 < s.size
  · have h' : 3000 < (s.size : Int) := by omega
    have e : lexAll s = ([], 1, 0) := by rw [lexAll, if_pos h]
    rw [e]
    go_enter Tryd.func10, Tryd.ntmps10
    go_wp2
    (try simp only [Exit.inBlock, Exit.then])
    refine bodyPost_ret (results_tmp_cell rfl _ _ w.heap.size 26 _ (0, 0) _ rfl (one_first _ _) Tryd.underlying26 rfl (by kernel_rfl)) rfl ?_
    exact ⟨_, rfl, ⟨rfl, .inl ⟨rfl, rfl⟩⟩, (Below.refl _ _).alloc (Nat.le_refl _) _⟩
  · have h' : ¬ 3000 < (s.size : Int) := by omega
    have e : lexAll s = lexFrom s 0 [] := by rw [lexAll, if_neg h]
    rw [e]
    have hr := fun w hg => lexRead_any s w (by omega) hg
    generalize lexFrom s 0 [] = R at *
    have hz := hg.size
    have hg1 : ∀ o, Sg (w.alloc o) := fun o => hg.below ((Below.refl _ w).alloc (Nat.le_refl _) o) hz
    go_enter Tryd.func10, Tryd.ntmps10
    go_wp2_with (go_at_call 28; refine (hr _ (hg1 _)).mono ?_; rintro e1 w1 ⟨v, rfl, hrow, hb⟩; have q0 := at_below hb (one_first _ _) (by simp); have HQ := hide q0; have c0 : w1.cell? ⟨w.heap.size, 0, none⟩ = some (.int .i64 0) := cell_of q0 rfl; have c1 : w1.cell? ⟨w.heap.size, 1, none⟩ = some (.int .i64 0) := cell_of q0 rfl; have f0 : w1.frozen? ⟨w.heap.size, 0, none⟩ = false := frozen_of q0; have f1 : w1.frozen? ⟨w.heap.size, 1, none⟩ = false := frozen_of q0; clear q0)
    (try simp only [Exit.inBlock, Exit.then])
    refine bodyPost_ret (results_tmp_cell rfl _ _ w.heap.size 26 _ (0, 0) _ rfl (at_same (at_same (unhide HQ))) Tryd.underlying26 rfl (by kernel_rfl)) rfl ?_
    have b1 : Below w.heap.size w w1 := ((Below.refl _ w).alloc (Nat.le_refl _) _).trans (hb.mono (by simp))
    exact ⟨_, rfl, row_mono (row_set (row_set hrow (by simp) _) (by simp) _) (by simp), (b1.setCell (Nat.le_refl _) _).setCell (Nat.le_refl _) _⟩

end Go.Proofs.YtggkkhlghlghkaaDoor.lex
