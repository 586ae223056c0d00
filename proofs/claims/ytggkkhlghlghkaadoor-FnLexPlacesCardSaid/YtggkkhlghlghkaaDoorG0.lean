/-
  The reader between two tokens, and in a remark.
-/
import Derived.Test.YtggkkhlghlghkaaDoorGt
namespace Go.Proofs.YtggkkhlghlghkaaDoor.lex
open Go.RowKit Go.Maps Go.Proofs.YtggkkhlghlghkaaDoor.num
set_option linter.unusedVariables false

set_option maxHeartbeats 4000000 in
set_option maxRecDepth 100000 in
theorem pass0_blank (s : ByteArray) (R : List Tok × Int × Int) (w0 : World) (hs : s.size ≤ 3000) (a : Act) (wr : World) (k e : Nat) (code : Int) (acc : List Tok) (v : Value) (T : Tok)
    (hF : Fr s w0 v code (k : Int) (e : Int) a) (hW : Hid (Wf s w0 acc v wr)) (hT : Hid (Tc w0 T wr)) (hR : Hid (lexFrom s k acc = R)) (hlt : k < s.size) (h32 : gb s k = 32 ∨ gb s k = 10) :
    (head28).wp Tryd.prog (jumps (fun l' a' w' => ∃ m', J28 s R w0 l' m' a' w' ∧ m' < left s.size 0 k e) (bodyPost Tryd.prog Tryd.f28 (Out R w0))) a wr := by
  obtain ⟨u, rfl⟩ := fr_open hF
  clear hF
  have hrune := fun w => runeAt_any s k w (by omega)
  rw [rAt_in s k hlt] at hrune
  have eR := (lexFrom_skip s k (k + 1) acc (skip_blank s k hlt h32)).symm.trans (unhide hR)
  conv => arg 2; whnf
  generalize gb s k = c at *
  rcases h32 with rfl | rfl
  · go_wp2_with (go_at_call 43; refine (hrune _).mono ?_; rintro e w' ⟨rfl, rfl⟩)
    apply wp_goto
    show ∃ m', J28 s R w0 0 m' _ _ ∧ m' < left s.size 0 k e
    refine ⟨_, ⟨k + 1, k + 1, code, acc, v, T, ⟨rfl, rfl, rfl, rfl, rfl, rfl, rfl, rfl, rfl, rfl, rfl⟩, unhide hW, unhide hT, rfl, ⟨by omega, eR⟩⟩, ?_⟩
    have := left_next s.size k (k + 1) (by omega) (by omega)
    simp only [left]
    omega
  · go_wp2_with (go_at_call 43; refine (hrune _).mono ?_; rintro e w' ⟨rfl, rfl⟩)
    apply wp_goto
    show ∃ m', J28 s R w0 0 m' _ _ ∧ m' < left s.size 0 k e
    refine ⟨_, ⟨k + 1, k + 1, code, acc, v, T, ⟨rfl, rfl, rfl, rfl, rfl, rfl, rfl, rfl, rfl, rfl, rfl⟩, unhide hW, unhide hT, rfl, ⟨by omega, eR⟩⟩, ?_⟩
    have := left_next s.size k (k + 1) (by omega) (by omega)
    simp only [left]
    omega

set_option maxHeartbeats 4000000 in
set_option maxRecDepth 100000 in
theorem pass0_end (s : ByteArray) (R : List Tok × Int × Int) (w0 : World) (hs : s.size ≤ 3000) (a : Act) (wr : World) (k e : Nat) (code : Int) (acc : List Tok) (v : Value) (T : Tok)
    (hF : Fr s w0 v code (k : Int) (e : Int) a) (hW : Hid (Wf s w0 acc v wr)) (hT : Hid (Tc w0 T wr)) (hR : Hid (lexFrom s k acc = R)) (hlt : ¬ k < s.size) :
    (head28).wp Tryd.prog (jumps (fun l' a' w' => ∃ m', J28 s R w0 l' m' a' w' ∧ m' < left s.size 0 k e) (bodyPost Tryd.prog Tryd.f28 (Out R w0))) a wr := by
  obtain ⟨u, rfl⟩ := fr_open hF
  clear hF
  have hrune := fun w => runeAt_any s k w (by omega)
  rw [rAt_out s k hlt] at hrune
  have eR := (lexFrom_end s k acc (by rw [skip_end s k hlt]; exact hlt)).symm.trans (unhide hR)
  have c0 : wr.cell? ⟨w0.heap.size, 0, none⟩ = some (.int .i64 0) := cell_of (unhide hW).fault rfl
  have c1 : wr.cell? ⟨w0.heap.size, 1, none⟩ = some (.int .i64 0) := cell_of (unhide hW).fault rfl
  have f0 : wr.frozen? ⟨w0.heap.size, 0, none⟩ = false := frozen_of (unhide hW).fault
  have f1 : wr.frozen? ⟨w0.heap.size, 1, none⟩ = false := frozen_of (unhide hW).fault
  conv => arg 2; whnf
  go_wp2_with (go_at_call 43; refine (hrune _).mono ?_; rintro e w' ⟨rfl, rfl⟩)
  show bodyPost Tryd.prog Tryd.f28 (Out R w0) Exit.ret _ _
  refine bodyPost_ret (results_tmp_cell rfl _ _ w0.heap.size 26 _ (0, 0) _ rfl (at_same (at_same (unhide hW).fault)) Tryd.underlying26 rfl (by kernel_rfl)) rfl ?_
  subst eR
  exact ⟨_, rfl, row_mono (row_set (row_set (unhide hW).row (by simp) _) (by simp) _) (by omega), ((unhide hW).below.setCell (Nat.le_refl _) _).setCell (Nat.le_refl _) _⟩

set_option maxHeartbeats 4000000 in
set_option maxRecDepth 100000 in
theorem pass0_hash (s : ByteArray) (R : List Tok × Int × Int) (w0 : World) (hs : s.size ≤ 3000) (a : Act) (wr : World) (k e : Nat) (code : Int) (acc : List Tok) (v : Value) (T : Tok)
    (hF : Fr s w0 v code (k : Int) (e : Int) a) (hW : Hid (Wf s w0 acc v wr)) (hT : Hid (Tc w0 T wr)) (hR : Hid (lexFrom s k acc = R)) (hlt : k < s.size) (hc : gb s k = 35) :
    (head28).wp Tryd.prog (jumps (fun l' a' w' => ∃ m', J28 s R w0 l' m' a' w' ∧ m' < left s.size 0 k e) (bodyPost Tryd.prog Tryd.f28 (Out R w0))) a wr := by
  obtain ⟨u, rfl⟩ := fr_open hF
  clear hF
  have hrune := fun w => runeAt_any s k w (by omega)
  rw [rAt_in s k hlt, hc] at hrune
  have e2 := remEnd_go s k hlt (by omega)
  have eR : lexFrom s (remEnd s k) acc = R := by
    refine (lexFrom_skip s k (remEnd s k) acc ?_).symm.trans (unhide hR)
    rw [skip_rem s k hlt hc, e2]
  conv => arg 2; whnf
  go_wp2_with (go_at_call 43; refine (hrune _).mono ?_; rintro e w' ⟨rfl, rfl⟩)
  apply wp_goto
  show ∃ m', J28 s R w0 1 m' _ _ ∧ m' < left s.size 0 k e
  refine ⟨_, ⟨k, k + 1, code, acc, v, T, ⟨rfl, rfl, rfl, rfl, rfl, rfl, rfl, rfl, rfl, rfl, rfl⟩, unhide hW, unhide hT, rfl, ⟨hlt, by omega, eR⟩⟩, ?_⟩
  simp only [left]
  omega

set_option maxHeartbeats 4000000 in
set_option maxRecDepth 100000 in
theorem pass0_name (s : ByteArray) (R : List Tok × Int × Int) (w0 : World) (hs : s.size ≤ 3000) (a : Act) (wr : World) (k e : Nat) (code : Int) (acc : List Tok) (v : Value) (T : Tok)
    (hF : Fr s w0 v code (k : Int) (e : Int) a) (hW : Hid (Wf s w0 acc v wr)) (hT : Hid (Tc w0 T wr)) (hR : Hid (lexFrom s k acc = R)) (hlt : k < s.size) (h1 : ¬ (gb s k = 32 ∨ gb s k = 10)) (h2 : gb s k ≠ 35) (hl : isLet (gb s k) = true) :
    (head28).wp Tryd.prog (jumps (fun l' a' w' => ∃ m', J28 s R w0 l' m' a' w' ∧ m' < left s.size 0 k e) (bodyPost Tryd.prog Tryd.f28 (Out R w0))) a wr := by
  obtain ⟨u, rfl⟩ := fr_open hF
  clear hF
  have hrune := fun w => runeAt_any s k w (by omega)
  rw [rAt_in s k hlt] at hrune
  have hrng := gb_rng s k
  have eS := skip_stop s k h1 h2
  have HL : ∀ w, Calls Tryd.prog 44 #[.int .i32 (gb s k)] w fun e w' => e = .returned (.bool true) ∧ w' = w := fun w => by
    have := isLetter_any (gb s k) w
    rwa [hl] at this
  have HD := isDigit_any (gb s k)
  have g0 : (gb s k == -1) = false := by simp; omega
  have g1 : (gb s k == 32) = false := by simp; omega
  have g2 : (gb s k == 10) = false := by simp; omega
  have g3 : (gb s k == 35) = false := by simpa using h2
  have HS := hide eS
  have Hl := hide hl
  clear eS hl h1 h2
  conv => arg 2; whnf
  go_wp2_with (first | (go_at_call 43; refine (hrune _).mono ?_; rintro e w' ⟨rfl, rfl⟩) | (go_at_call 44; refine (HL _).mono ?_; rintro e w' ⟨rfl, rfl⟩) | (go_at_call 45; refine (HD _).mono ?_; rintro e w' ⟨rfl, rfl⟩))
  apply wp_goto
  show ∃ m', J28 s R w0 2 m' _ _ ∧ m' < left s.size 0 k e
  refine ⟨_, ⟨k, k + 1, code, acc, v, T, ⟨rfl, rfl, rfl, rfl, rfl, rfl, rfl, rfl, rfl, rfl, rfl⟩, unhide hW, unhide hT, rfl, ⟨hlt, unhide hR, unhide HS, unhide Hl, by omega, by omega, (runEnd_go s k hlt (by rw [unhide Hl]; rfl)).symm⟩⟩, ?_⟩
  simp only [left]
  omega

set_option maxHeartbeats 4000000 in
set_option maxRecDepth 100000 in
theorem pass0_num (s : ByteArray) (R : List Tok × Int × Int) (w0 : World) (hs : s.size ≤ 3000) (a : Act) (wr : World) (k e : Nat) (code : Int) (acc : List Tok) (v : Value) (T : Tok)
    (hF : Fr s w0 v code (k : Int) (e : Int) a) (hW : Hid (Wf s w0 acc v wr)) (hT : Hid (Tc w0 T wr)) (hR : Hid (lexFrom s k acc = R)) (hlt : k < s.size) (h1 : ¬ (gb s k = 32 ∨ gb s k = 10)) (h2 : gb s k ≠ 35) (hl : isLet (gb s k) = false) (hd : isDig (gb s k) = true) :
    (head28).wp Tryd.prog (jumps (fun l' a' w' => ∃ m', J28 s R w0 l' m' a' w' ∧ m' < left s.size 0 k e) (bodyPost Tryd.prog Tryd.f28 (Out R w0))) a wr := by
  obtain ⟨u, rfl⟩ := fr_open hF
  clear hF
  have hrune := fun w => runeAt_any s k w (by omega)
  rw [rAt_in s k hlt] at hrune
  have hrng := gb_rng s k
  have eS := skip_stop s k h1 h2
  have HL : ∀ w, Calls Tryd.prog 44 #[.int .i32 (gb s k)] w fun e w' => e = .returned (.bool false) ∧ w' = w := fun w => by
    have := isLetter_any (gb s k) w
    rwa [hl] at this
  have HD : ∀ w, Calls Tryd.prog 45 #[.int .i32 (gb s k)] w fun e w' => e = .returned (.bool true) ∧ w' = w := fun w => by
    have := isDigit_any (gb s k) w
    rwa [hd] at this
  have g0 : (gb s k == -1) = false := by simp; omega
  have g1 : (gb s k == 32) = false := by simp; omega
  have g2 : (gb s k == 10) = false := by simp; omega
  have g3 : (gb s k == 35) = false := by simpa using h2
  have HS := hide eS
  have Hl := hide hl
  have Hd := hide hd
  clear hd
  clear eS hl h1 h2
  conv => arg 2; whnf
  go_wp2_with (first | (go_at_call 43; refine (hrune _).mono ?_; rintro e w' ⟨rfl, rfl⟩) | (go_at_call 44; refine (HL _).mono ?_; rintro e w' ⟨rfl, rfl⟩) | (go_at_call 45; refine (HD _).mono ?_; rintro e w' ⟨rfl, rfl⟩))
  apply wp_goto
  show ∃ m', J28 s R w0 3 m' _ _ ∧ m' < left s.size 0 k e
  refine ⟨_, ⟨k, k + 1, code, acc, v, T, ⟨rfl, rfl, rfl, rfl, rfl, rfl, rfl, rfl, rfl, rfl, rfl⟩, unhide hW, unhide hT, rfl, ⟨hlt, unhide hR, unhide HS, unhide Hl, unhide Hd, by omega, by omega, (digEnd_go s k hlt (unhide Hd)).symm⟩⟩, ?_⟩
  simp only [left]
  omega

set_option maxHeartbeats 4000000 in
set_option maxRecDepth 100000 in
theorem pass0_sign (s : ByteArray) (R : List Tok × Int × Int) (w0 : World) (hs : s.size ≤ 3000) (a : Act) (wr : World) (k e : Nat) (code : Int) (acc : List Tok) (v : Value) (T : Tok)
    (hF : Fr s w0 v code (k : Int) (e : Int) a) (hW : Hid (Wf s w0 acc v wr)) (hT : Hid (Tc w0 T wr)) (hR : Hid (lexFrom s k acc = R)) (hlt : k < s.size) (h1 : ¬ (gb s k = 32 ∨ gb s k = 10)) (h2 : gb s k ≠ 35) (hl : isLet (gb s k) = false) (hd : isDig (gb s k) = false) :
    (head28).wp Tryd.prog (jumps (fun l' a' w' => ∃ m', J28 s R w0 l' m' a' w' ∧ m' < left s.size 0 k e) (bodyPost Tryd.prog Tryd.f28 (Out R w0))) a wr := by
  obtain ⟨u, rfl⟩ := fr_open hF
  clear hF
  have hrune := fun w => runeAt_any s k w (by omega)
  rw [rAt_in s k hlt] at hrune
  have hrng := gb_rng s k
  have eS := skip_stop s k h1 h2
  have HL : ∀ w, Calls Tryd.prog 44 #[.int .i32 (gb s k)] w fun e w' => e = .returned (.bool false) ∧ w' = w := fun w => by
    have := isLetter_any (gb s k) w
    rwa [hl] at this
  have HD : ∀ w, Calls Tryd.prog 45 #[.int .i32 (gb s k)] w fun e w' => e = .returned (.bool false) ∧ w' = w := fun w => by
    have := isDigit_any (gb s k) w
    rwa [hd] at this
  have g0 : (gb s k == -1) = false := by simp; omega
  have g1 : (gb s k == 32) = false := by simp; omega
  have g2 : (gb s k == 10) = false := by simp; omega
  have g3 : (gb s k == 35) = false := by simpa using h2
  have HS := hide eS
  have Hl := hide hl
  have Hd := hide hd
  clear hd
  clear eS hl h1 h2
  conv => arg 2; whnf
  go_wp2_with (first | (go_at_call 43; refine (hrune _).mono ?_; rintro e w' ⟨rfl, rfl⟩) | (go_at_call 44; refine (HL _).mono ?_; rintro e w' ⟨rfl, rfl⟩) | (go_at_call 45; refine (HD _).mono ?_; rintro e w' ⟨rfl, rfl⟩))
  apply wp_goto
  show ∃ m', J28 s R w0 4 m' _ _ ∧ m' < left s.size 0 k e
  refine ⟨_, ⟨k, k + 1, code, acc, v, T, ⟨rfl, rfl, rfl, rfl, rfl, rfl, rfl, rfl, rfl, rfl, rfl⟩, unhide hW, unhide hT, rfl, ⟨hlt, unhide hR, unhide HS, unhide Hl, unhide Hd⟩⟩, ?_⟩
  simp only [left]
  omega

set_option maxHeartbeats 4000000 in
set_option maxRecDepth 100000 in
theorem pass1_more (s : ByteArray) (R : List Tok × Int × Int) (w0 : World) (hs : s.size ≤ 3000) (a : Act) (wr : World) (k e : Nat) (code : Int) (acc : List Tok) (v : Value) (T : Tok)
    (hF : Fr s w0 v code (k : Int) (e : Int) a) (hW : Hid (Wf s w0 acc v wr)) (hT : Hid (Tc w0 T wr)) (hlt : k < s.size) (h10 : gb s k ≠ 10) (hR : Hid (lexFrom s (remEnd s k) acc = R)) (hl2 : k + 1 < s.size) (hne : gb s (k + 1) ≠ 10) :
    (tail28 1).wp Tryd.prog (jumps (fun l' a' w' => ∃ m', J28 s R w0 l' m' a' w' ∧ m' < left s.size 1 k e) (bodyPost Tryd.prog Tryd.f28 (Out R w0))) a wr := by
  obtain ⟨u, rfl⟩ := fr_open hF
  clear hF
  have hrune := fun w => runeAt_any s (k + 1) w (by omega)
  rw [rAt_in s (k + 1) hl2] at hrune
  have eR : lexFrom s (remEnd s (k + 1)) acc = R := by rw [← remEnd_go s k hlt h10]; exact unhide hR
  have hrng := gb_rng s (k + 1)
  have g0 : (gb s (k + 1) != 10) = true := by simpa using hne
  have g1 : (gb s (k + 1) != -1) = true := by simp; omega
  have ek : ((k + 1 : Nat) : Int) = (k : Int) + 1 := by omega
  rw [ek] at hrune
  conv => arg 2; whnf
  go_wp2_with (go_at_call 43; refine (hrune _).mono ?_; rintro e w' ⟨rfl, rfl⟩)
  apply wp_goto
  show ∃ m', J28 s R w0 1 m' _ _ ∧ m' < left s.size 1 k e
  refine ⟨_, ⟨k + 1, e, code, acc, v, T, ⟨rfl, rfl, rfl, rfl, rfl, rfl, rfl, rfl, rfl, rfl, rfl⟩, unhide hW, unhide hT, rfl, ⟨hl2, hne, eR⟩⟩, ?_⟩
  have := left_next s.size k (k + 1) (by omega) (by omega)
  simp only [left]
  omega

set_option maxHeartbeats 4000000 in
set_option maxRecDepth 100000 in
theorem pass1_line (s : ByteArray) (R : List Tok × Int × Int) (w0 : World) (hs : s.size ≤ 3000) (a : Act) (wr : World) (k e : Nat) (code : Int) (acc : List Tok) (v : Value) (T : Tok)
    (hF : Fr s w0 v code (k : Int) (e : Int) a) (hW : Hid (Wf s w0 acc v wr)) (hT : Hid (Tc w0 T wr)) (hlt : k < s.size) (h10 : gb s k ≠ 10) (hR : Hid (lexFrom s (remEnd s k) acc = R)) (hl2 : k + 1 < s.size) (hne : gb s (k + 1) = 10) :
    (tail28 1).wp Tryd.prog (jumps (fun l' a' w' => ∃ m', J28 s R w0 l' m' a' w' ∧ m' < left s.size 1 k e) (bodyPost Tryd.prog Tryd.f28 (Out R w0))) a wr := by
  obtain ⟨u, rfl⟩ := fr_open hF
  clear hF
  have hrune := fun w => runeAt_any s (k + 1) w (by omega)
  rw [rAt_in s (k + 1) hl2, hne] at hrune
  have eR : lexFrom s (k + 1) acc = R := by rw [← remEnd_stop s (k + 1) hne, ← remEnd_go s k hlt h10]; exact unhide hR
  have ek : ((k + 1 : Nat) : Int) = (k : Int) + 1 := by omega
  rw [ek] at hrune
  conv => arg 2; whnf
  go_wp2_with (go_at_call 43; refine (hrune _).mono ?_; rintro e w' ⟨rfl, rfl⟩)
  apply wp_goto
  show ∃ m', J28 s R w0 0 m' _ _ ∧ m' < left s.size 1 k e
  refine ⟨_, ⟨k + 1, e, code, acc, v, T, ⟨rfl, rfl, rfl, rfl, rfl, rfl, rfl, rfl, rfl, rfl, rfl⟩, unhide hW, unhide hT, rfl, ⟨by omega, eR⟩⟩, ?_⟩
  have := left_next s.size k (k + 1) (by omega) (by omega)
  simp only [left]
  omega

set_option maxHeartbeats 4000000 in
set_option maxRecDepth 100000 in
theorem pass1_end (s : ByteArray) (R : List Tok × Int × Int) (w0 : World) (hs : s.size ≤ 3000) (a : Act) (wr : World) (k e : Nat) (code : Int) (acc : List Tok) (v : Value) (T : Tok)
    (hF : Fr s w0 v code (k : Int) (e : Int) a) (hW : Hid (Wf s w0 acc v wr)) (hT : Hid (Tc w0 T wr)) (hlt : k < s.size) (h10 : gb s k ≠ 10) (hR : Hid (lexFrom s (remEnd s k) acc = R)) (hl2 : ¬ k + 1 < s.size) :
    (tail28 1).wp Tryd.prog (jumps (fun l' a' w' => ∃ m', J28 s R w0 l' m' a' w' ∧ m' < left s.size 1 k e) (bodyPost Tryd.prog Tryd.f28 (Out R w0))) a wr := by
  obtain ⟨u, rfl⟩ := fr_open hF
  clear hF
  have hrune := fun w => runeAt_any s (k + 1) w (by omega)
  rw [rAt_out s (k + 1) hl2] at hrune
  have eR : lexFrom s (k + 1) acc = R := by rw [← remEnd_end s (k + 1) hl2, ← remEnd_go s k hlt h10]; exact unhide hR
  have ek : ((k + 1 : Nat) : Int) = (k : Int) + 1 := by omega
  rw [ek] at hrune
  conv => arg 2; whnf
  go_wp2_with (go_at_call 43; refine (hrune _).mono ?_; rintro e w' ⟨rfl, rfl⟩)
  apply wp_goto
  show ∃ m', J28 s R w0 0 m' _ _ ∧ m' < left s.size 1 k e
  refine ⟨_, ⟨k + 1, e, code, acc, v, T, ⟨rfl, rfl, rfl, rfl, rfl, rfl, rfl, rfl, rfl, rfl, rfl⟩, unhide hW, unhide hT, rfl, ⟨by omega, eR⟩⟩, ?_⟩
  have := left_next s.size k (k + 1) (by omega) (by omega)
  simp only [left]
  omega

end Go.Proofs.YtggkkhlghlghkaaDoor.lex
