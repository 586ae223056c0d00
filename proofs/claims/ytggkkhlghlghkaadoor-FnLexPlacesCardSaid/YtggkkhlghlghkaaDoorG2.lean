/-
  The reader in a name and in a number.
-/
import Derived.Test.YtggkkhlghlghkaaDoorG0
namespace Go.Proofs.YtggkkhlghlghkaaDoor.lex
open Go.RowKit Go.Maps Go.Proofs.YtggkkhlghlghkaaDoor.num
set_option linter.unusedVariables false

theorem map_below {w w' : World} {b n : Nat} {D : DataW Unit} (h : w.ownsMap Tryd.prog 9 (unitElem (H := Unit)) b n D) (hb : Below w.heap.size w w') : w'.ownsMap Tryd.prog 9 (unitElem (H := Unit)) b n D := by
  obtain ⟨es, clock, hh, r⟩ := h
  exact ⟨es, clock, (hb.block b (Array.getElem?_eq_some_iff.1 hh).1).trans hh, r⟩
theorem Sg.set {w : World} (h : Sg w) {b i : Nat} (hb : 0 < b) (u : Value) : Sg (w.setCell ⟨b, i, none⟩ u) := by
  obtain ⟨t, fr, h⟩ := h
  exact ⟨t, fr, at_other h (by omega)⟩
theorem Wf.pos {s : ByteArray} {w0 : World} {acc : List Tok} {v : Value} {wr : World} (h : Wf s w0 acc v wr) (hs : Sg w0) : 0 < w0.heap.size := hs.size
theorem Wf.later {s : ByteArray} {w0 : World} {acc : List Tok} {v : Value} {wr w1 : World} (h : Wf s w0 acc v wr) (hb : Below wr.heap.size wr w1) : Wf s w0 acc v w1 :=
  ⟨at_below hb h.fault (by have := h.size; omega), map_below h.words hb, row_below h.row hb, h.below.trans (hb.mono (by have := h.size; omega)), Nat.le_trans h.size hb.size, h.few, h.sg.below hb (by have := h.sg.size; omega)⟩
theorem Wf.set {s : ByteArray} {w0 : World} {acc : List Tok} {v : Value} {wr : World} (h : Wf s w0 acc v wr) (i : Nat) (u : Value) : Wf s w0 acc v (wr.setCell ⟨w0.heap.size + 1, i, none⟩ u) :=
  ⟨at_other h.fault (by omega), h.words.setCell (by simp) u, row_set h.row (by simp) u, h.below.setCell (by simp) u, by simpa using h.size, h.few, h.sg.set (by omega) u⟩
theorem Wf.set4 {s : ByteArray} {w0 : World} {acc : List Tok} {v : Value} {wr : World} (h : Wf s w0 acc v wr) (a b c d : Value) :
    Wf s w0 acc v ((((wr.setCell ⟨w0.heap.size + 1, 0, none⟩ a).setCell ⟨w0.heap.size + 1, 1, none⟩ b).setCell ⟨w0.heap.size + 1, 2, none⟩ c).setCell ⟨w0.heap.size + 1, 3, none⟩ d) :=
  (((h.set 0 a).set 1 b).set 2 c).set 3 d
theorem Tc.set4 {w0 : World} {T : Tok} {wr : World} (h : Tc w0 T wr) (k p n : Int) (t : ByteArray) :
    Tc w0 ⟨k, p, t, n⟩ ((((wr.setCell ⟨w0.heap.size + 1, 0, none⟩ (.int .i64 k)).setCell ⟨w0.heap.size + 1, 1, none⟩ (.int .i64 p)).setCell ⟨w0.heap.size + 1, 2, none⟩ (.string t)).setCell ⟨w0.heap.size + 1, 3, none⟩ (.int .i64 n)) :=
  at_same (at_same (at_same (at_same h)))
theorem Tc.later {w0 : World} {T : Tok} {wr w1 : World} (h : Tc w0 T wr) (hb : Below wr.heap.size wr w1) : Tc w0 T w1 := at_below hb h (Array.getElem?_eq_some_iff.1 h).1

set_option maxHeartbeats 4000000 in
set_option maxRecDepth 100000 in
theorem pass2_let (s : ByteArray) (R : List Tok × Int × Int) (w0 : World) (hs : s.size ≤ 3000) (a : Act) (wr : World) (k e : Nat) (code : Int) (acc : List Tok) (v : Value) (T : Tok)
    (hF : Fr s w0 v code (k : Int) (e : Int) a) (hW : Hid (Wf s w0 acc v wr)) (hT : Hid (Tc w0 T wr)) (hlt : k < s.size) (hR : Hid (lexFrom s k acc = R)) (hS : Hid (skip s k = k)) (hl : Hid (isLet (gb s k) = true)) (hke : k < e) (hes : e ≤ s.size) (hE : Hid (runEnd s e = runEnd s k)) (h2 : e < s.size) (hl' : isLet (rAt s e) = true) :
    (tail28 2).wp Tryd.prog (jumps (fun l' a' w' => ∃ m', J28 s R w0 l' m' a' w' ∧ m' < left s.size 2 k e) (bodyPost Tryd.prog Tryd.f28 (Out R w0))) a wr := by
  obtain ⟨u, rfl⟩ := fr_open hF
  clear hF
  have hrune := fun w => runeAt_any s e w (by omega)
  have HL : ∀ w, Calls Tryd.prog 44 #[.int .i32 (rAt s e)] w fun e' w' => e' = .returned (.bool true) ∧ w' = w := fun w => by
    have := isLetter_any (rAt s e) w
    rwa [hl'] at this
  have HD := isDigit_any (rAt s e)
  have eE := (runEnd_go s e h2 (by rw [← rAt_in s e h2, hl']; rfl)).symm.trans (unhide hE)
  have HE := hide eE
  clear eE hl'
  generalize rAt s e = c at *
  conv => arg 2; whnf
  go_wp2_with (first | (go_at_call 43; refine (hrune _).mono ?_; rintro e' w' ⟨rfl, rfl⟩) | (go_at_call 44; refine (HL _).mono ?_; rintro e' w' ⟨rfl, rfl⟩) | (go_at_call 45; refine (HD _).mono ?_; rintro e' w' ⟨rfl, rfl⟩))
  apply wp_goto
  show ∃ m', J28 s R w0 2 m' _ _ ∧ m' < left s.size 2 k e
  refine ⟨_, ⟨k, e + 1, code, acc, v, T, ⟨rfl, rfl, rfl, rfl, rfl, rfl, rfl, rfl, rfl, rfl, rfl⟩, unhide hW, unhide hT, rfl, ⟨hlt, unhide hR, unhide hS, unhide hl, by omega, by omega, unhide HE⟩⟩, ?_⟩
  simp only [left]
  omega

set_option maxHeartbeats 4000000 in
set_option maxRecDepth 100000 in
theorem pass2_dig (s : ByteArray) (R : List Tok × Int × Int) (w0 : World) (hs : s.size ≤ 3000) (a : Act) (wr : World) (k e : Nat) (code : Int) (acc : List Tok) (v : Value) (T : Tok)
    (hF : Fr s w0 v code (k : Int) (e : Int) a) (hW : Hid (Wf s w0 acc v wr)) (hT : Hid (Tc w0 T wr)) (hlt : k < s.size) (hR : Hid (lexFrom s k acc = R)) (hS : Hid (skip s k = k)) (hl : Hid (isLet (gb s k) = true)) (hke : k < e) (hes : e ≤ s.size) (hE : Hid (runEnd s e = runEnd s k)) (h2 : e < s.size) (hl' : isLet (rAt s e) = false) (hd' : isDig (rAt s e) = true) :
    (tail28 2).wp Tryd.prog (jumps (fun l' a' w' => ∃ m', J28 s R w0 l' m' a' w' ∧ m' < left s.size 2 k e) (bodyPost Tryd.prog Tryd.f28 (Out R w0))) a wr := by
  obtain ⟨u, rfl⟩ := fr_open hF
  clear hF
  have hrune := fun w => runeAt_any s e w (by omega)
  have HL : ∀ w, Calls Tryd.prog 44 #[.int .i32 (rAt s e)] w fun e' w' => e' = .returned (.bool false) ∧ w' = w := fun w => by
    have := isLetter_any (rAt s e) w
    rwa [hl'] at this
  have HD : ∀ w, Calls Tryd.prog 45 #[.int .i32 (rAt s e)] w fun e' w' => e' = .returned (.bool true) ∧ w' = w := fun w => by
    have := isDigit_any (rAt s e) w
    rwa [hd'] at this
  have eE := (runEnd_go s e h2 (by rw [← rAt_in s e h2, hd']; exact Bool.or_true _)).symm.trans (unhide hE)
  have HE := hide eE
  clear eE hl' hd'
  generalize rAt s e = c at *
  conv => arg 2; whnf
  go_wp2_with (first | (go_at_call 43; refine (hrune _).mono ?_; rintro e' w' ⟨rfl, rfl⟩) | (go_at_call 44; refine (HL _).mono ?_; rintro e' w' ⟨rfl, rfl⟩) | (go_at_call 45; refine (HD _).mono ?_; rintro e' w' ⟨rfl, rfl⟩))
  apply wp_goto
  show ∃ m', J28 s R w0 2 m' _ _ ∧ m' < left s.size 2 k e
  refine ⟨_, ⟨k, e + 1, code, acc, v, T, ⟨rfl, rfl, rfl, rfl, rfl, rfl, rfl, rfl, rfl, rfl, rfl⟩, unhide hW, unhide hT, rfl, ⟨hlt, unhide hR, unhide hS, unhide hl, by omega, by omega, unhide HE⟩⟩, ?_⟩
  simp only [left]
  omega

set_option maxHeartbeats 4000000 in
set_option maxRecDepth 100000 in
theorem pass2_long (s : ByteArray) (R : List Tok × Int × Int) (w0 : World) (hs : s.size ≤ 3000) (a : Act) (wr : World) (k e : Nat) (code : Int) (acc : List Tok) (v : Value) (T : Tok)
    (hF : Fr s w0 v code (k : Int) (e : Int) a) (hW : Hid (Wf s w0 acc v wr)) (hT : Hid (Tc w0 T wr)) (hlt : k < s.size) (hR : Hid (lexFrom s k acc = R)) (hS : Hid (skip s k = k)) (hl : Hid (isLet (gb s k) = true)) (hke : k < e) (hes : e ≤ s.size) (hE : Hid (runEnd s e = runEnd s k)) (hl' : isLet (rAt s e) = false) (hd' : isDig (rAt s e) = false) (h8 : 8 < e - k) :
    (tail28 2).wp Tryd.prog (jumps (fun l' a' w' => ∃ m', J28 s R w0 l' m' a' w' ∧ m' < left s.size 2 k e) (bodyPost Tryd.prog Tryd.f28 (Out R w0))) a wr := by
  obtain ⟨u, rfl⟩ := fr_open hF
  clear hF
  have hrune := fun w => runeAt_any s e w (by omega)
  have HL : ∀ w, Calls Tryd.prog 44 #[.int .i32 (rAt s e)] w fun e' w' => e' = .returned (.bool false) ∧ w' = w := fun w => by
    have := isLetter_any (rAt s e) w
    rwa [hl'] at this
  have HD : ∀ w, Calls Tryd.prog 45 #[.int .i32 (rAt s e)] w fun e' w' => e' = .returned (.bool false) ∧ w' = w := fun w => by
    have := isDigit_any (rAt s e) w
    rwa [hd'] at this
  have eE : runEnd s k = e := by
    rw [← unhide hE]
    by_cases h2 : e < s.size
    · rw [rAt_in s e h2] at hl' hd'
      exact runEnd_stop s e (by rw [hl', hd']; rfl)
    · exact runEnd_end s e h2
  have HE := hide eE
  have hsz : (s.extract k e).size = e - k := by simp; omega
  have HN := fun w (hm : w.ownsMap Tryd.prog 9 (unitElem (H := Unit)) (w0.heap.size + 2) 17 (wordD 17)) => nameToken_long (s.extract k e) (w0.heap.size + 2) 17 w (by omega) (by omega)
  clear eE hl' hd'
  generalize rAt s e = c at *
  conv => arg 2; whnf
  go_wp2_with (first | (go_at_call 43; refine (hrune _).mono ?_; rintro e' w' ⟨rfl, rfl⟩) | (go_at_call 44; refine (HL _).mono ?_; rintro e' w' ⟨rfl, rfl⟩) | (go_at_call 45; refine (HD _).mono ?_; rintro e' w' ⟨rfl, rfl⟩) | (go_at_call 46; refine (HN _ (unhide hW).words).mono ?_; rintro e1 w1 ⟨rfl, hb⟩; have q4 := (unhide hT).later hb; obtain ⟨c0, c1, c2, c3, g0, g1, g2, g3⟩ := f4 q4; have Q4 := hide q4; clear q4; have W4 := hide ((unhide hW).later hb)))
  apply wp_goto
  show ∃ m', J28 s R w0 5 m' _ _ ∧ m' < left s.size 2 k e
  refine ⟨_, ⟨k, e, 3, acc, v, ⟨0, 0, ⟨#[]⟩, 0⟩, ⟨rfl, rfl, rfl, rfl, rfl, rfl, rfl, rfl, rfl, rfl, rfl⟩, (unhide W4).set4 _ _ _ _, (unhide Q4).set4 _ _ _ _, rfl, ⟨hlt, unhide hR, unhide hS, by rw [tokCode, if_pos (unhide hl), unhide HE, if_pos h8], fun h => by omega⟩⟩, ?_⟩
  simp only [left]
  omega

set_option maxHeartbeats 4000000 in
set_option maxRecDepth 100000 in
theorem pass2_short (s : ByteArray) (R : List Tok × Int × Int) (w0 : World) (hs : s.size ≤ 3000) (a : Act) (wr : World) (k e : Nat) (code : Int) (acc : List Tok) (v : Value) (T : Tok)
    (hF : Fr s w0 v code (k : Int) (e : Int) a) (hW : Hid (Wf s w0 acc v wr)) (hT : Hid (Tc w0 T wr)) (hlt : k < s.size) (hR : Hid (lexFrom s k acc = R)) (hS : Hid (skip s k = k)) (hl : Hid (isLet (gb s k) = true)) (hke : k < e) (hes : e ≤ s.size) (hE : Hid (runEnd s e = runEnd s k)) (hl' : isLet (rAt s e) = false) (hd' : isDig (rAt s e) = false) (h8 : ¬ 8 < e - k) :
    (tail28 2).wp Tryd.prog (jumps (fun l' a' w' => ∃ m', J28 s R w0 l' m' a' w' ∧ m' < left s.size 2 k e) (bodyPost Tryd.prog Tryd.f28 (Out R w0))) a wr := by
  obtain ⟨u, rfl⟩ := fr_open hF
  clear hF
  have hrune := fun w => runeAt_any s e w (by omega)
  have HL : ∀ w, Calls Tryd.prog 44 #[.int .i32 (rAt s e)] w fun e' w' => e' = .returned (.bool false) ∧ w' = w := fun w => by
    have := isLetter_any (rAt s e) w
    rwa [hl'] at this
  have HD : ∀ w, Calls Tryd.prog 45 #[.int .i32 (rAt s e)] w fun e' w' => e' = .returned (.bool false) ∧ w' = w := fun w => by
    have := isDigit_any (rAt s e) w
    rwa [hd'] at this
  have eE : runEnd s k = e := by
    rw [← unhide hE]
    by_cases h2 : e < s.size
    · rw [rAt_in s e h2] at hl' hd'
      exact runEnd_stop s e (by rw [hl', hd']; rfl)
    · exact runEnd_end s e h2
  have HE := hide eE
  have hsz : (s.extract k e).size = e - k := by simp; omega
  have HN := fun w (hm : w.ownsMap Tryd.prog 9 (unitElem (H := Unit)) (w0.heap.size + 2) 17 (wordD 17)) => nameToken_short (s.extract k e) (w0.heap.size + 2) 17 w (by omega) hm
  generalize hX : (if isWord (s.extract k e).data.toList then (3 : Int) else 1) = X at *
  have HX := hide hX
  clear hX
  clear eE hl' hd'
  generalize rAt s e = c at *
  conv => arg 2; whnf
  go_wp2_with (first | (go_at_call 43; refine (hrune _).mono ?_; rintro e' w' ⟨rfl, rfl⟩) | (go_at_call 44; refine (HL _).mono ?_; rintro e' w' ⟨rfl, rfl⟩) | (go_at_call 45; refine (HD _).mono ?_; rintro e' w' ⟨rfl, rfl⟩) | (go_at_call 46; refine (HN _ (unhide hW).words).mono ?_; rintro e1 w1 ⟨rfl, hb⟩; have q4 := (unhide hT).later hb; obtain ⟨c0, c1, c2, c3, g0, g1, g2, g3⟩ := f4 q4; have Q4 := hide q4; clear q4; have W4 := hide ((unhide hW).later hb)))
  apply wp_goto
  show ∃ m', J28 s R w0 5 m' _ _ ∧ m' < left s.size 2 k e
  refine ⟨_, ⟨k, e, 0, acc, v, ⟨X, 0, s.extract k e, 0⟩, ⟨rfl, rfl, rfl, rfl, rfl, rfl, rfl, rfl, rfl, rfl, rfl⟩, (unhide W4).set4 _ _ _ _, (unhide Q4).set4 _ _ _ _, rfl, ⟨hlt, unhide hR, unhide hS, by rw [tokCode, if_pos (unhide hl), unhide HE, if_neg h8], fun h => ⟨by rw [tokEnd, if_pos (unhide hl), unhide HE], ?_⟩⟩⟩, ?_⟩
  · rw [tokAt, if_pos (unhide hl), nameTok, unhide HE, unhide HX]
    exact (unhide Q4).set4 _ _ _ _
  · simp only [left]
    omega

set_option maxHeartbeats 4000000 in
set_option maxRecDepth 100000 in
theorem pass3_dig (s : ByteArray) (R : List Tok × Int × Int) (w0 : World) (hs : s.size ≤ 3000) (a : Act) (wr : World) (k e : Nat) (code : Int) (acc : List Tok) (v : Value) (T : Tok)
    (hF : Fr s w0 v code (k : Int) (e : Int) a) (hW : Hid (Wf s w0 acc v wr)) (hT : Hid (Tc w0 T wr)) (hlt : k < s.size) (hR : Hid (lexFrom s k acc = R)) (hS : Hid (skip s k = k)) (hl : Hid (isLet (gb s k) = false)) (hd : Hid (isDig (gb s k) = true)) (hke : k < e) (hes : e ≤ s.size) (hE : Hid (digEnd s e = digEnd s k)) (h2 : e < s.size) (hd' : isDig (rAt s e) = true) :
    (tail28 3).wp Tryd.prog (jumps (fun l' a' w' => ∃ m', J28 s R w0 l' m' a' w' ∧ m' < left s.size 3 k e) (bodyPost Tryd.prog Tryd.f28 (Out R w0))) a wr := by
  obtain ⟨u, rfl⟩ := fr_open hF
  clear hF
  have hrune := fun w => runeAt_any s e w (by omega)
  have HD : ∀ w, Calls Tryd.prog 45 #[.int .i32 (rAt s e)] w fun e' w' => e' = .returned (.bool true) ∧ w' = w := fun w => by
    have := isDigit_any (rAt s e) w
    rwa [hd'] at this
  have eE := (digEnd_go s e h2 (by rw [← rAt_in s e h2, hd'])).symm.trans (unhide hE)
  have HE := hide eE
  clear eE hd'
  generalize rAt s e = c at *
  conv => arg 2; whnf
  go_wp2_with (first | (go_at_call 43; refine (hrune _).mono ?_; rintro e' w' ⟨rfl, rfl⟩) | (go_at_call 45; refine (HD _).mono ?_; rintro e' w' ⟨rfl, rfl⟩))
  apply wp_goto
  show ∃ m', J28 s R w0 3 m' _ _ ∧ m' < left s.size 3 k e
  refine ⟨_, ⟨k, e + 1, code, acc, v, T, ⟨rfl, rfl, rfl, rfl, rfl, rfl, rfl, rfl, rfl, rfl, rfl⟩, unhide hW, unhide hT, rfl, ⟨hlt, unhide hR, unhide hS, unhide hl, unhide hd, by omega, by omega, unhide HE⟩⟩, ?_⟩
  simp only [left]
  omega

set_option maxHeartbeats 4000000 in
set_option maxRecDepth 100000 in
theorem pass3_bad (s : ByteArray) (R : List Tok × Int × Int) (w0 : World) (hs : s.size ≤ 3000) (a : Act) (wr : World) (k e : Nat) (code : Int) (acc : List Tok) (v : Value) (T : Tok)
    (hF : Fr s w0 v code (k : Int) (e : Int) a) (hW : Hid (Wf s w0 acc v wr)) (hT : Hid (Tc w0 T wr)) (hlt : k < s.size) (hR : Hid (lexFrom s k acc = R)) (hS : Hid (skip s k = k)) (hl : Hid (isLet (gb s k) = false)) (hd : Hid (isDig (gb s k) = true)) (hke : k < e) (hes : e ≤ s.size) (hE : Hid (digEnd s e = digEnd s k)) (hd' : isDig (rAt s e) = false) (h8 : value (s.extract k e) < 0) :
    (tail28 3).wp Tryd.prog (jumps (fun l' a' w' => ∃ m', J28 s R w0 l' m' a' w' ∧ m' < left s.size 3 k e) (bodyPost Tryd.prog Tryd.f28 (Out R w0))) a wr := by
  obtain ⟨u, rfl⟩ := fr_open hF
  clear hF
  have hrune := fun w => runeAt_any s e w (by omega)
  have HD : ∀ w, Calls Tryd.prog 45 #[.int .i32 (rAt s e)] w fun e' w' => e' = .returned (.bool false) ∧ w' = w := fun w => by
    have := isDigit_any (rAt s e) w
    rwa [hd'] at this
  have eE : digEnd s k = e := by
    rw [← unhide hE]
    by_cases h2 : e < s.size
    · rw [rAt_in s e h2] at hd'
      exact digEnd_stop s e hd'
    · exact digEnd_end s e h2
  have HE := hide eE
  have hsz : (s.extract k e).size = e - k := by simp; omega
  have hall : allDig (s.extract k e) := by
    have := allDig_cut s k
    rwa [eE] at this
  have HN : ∀ w, Calls Tryd.prog 47 #[.string (s.extract k e)] w fun e1 w' => e1 = .returned (.tuple #[.agg #[.int .i64 0, .int .i64 0, .string ⟨#[]⟩, .int .i64 0], .int .i64 4]) ∧ Below w.heap.size w w' := fun w => by
    refine (numToken_any (s.extract k e) w (by omega) (by omega) hall).mono ?_
    rintro e1 w1 ⟨⟨hv, rfl⟩ | ⟨hv, rfl⟩, hb⟩
    · first | exact ⟨rfl, hb⟩ | omega
    · first | exact ⟨rfl, hb⟩ | omega
  have H8 := hide h8
  clear eE hd' hall h8
  generalize rAt s e = c at *
  conv => arg 2; whnf
  go_wp2_with (first | (go_at_call 43; refine (hrune _).mono ?_; rintro e' w' ⟨rfl, rfl⟩) | (go_at_call 45; refine (HD _).mono ?_; rintro e' w' ⟨rfl, rfl⟩) | (go_at_call 47; refine (HN _).mono ?_; rintro e1 w1 ⟨rfl, hb⟩; have q4 := (unhide hT).later hb; obtain ⟨c0, c1, c2, c3, g0, g1, g2, g3⟩ := f4 q4; have Q4 := hide q4; clear q4; have W4 := hide ((unhide hW).later hb)))
  apply wp_goto
  show ∃ m', J28 s R w0 5 m' _ _ ∧ m' < left s.size 3 k e
  refine ⟨_, ⟨k, e, 4, acc, v, ⟨0, 0, ⟨#[]⟩, 0⟩, ⟨rfl, rfl, rfl, rfl, rfl, rfl, rfl, rfl, rfl, rfl, rfl⟩, (unhide W4).set4 _ _ _ _, (unhide Q4).set4 _ _ _ _, rfl, ⟨hlt, unhide hR, unhide hS, by rw [tokCode, if_neg (by rw [unhide hl]; exact Bool.false_ne_true), if_pos (unhide hd), unhide HE, if_pos (unhide H8)], fun h => by omega⟩⟩, ?_⟩
  simp only [left]
  omega

set_option maxHeartbeats 4000000 in
set_option maxRecDepth 100000 in
theorem pass3_good (s : ByteArray) (R : List Tok × Int × Int) (w0 : World) (hs : s.size ≤ 3000) (a : Act) (wr : World) (k e : Nat) (code : Int) (acc : List Tok) (v : Value) (T : Tok)
    (hF : Fr s w0 v code (k : Int) (e : Int) a) (hW : Hid (Wf s w0 acc v wr)) (hT : Hid (Tc w0 T wr)) (hlt : k < s.size) (hR : Hid (lexFrom s k acc = R)) (hS : Hid (skip s k = k)) (hl : Hid (isLet (gb s k) = false)) (hd : Hid (isDig (gb s k) = true)) (hke : k < e) (hes : e ≤ s.size) (hE : Hid (digEnd s e = digEnd s k)) (hd' : isDig (rAt s e) = false) (h8 : 0 ≤ value (s.extract k e)) :
    (tail28 3).wp Tryd.prog (jumps (fun l' a' w' => ∃ m', J28 s R w0 l' m' a' w' ∧ m' < left s.size 3 k e) (bodyPost Tryd.prog Tryd.f28 (Out R w0))) a wr := by
  obtain ⟨u, rfl⟩ := fr_open hF
  clear hF
  have hrune := fun w => runeAt_any s e w (by omega)
  have HD : ∀ w, Calls Tryd.prog 45 #[.int .i32 (rAt s e)] w fun e' w' => e' = .returned (.bool false) ∧ w' = w := fun w => by
    have := isDigit_any (rAt s e) w
    rwa [hd'] at this
  have eE : digEnd s k = e := by
    rw [← unhide hE]
    by_cases h2 : e < s.size
    · rw [rAt_in s e h2] at hd'
      exact digEnd_stop s e hd'
    · exact digEnd_end s e h2
  have HE := hide eE
  have hsz : (s.extract k e).size = e - k := by simp; omega
  have hall : allDig (s.extract k e) := by
    have := allDig_cut s k
    rwa [eE] at this
  have HN : ∀ w, Calls Tryd.prog 47 #[.string (s.extract k e)] w fun e1 w' => e1 = .returned (.tuple #[.agg #[.int .i64 2, .int .i64 0, .string (s.extract k e), .int .i64 (value (s.extract k e))], .int .i64 0]) ∧ Below w.heap.size w w' := fun w => by
    refine (numToken_any (s.extract k e) w (by omega) (by omega) hall).mono ?_
    rintro e1 w1 ⟨⟨hv, rfl⟩ | ⟨hv, rfl⟩, hb⟩
    · first | exact ⟨rfl, hb⟩ | omega
    · first | exact ⟨rfl, hb⟩ | omega
  have H8 := hide h8
  clear eE hd' hall h8
  generalize rAt s e = c at *
  conv => arg 2; whnf
  go_wp2_with (first | (go_at_call 43; refine (hrune _).mono ?_; rintro e' w' ⟨rfl, rfl⟩) | (go_at_call 45; refine (HD _).mono ?_; rintro e' w' ⟨rfl, rfl⟩) | (go_at_call 47; refine (HN _).mono ?_; rintro e1 w1 ⟨rfl, hb⟩; have q4 := (unhide hT).later hb; obtain ⟨c0, c1, c2, c3, g0, g1, g2, g3⟩ := f4 q4; have Q4 := hide q4; clear q4; have W4 := hide ((unhide hW).later hb)))
  apply wp_goto
  show ∃ m', J28 s R w0 5 m' _ _ ∧ m' < left s.size 3 k e
  refine ⟨_, ⟨k, e, 0, acc, v, ⟨2, 0, s.extract k e, value (s.extract k e)⟩, ⟨rfl, rfl, rfl, rfl, rfl, rfl, rfl, rfl, rfl, rfl, rfl⟩, (unhide W4).set4 _ _ _ _, (unhide Q4).set4 _ _ _ _, rfl, ⟨hlt, unhide hR, unhide hS, by rw [tokCode, if_neg (by rw [unhide hl]; exact Bool.false_ne_true), if_pos (unhide hd), unhide HE, if_neg (by have := unhide H8; omega)], fun h => ⟨by rw [tokEnd, if_neg (by rw [unhide hl]; exact Bool.false_ne_true), if_pos (unhide hd), unhide HE], ?_⟩⟩⟩, ?_⟩
  · rw [tokAt, if_neg (by rw [unhide hl]; exact Bool.false_ne_true), if_pos (unhide hd), numTok, unhide HE]
    exact (unhide Q4).set4 _ _ _ _
  · simp only [left]
    omega

end Go.Proofs.YtggkkhlghlghkaaDoor.lex
