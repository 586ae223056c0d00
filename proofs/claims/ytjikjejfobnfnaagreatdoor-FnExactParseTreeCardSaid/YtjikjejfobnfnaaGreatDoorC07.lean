/-
  The model's number of some digits, and its token at a place.
  The model's token of a sign.
-/
import Derived.Test.YtjikjejfobnfnaaGreatDoorC05
import Derived.Test.YtjikjejfobnfnaaGreatDoorC06
import Derived.BigRegion
namespace Go.Proofs.YtjikjejfobnfnaaGreatDoor.lex
open Go.RowKit Go.Proofs.YtjikjejfobnfnaaGreatDoor.num
set_option linter.unusedVariables false
/-- All bytes are digits. -/
def allDig (t : ByteArray) : Prop := ∀ j, j < t.size → isDig (gb t j) = true
theorem dval_succ (t : ByteArray) (i : Nat) (h : i < t.size) (hd : isDig (gb t i) = true) : (dval (t.data.toList.take (i + 1)) 0 : Int) = (dval (t.data.toList.take i) 0 : Int) * 10 + (gb t i - 48) := by
  have hl : i < t.data.toList.length := by rw [← Lib.size_eq]; exact h
  have e : gb t i = ((t.data.toList[i]'hl).toNat : Int) := by
    unfold gb
    rw [List.getD_eq_getElem?_getD, List.getElem?_eq_getElem hl]
    rfl
  rw [isDig_iff, e] at hd
  rw [e, List.take_add_one, List.getElem?_eq_getElem hl]
  simp only [dval, Option.toList_some, List.foldl_append, List.foldl_cons, List.foldl_nil]
  omega
theorem dval_lt (t : ByteArray) (ha : allDig t) (i : Nat) (h : i ≤ t.size) : dval (t.data.toList.take i) 0 < 10 ^ i := by
  induction i with
  | zero => simp [dval]
  | succ i ih =>
    have h1 := ih (by omega)
    have h2 := dval_succ t i (by omega) (ha i (by omega))
    have h3 := (isDig_iff _).1 (ha i (by omega))
    rw [Nat.pow_succ]
    omega
theorem dval_all (t : ByteArray) : dval (t.data.toList.take t.size) 0 = dval t.data.toList 0 := by
  rw [List.take_of_length_le (by rw [← Lib.size_eq]; exact Nat.le_refl _)]
theorem pow10 (i : Nat) (h : i ≤ 10) : 10 ^ i ≤ 10000000000 := Nat.le_trans (Nat.pow_le_pow_right (by omega) h) (by decide)

set_option maxRecDepth 100000 in
theorem value_loop (t : ByteArray) (w : World) (hs : t.size ≤ 10) (ha : allDig t) (h48 : t.size ≤ 1 ∨ gb t 0 ≠ 48) : Calls Tryz.prog 79 #[.string t] w fun e w' => e = .returned (.int .i64 (value t)) ∧ w' = w := by
  have hv : value t = if 2147483647 < dval t.data.toList 0 then -1 else (dval t.data.toList 0 : Int) := by
    rw [value, if_neg (by omega)]
  rw [hv]
  have h10 : ¬ (10 < (t.size : Int)) := by omega
  by_cases h1 : 1 < (t.size : Int)
  · have hne : gb t 0 ≠ 48 := by omega
    have hix0 := byteAt t 0 (by omega)
    have hne2 : (gb t 0 == 48) = false := by simpa using hne
    have hix0' : ∀ w, (Instr.index 9 (.string t) (.int .i64 0)).run Tryz.prog w = .ok (.int .u8 (gb t 0)) w := hix0
    clear hix0
    go_enter Tryz.func79, Tryz.ntmps79
    go_wp2
    clear hix0'
    go_loop [3, 4] (fun v i => ∃ j : Nat, j ≤ t.size ∧ i = .int .i64 j ∧ v = .int .i64 (dval (t.data.toList.take j) 0 : Nat)) (fun _ i => t.size - (intOf i).toNat)
    case atStart => exact ⟨0, by omega, rfl, rfl⟩
    case round =>
      obtain ⟨j, hj, rfl, rfl⟩ := hrel
      have hb := dval_lt t ha j hj
      have hp := pow10 j (by omega)
      by_cases hlt : j < t.size
      · have hix := byteAt t j hlt
        have hd := (isDig_iff _).1 (ha j hlt)
        have e := dval_succ t j hlt (ha j hlt)
        generalize dval (t.data.toList.take j) 0 = d0 at *
        go_wp2
        go_round
        case rel => exact ⟨j + 1, by omega, by go_num, by rw [e]⟩
        case measure => simp [intOf]; omega
      · obtain rfl : j = t.size := by omega
        rw [dval_all] at hb
        rw [dval_all]
        by_cases hbig : 2147483647 < dval t.data.toList 0
        · have hbig' : (2147483647 : Int) < (dval t.data.toList 0 : Int) := by omega
          go_wp2
          go_ret
          exact ⟨by rfl, rfl⟩
        · have hbig' : (dval t.data.toList 0 : Int) ≤ 2147483647 := by omega
          go_wp2
          go_ret
          exact ⟨by rfl, rfl⟩
  · go_enter Tryz.func79, Tryz.ntmps79
    go_wp2
    go_loop [3, 4] (fun v i => ∃ j : Nat, j ≤ t.size ∧ i = .int .i64 j ∧ v = .int .i64 (dval (t.data.toList.take j) 0 : Nat)) (fun _ i => t.size - (intOf i).toNat)
    case atStart => exact ⟨0, by omega, rfl, rfl⟩
    case round =>
      obtain ⟨j, hj, rfl, rfl⟩ := hrel
      have hb := dval_lt t ha j hj
      have hp := pow10 j (by omega)
      by_cases hlt : j < t.size
      · have hix := byteAt t j hlt
        have hd := (isDig_iff _).1 (ha j hlt)
        have e := dval_succ t j hlt (ha j hlt)
        generalize dval (t.data.toList.take j) 0 = d0 at *
        go_wp2
        go_round
        case rel => exact ⟨j + 1, by omega, by go_num, by rw [e]⟩
        case measure => simp [intOf]; omega
      · obtain rfl : j = t.size := by omega
        rw [dval_all] at hb
        rw [dval_all]
        by_cases hbig : 2147483647 < dval t.data.toList 0
        · have hbig' : (2147483647 : Int) < (dval t.data.toList 0 : Int) := by omega
          go_wp2
          go_ret
          exact ⟨by rfl, rfl⟩
        · have hbig' : (dval t.data.toList 0 : Int) ≤ 2147483647 := by omega
          go_wp2
          go_ret
          exact ⟨by rfl, rfl⟩

set_option maxRecDepth 100000 in
theorem value_any (t : ByteArray) (w : World) (hs : t.size ≤ 4611686018427387904) (ha : allDig t) : Calls Tryz.prog 79 #[.string t] w fun e w' => e = .returned (.int .i64 (value t)) ∧ w' = w := by
  by_cases h10 : 10 < t.size
  · have h10' : 10 < (t.size : Int) := by omega
    have hv : value t = -1 := by rw [value, if_pos (.inl h10)]
    rw [hv]
    go_enter Tryz.func79, Tryz.ntmps79
    go_wp2
    go_ret
    exact ⟨rfl, rfl⟩
  · by_cases h0 : 1 < t.size ∧ gb t 0 = 48
    · have h10' : ¬ 10 < (t.size : Int) := by omega
      have h1' : 1 < (t.size : Int) := by omega
      have hv : value t = -1 := by rw [value, if_pos (.inr h0)]
      rw [hv]
      have hix0' : ∀ w, (Instr.index 9 (.string t) (.int .i64 0)).run Tryz.prog w = .ok (.int .u8 48) w := by
        have := byteAt t 0 (by omega)
        rw [h0.2] at this
        exact this
      go_enter Tryz.func79, Tryz.ntmps79
      go_wp2
      go_ret
      exact ⟨rfl, rfl⟩
    · exact value_loop t w (by omega) ha (by omega)

theorem gb_cut (s : ByteArray) (a b j : Nat) (hj : j < b - a) (hb : b ≤ s.size) : gb (s.extract a b) j = gb s (a + j) := by
  unfold gb
  congr 2
  rw [Lib.extract_data, List.getD_eq_getElem?_getD, List.getD_eq_getElem?_getD, List.getElem?_take_of_lt hj, List.getElem?_drop]
theorem allDig_cut (s : ByteArray) (k : Nat) : allDig (s.extract k (digEnd s k)) := by
  intro j hj
  by_cases hk : k < s.size
  · have hle := digEnd_le s k (by omega)
    have hj' : j < digEnd s k - k := by
      simp at hj
      omega
    rw [gb_cut s k _ j hj' hle]
    exact (digEnd_dig s k (k + j) (by omega) (by omega)).2
  · rw [digEnd_end s k hk] at hj
    simp at hj

/-- Results of which the first lies in a cell. -/
theorem results_cell3 {P : Program} {fn : Func} {p u v : Tmp} {ty : TypeId} (h : fn.results = #[.cell p ty, .tmp u, .tmp v]) (tmps : Array Value) (w : World) (g : Nat) (t : TypeId) (cs : Array Value) (fr : Nat × Nat) (d : TypeDesc)
    (hp : tmps.getD p undef = .pointer (some ⟨g, 0, none⟩)) (hg : w.heap[g]? = some (.cells cs t fr))
    (hu : P.underlying ty = some d) (hd : (match d with | .struct _ | .array _ _ => true | _ => false) = true) (hi : (P.info? ty).map (·.size) = some cs.size) :
    (results fn tmps).run P w = .ok (.tuple #[.agg cs, tmps.getD u undef, tmps.getD v undef]) w := by
  have hp' : tmps[p]?.getD undef = .pointer (some ⟨g, 0, none⟩) := by simpa using hp
  simp [results, h, hp', asAddr, run_loadVar_row w g t ty cs fr d hg hu hd hi]
/-- Results of which the second lies in a cell. -/
theorem results_tmp_cell {P : Program} {fn : Func} {p u : Tmp} {ty : TypeId} (h : fn.results = #[.tmp u, .cell p ty]) (tmps : Array Value) (w : World) (g : Nat) (t : TypeId) (cs : Array Value) (fr : Nat × Nat) (d : TypeDesc)
    (hp : tmps.getD p undef = .pointer (some ⟨g, 0, none⟩)) (hg : w.heap[g]? = some (.cells cs t fr))
    (hu : P.underlying ty = some d) (hd : (match d with | .struct _ | .array _ _ => true | _ => false) = true) (hi : (P.info? ty).map (·.size) = some cs.size) :
    (results fn tmps).run P w = .ok (.tuple #[tmps.getD u undef, .agg cs]) w := by
  have hp' : tmps[p]?.getD undef = .pointer (some ⟨g, 0, none⟩) := by simpa using hp
  simp [results, h, hp', asAddr, run_loadVar_row w g t ty cs fr d hg hu hd hi]
theorem one_first (w : World) (a : Obj) : (w.alloc a).heap[w.heap.size]? = some a := (Go.MapKept.heap_alloc w a).1
theorem two_first (w : World) (a b : Obj) : ((w.alloc a).alloc b).heap[w.heap.size]? = some a := by
  rw [Below.heap_alloc _ _ _ (by simp)]; exact one_first w a
theorem three_first (w : World) (a b c : Obj) : (((w.alloc a).alloc b).alloc c).heap[w.heap.size]? = some a := by
  rw [Below.heap_alloc _ _ _ (by simp; omega)]; exact two_first w a b
theorem at_same {x : World} {b i : Nat} {v : Value} {cs : Array Value} {t : TypeId} {fr : Nat × Nat} (h : x.heap[b]? = some (.cells cs t fr)) : (x.setCell ⟨b, i, none⟩ v).heap[b]? = some (.cells (cs.setIfInBounds i v) t fr) := by
  simp [World.setCell, Array.getElem?_modify, h]
theorem at_other {x : World} {b c i : Nat} {v : Value} {o : Obj} (h : x.heap[b]? = some o) (hne : b ≠ c) : (x.setCell ⟨c, i, none⟩ v).heap[b]? = some o := (Below.heap_setCell x ⟨c, i, none⟩ v b hne).trans h
theorem below_two (w : World) (a b : Obj) : Below w.heap.size w ((w.alloc a).alloc b) := ((Below.refl _ _).alloc (Nat.le_refl _) _).alloc (by simp) _

set_option maxHeartbeats 1000000 in
set_option maxRecDepth 100000 in
theorem one_name (s : ByteArray) (k : Nat) (w : World) (hs : s.size ≤ 1048576) (hk : k < s.size) (hl : isLet (gb s k) = true) :
    Calls Tryz.prog 45 #[.string s, .int .i64 (k : Int)] w fun e w' => e = .returned (.tuple #[(tokAt s k).val, .int .i64 (tokEnd s k : Nat), .int .i64 (tokCode s k)]) ∧ Below w.heap.size w w' := by
  have e1 : tokAt s k = nameTok s k := by rw [tokAt, if_pos hl]
  have e2 : tokEnd s k = runEnd s k := by rw [tokEnd, if_pos hl]
  have e3 : tokCode s k = if 8 < runEnd s k - k then 3 else 0 := by rw [tokCode, if_pos hl]
  rw [e1, e2, e3, nameTok, Tok.val]
  clear e1 e2 e3
  have HL : ∀ w, Calls Tryz.prog 74 #[.int .u8 (gb s k)] w fun e w' => e = .returned (.bool true) ∧ w' = w := fun w => by
    have := letter_any (gb s k) w
    rwa [hl] at this
  have hix := byteAt s k hk
  have hr := run_any s k
  have r1 := le_runEnd s k
  have r2 := runEnd_le s k (by omega)
  generalize runEnd s k = n at *
  have hsz : (s.extract k n).size = n - k := by simp; omega
  by_cases h8 : 8 < n - k
  · have h8' : 8 < ((n - k : Nat) : Int) := by omega
    rw [if_pos h8]
    cases hwd : isWord (s.extract k n).data.toList with
    | true =>
      have HW : ∀ w, Calls Tryz.prog 76 #[.string (s.extract k n)] w fun e w' => e = .returned (.bool true) ∧ w' = w := fun w => by
        have := specWord_any (s.extract k n) w
        rwa [hwd] at this
      go_enter Tryz.func45, Tryz.ntmps45
      go_wp2_with (first | (go_at_call 74; refine (HL _).mono ?_; rintro e w' ⟨rfl, rfl⟩) | (go_at_call 75; refine (hr _ (by omega) (by omega)).mono ?_; rintro e w' ⟨rfl, rfl⟩) | (go_at_call 76; refine (HW _).mono ?_; rintro e w' ⟨rfl, rfl⟩))
      (try simp only [Exit.inBlock, Exit.then])
      refine bodyPost_ret (results_cell3 rfl _ _ w.heap.size 93 _ (0, 0) _ rfl (two_first _ _ _) Tryz.underlying93 rfl (by kernel_rfl)) rfl ?_
      exact ⟨rfl, below_two _ _ _⟩
    | false =>
      have HW : ∀ w, Calls Tryz.prog 76 #[.string (s.extract k n)] w fun e w' => e = .returned (.bool false) ∧ w' = w := fun w => by
        have := specWord_any (s.extract k n) w
        rwa [hwd] at this
      go_enter Tryz.func45, Tryz.ntmps45
      go_wp2_with (first | (go_at_call 74; refine (HL _).mono ?_; rintro e w' ⟨rfl, rfl⟩) | (go_at_call 75; refine (hr _ (by omega) (by omega)).mono ?_; rintro e w' ⟨rfl, rfl⟩) | (go_at_call 76; refine (HW _).mono ?_; rintro e w' ⟨rfl, rfl⟩))
      (try simp only [Exit.inBlock, Exit.then])
      refine bodyPost_ret (results_cell3 rfl _ _ w.heap.size 93 _ (0, 0) _ rfl (two_first _ _ _) Tryz.underlying93 rfl (by kernel_rfl)) rfl ?_
      exact ⟨rfl, below_two _ _ _⟩
  · have h8' : ¬ 8 < ((n - k : Nat) : Int) := by omega
    rw [if_neg h8]
    cases hwd : isWord (s.extract k n).data.toList with
    | true =>
      have HW : ∀ w, Calls Tryz.prog 76 #[.string (s.extract k n)] w fun e w' => e = .returned (.bool true) ∧ w' = w := fun w => by
        have := specWord_any (s.extract k n) w
        rwa [hwd] at this
      go_enter Tryz.func45, Tryz.ntmps45
      go_wp2_with (first | (go_at_call 74; refine (HL _).mono ?_; rintro e w' ⟨rfl, rfl⟩) | (go_at_call 75; refine (hr _ (by omega) (by omega)).mono ?_; rintro e w' ⟨rfl, rfl⟩) | (go_at_call 76; refine (HW _).mono ?_; rintro e w' ⟨rfl, rfl⟩))
      (try simp only [Exit.inBlock, Exit.then])
      refine bodyPost_ret (results_cell3 rfl _ _ w.heap.size 93 _ (0, 0) _ rfl (two_first _ _ _) Tryz.underlying93 rfl (by kernel_rfl)) rfl ?_
      exact ⟨rfl, below_two _ _ _⟩
    | false =>
      have HW : ∀ w, Calls Tryz.prog 76 #[.string (s.extract k n)] w fun e w' => e = .returned (.bool false) ∧ w' = w := fun w => by
        have := specWord_any (s.extract k n) w
        rwa [hwd] at this
      go_enter Tryz.func45, Tryz.ntmps45
      go_wp2_with (first | (go_at_call 74; refine (HL _).mono ?_; rintro e w' ⟨rfl, rfl⟩) | (go_at_call 75; refine (hr _ (by omega) (by omega)).mono ?_; rintro e w' ⟨rfl, rfl⟩) | (go_at_call 76; refine (HW _).mono ?_; rintro e w' ⟨rfl, rfl⟩))
      (try simp only [Exit.inBlock, Exit.then])
      refine bodyPost_ret (results_cell3 rfl _ _ w.heap.size 93 _ (0, 0) _ rfl (two_first _ _ _) Tryz.underlying93 rfl (by kernel_rfl)) rfl ?_
      exact ⟨rfl, below_two _ _ _⟩

set_option maxHeartbeats 1000000 in
set_option maxRecDepth 100000 in
theorem one_num (s : ByteArray) (k : Nat) (w : World) (hs : s.size ≤ 1048576) (hk : k < s.size) (hl : isLet (gb s k) = false) (hd : isDig (gb s k) = true) :
    Calls Tryz.prog 45 #[.string s, .int .i64 (k : Int)] w fun e w' => e = .returned (.tuple #[(tokAt s k).val, .int .i64 (tokEnd s k : Nat), .int .i64 (tokCode s k)]) ∧ Below w.heap.size w w' := by
  have e1 : tokAt s k = numTok s k := by rw [tokAt, if_neg (by rw [hl]; exact Bool.false_ne_true), if_pos hd]
  have e2 : tokEnd s k = digEnd s k := by rw [tokEnd, if_neg (by rw [hl]; exact Bool.false_ne_true), if_pos hd]
  have e3 : tokCode s k = if value (s.extract k (digEnd s k)) < 0 then 4 else 0 := by rw [tokCode, if_neg (by rw [hl]; exact Bool.false_ne_true), if_pos hd]
  rw [e1, e2, e3, numTok, Tok.val]
  clear e1 e2 e3
  have HL : ∀ w, Calls Tryz.prog 74 #[.int .u8 (gb s k)] w fun e w' => e = .returned (.bool false) ∧ w' = w := fun w => by
    have := letter_any (gb s k) w
    rwa [hl] at this
  have HD : ∀ w, Calls Tryz.prog 77 #[.int .u8 (gb s k)] w fun e w' => e = .returned (.bool true) ∧ w' = w := fun w => by
    have := digit_any (gb s k) w
    rwa [hd] at this
  have hix := byteAt s k hk
  have hr := digits_any s k
  have r1 := le_digEnd s k
  have r2 := digEnd_le s k (by omega)
  have hall := allDig_cut s k
  generalize digEnd s k = n at *
  have hsz : (s.extract k n).size = n - k := by simp; omega
  have hv := fun w => value_any (s.extract k n) w (by rw [hsz]; omega) hall
  clear hall
  generalize value (s.extract k n) = v at *
  by_cases h8 : v < 0
  · simp only [if_pos h8]
    go_enter Tryz.func45, Tryz.ntmps45
    go_wp2_with (first | (go_at_call 74; refine (HL _).mono ?_; rintro e w' ⟨rfl, rfl⟩) | (go_at_call 77; refine (HD _).mono ?_; rintro e w' ⟨rfl, rfl⟩) | (go_at_call 78; refine (hr _ (by omega) (by omega)).mono ?_; rintro e w' ⟨rfl, rfl⟩) | (go_at_call 79; refine (hv _).mono ?_; rintro e w' ⟨rfl, rfl⟩))
    (try simp only [Exit.inBlock, Exit.then])
    refine bodyPost_ret (results_cell3 rfl _ _ w.heap.size 93 _ (0, 0) _ rfl (two_first _ _ _) Tryz.underlying93 rfl (by kernel_rfl)) rfl ?_
    exact ⟨rfl, below_two _ _ _⟩
  · simp only [if_neg h8]
    go_enter Tryz.func45, Tryz.ntmps45
    go_wp2_with (first | (go_at_call 74; refine (HL _).mono ?_; rintro e w' ⟨rfl, rfl⟩) | (go_at_call 77; refine (HD _).mono ?_; rintro e w' ⟨rfl, rfl⟩) | (go_at_call 78; refine (hr _ (by omega) (by omega)).mono ?_; rintro e w' ⟨rfl, rfl⟩) | (go_at_call 79; refine (hv _).mono ?_; rintro e w' ⟨rfl, rfl⟩))
    (try simp only [Exit.inBlock, Exit.then])
    refine bodyPost_ret (results_cell3 rfl _ _ w.heap.size 93 _ (0, 0) _ rfl (two_first _ _ _) Tryz.underlying93 rfl (by kernel_rfl)) rfl ?_
    exact ⟨rfl, below_two _ _ _⟩

theorem at_drew {x : World} {b : Nat} {o : Obj} (h : x.heap[b]? = some o) : x.drew.heap[b]? = some o := h

set_option maxHeartbeats 1000000 in
set_option maxRecDepth 100000 in
theorem one_sign (s : ByteArray) (k : Nat) (w : World) (hs : s.size ≤ 1048576) (hk : k < s.size) (hl : isLet (gb s k) = false) (hd : isDig (gb s k) = false) :
    Calls Tryz.prog 45 #[.string s, .int .i64 (k : Int)] w fun e w' => e = .returned (.tuple #[(tokAt s k).val, .int .i64 (tokEnd s k : Nat), .int .i64 (tokCode s k)]) ∧ Below w.heap.size w w' := by
  have e1 : tokAt s k = sgnTok s k := by rw [tokAt, if_neg (by rw [hl]; exact Bool.false_ne_true), if_neg (by rw [hd]; exact Bool.false_ne_true)]
  have e2 : tokEnd s k = k + (signAt s k).size := by rw [tokEnd, if_neg (by rw [hl]; exact Bool.false_ne_true), if_neg (by rw [hd]; exact Bool.false_ne_true)]
  have e3 : tokCode s k = if (signAt s k).size = 0 then 2 else 0 := by rw [tokCode, if_neg (by rw [hl]; exact Bool.false_ne_true), if_neg (by rw [hd]; exact Bool.false_ne_true)]
  rw [e1, e2, e3, sgnTok, Tok.val]
  clear e1 e2 e3
  have HL : ∀ w, Calls Tryz.prog 74 #[.int .u8 (gb s k)] w fun e w' => e = .returned (.bool false) ∧ w' = w := fun w => by
    have := letter_any (gb s k) w
    rwa [hl] at this
  have HD : ∀ w, Calls Tryz.prog 77 #[.int .u8 (gb s k)] w fun e w' => e = .returned (.bool false) ∧ w' = w := fun w => by
    have := digit_any (gb s k) w
    rwa [hd] at this
  have hix := byteAt s k hk
  have hr := fun w => specSign_at s k w hk (by omega)
  rw [← signAt_in s k hk] at hr
  have hsz := signAt_size s k hk
  generalize signAt s k = g at *
  by_cases h8 : g.size = 0
  · have hg : g = ByteArray.empty := ByteArray.size_eq_zero_iff.1 h8
    subst hg
    rw [if_pos h8]
    go_enter Tryz.func45, Tryz.ntmps45
    go_wp2_with (first | (go_at_call 74; refine (HL _).mono ?_; rintro e w' ⟨rfl, rfl⟩) | (go_at_call 77; refine (HD _).mono ?_; rintro e w' ⟨rfl, rfl⟩) | (go_at_call 80; refine (hr _).mono ?_; rintro e w' ⟨nd, rfl, rfl⟩))
    (try simp only [Exit.inBlock, Exit.then])
    refine bodyPost_ret (results_cell3 rfl _ _ w.heap.size 93 _ (0, 0) _ rfl (at_same (at_same (at_same (at_same (at_other (by exact three_first _ _ _ _) (by omega)))))) Tryz.underlying93 rfl (by kernel_rfl)) rfl ?_
    exact ⟨rfl, (((((below_drewN ((((Below.refl _ w).alloc (Nat.le_refl _) _).alloc (by simp) _).alloc (by simp; omega) _) nd).setCell (by simp) _).setCell (by simp) _).setCell (by simp) _).setCell (by simp) _).setCell (by simp) _⟩
  · rw [if_neg h8]
    have hne : g.toList.isEmpty = false := by
      cases hh : g.toList.isEmpty with
      | false => rfl
      | true =>
        have : g.data.toList = [] := by rw [← Lib.toList_data]; simpa using hh
        rw [Lib.size_eq, this] at h8
        exact absurd rfl h8
    go_enter Tryz.func45, Tryz.ntmps45
    go_wp2_with (first | (go_at_call 74; refine (HL _).mono ?_; rintro e w' ⟨rfl, rfl⟩) | (go_at_call 77; refine (HD _).mono ?_; rintro e w' ⟨rfl, rfl⟩) | (go_at_call 80; refine (hr _).mono ?_; rintro e w' ⟨nd, rfl, rfl⟩))
    go_region
    go_wp2
    (try simp only [Exit.inBlock, Exit.then])
    refine bodyPost_ret (results_cell3 rfl _ _ w.heap.size 93 _ (0, 0) _ rfl (at_drew (at_same (at_same (at_same (at_same (at_other (by exact three_first _ _ _ _) (by omega))))))) Tryz.underlying93 rfl (by kernel_rfl)) rfl ?_
    refine ⟨?_, ((((((below_drewN ((((Below.refl _ w).alloc (Nat.le_refl _) _).alloc (by simp) _).alloc (by simp; omega) _) nd).setCell (by simp) _).setCell (by simp) _).setCell (by simp) _).setCell (by simp) _).setCell (by simp) _).drew⟩
    have ec : (k : Int) + (g.size : Int) = ((k + g.size : Nat) : Int) := by omega
    rw [← ec]
    rfl
theorem one_any (s : ByteArray) (k : Nat) (w : World) (hs : s.size ≤ 1048576) (hk : k < s.size) :
    Calls Tryz.prog 45 #[.string s, .int .i64 (k : Int)] w fun e w' => e = .returned (.tuple #[(tokAt s k).val, .int .i64 (tokEnd s k : Nat), .int .i64 (tokCode s k)]) ∧ Below w.heap.size w w' := by
  cases hl : isLet (gb s k) with
  | true => exact one_name s k w hs hk hl
  | false =>
    cases hd : isDig (gb s k) with
    | true => exact one_num s k w hs hk hl hd
    | false => exact one_sign s k w hs hk hl hd
end Go.Proofs.YtjikjejfobnfnaaGreatDoor.lex
