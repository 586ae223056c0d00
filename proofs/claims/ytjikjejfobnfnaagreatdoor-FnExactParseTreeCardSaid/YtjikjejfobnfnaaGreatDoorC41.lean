/-
  The reader is made.
  The program's readers: a rune at a place, letters, digits; the tokens of a name, a number and a sign.
-/
import Derived.Test.YtjikjejfobnfnaaGreatDoorC35
import Derived.Test.YtjikjejfobnfnaaGreatDoorC08
import Derived.Laws.RangeAny
namespace Go.Proofs.YtjikjejfobnfnaaGreatDoor.imp
open Go.RowKit Go.Proofs.YtjikjejfobnfnaaGreatDoor.num Go.Proofs.YtjikjejfobnfnaaGreatDoor.lex Go.Proofs.YtjikjejfobnfnaaGreatDoor.par
set_option linter.unusedVariables false
/-- The reader's cells while its levels are laid: those above a number are there. -/
def newI (B : Nat) (v : Value) (fin : Int) (j : Nat) : Array Value :=
  #[v, .int .i64 0, .int .i64 fin, .int .i64 0, .nilIface, .nilFunc, if j < 1 then lvl B 6 else .nilFunc, if j < 2 then lvl B 5 else .nilFunc, if j < 3 then lvl B 4 else .nilFunc, if j < 4 then lvl B 3 else .nilFunc, if j < 5 then lvl B 2 else .nilFunc, if j < 6 then lvl B 1 else .nilFunc, lvl B 0]
theorem newI_step (B : Nat) (v : Value) (fin : Int) (j : Nat) (hj : j < 6) : (newI B v fin (j + 1)).setIfInBounds (5 + (j + 1)) (lvl B (6 - j)) = newI B v fin j := by
  match j, hj with
  | 0, _ => rfl
  | 1, _ => rfl
  | 2, _ => rfl
  | 3, _ => rfl
  | 4, _ => rfl
  | 5, _ => rfl
theorem newI_at (B : Nat) (v : Value) (fin : Int) (j : Nat) (hj : j < 6) : (newI B v fin (j + 1))[5 + (j + 1 + 1)]? = some (lvl B (5 - j)) ∧ ∃ u, (newI B v fin (j + 1))[5 + (j + 1)]? = some u := by
  match j, hj with
  | 0, _ => exact ⟨rfl, _, rfl⟩
  | 1, _ => exact ⟨rfl, _, rfl⟩
  | 2, _ => exact ⟨rfl, _, rfl⟩
  | 3, _ => exact ⟨rfl, _, rfl⟩
  | 4, _ => exact ⟨rfl, _, rfl⟩
  | 5, _ => exact ⟨rfl, _, rfl⟩
theorem lvl_oneCell (B k : Nat) : ∃ F xs ys, lvl B k = .func F xs ys := by
  cases k with
  | zero => exact ⟨_, _, _, rfl⟩
  | succ k => exact ⟨_, _, _, rfl⟩
set_option maxHeartbeats 4000000 in
set_option maxRecDepth 100000 in
theorem newReader_any (a : Option Addr) (n c : Nat) (fin : Int) (w : World) : Calls Tryz.prog 38 #[.slice a n c, .int .i64 fin] w fun e w' => e = .returned (.pointer (some ⟨w.heap.size, 0, none⟩)) ∧ w'.heap[w.heap.size]? = some (.cells (newI w.heap.size (.slice a n c) fin 0) 108) ∧ Below w.heap.size w w' := by
  go_enter Tryz.func38, Tryz.ntmps38
  go_wp2
  go_loopw [6] (fun i wr => ∃ j : Nat, j ≤ 6 ∧ i = .int .i64 j ∧ Hid (wr.heap[w.heap.size]? = some (.cells (newI w.heap.size (.slice a n c) fin j) 108)) ∧ Hid (Below w.heap.size w wr)) (fun i _ => (intOf i).toNat)
  case atStart => exact ⟨6, by omega, rfl, hide (one_first _ _), hide ((Below.refl _ _).alloc (Nat.le_refl _) _)⟩
  case round =>
    obtain ⟨j, hj, rfl, HZ, HB⟩ := hrel
    cases j with
    | zero =>
      go_wp2
      go_ret
      exact ⟨rfl, unhide HZ, unhide HB⟩
    | succ j =>
      obtain ⟨k1, u, k2⟩ := newI_at w.heap.size (.slice a n c) fin j (by omega)
      have c1 := cell_of (unhide HZ) k1
      have c2 := cell_of (unhide HZ) k2
      have f2 : wr.frozen? ⟨w.heap.size, 5 + (j + 1), none⟩ = false := frozen_of (unhide HZ)
      have hl : w.heap.size < wr.heap.size := (Array.getElem?_eq_some_iff.1 (unhide HZ)).1
      obtain ⟨F0, xs, ys, hF⟩ := lvl_oneCell w.heap.size (5 - j)
      rw [hF] at c1
      clear k1 k2
      go_wp2
      go_region
      all_goals go_wp2
      refine ⟨⟨j, by omega, rfl, hide ?_, hide ?_⟩, by simp [intOf]⟩
      · have e := newI_step w.heap.size (.slice a n c) fin j (by omega)
        have e2 : lvl w.heap.size (6 - j) = .func (Fn.func 59) #[.agg #[.pointer (some ⟨w.heap.size, 0, none⟩), .int .i64 ((j : Int) + 1), .func F0 xs ys]] #[] := by
          have e3 : 6 - j = (5 - j) + 1 := by omega
          have e4 : (6 - ((5 - j : Nat) : Int)) = (j : Int) + 1 := by omega
          rw [e3, lvl, hF, e4]
        rw [← e, e2]
        exact at_same (unhide HZ)
      · have k := (unhide HB).setCell (p := ⟨w.heap.size, 5 + (j + 1), none⟩) (Nat.le_refl _) (.func (Fn.func 59) #[.agg #[.pointer (some ⟨w.heap.size, 0, none⟩), .int .i64 ((j : Int) + 1), .func F0 xs ys]] #[])
        exact ⟨k.os, k.tape, k.output, k.size, k.block⟩
end Go.Proofs.YtjikjejfobnfnaaGreatDoor.imp
namespace Go.Proofs.YtjikjejfobnfnaaGreatDoor.lex
open Go.RowKit Go.Maps Go.Proofs.YtjikjejfobnfnaaGreatDoor.num
set_option linter.unusedVariables false
/-- The byte at a place as a rune, -1 past the end. -/
def rAt (s : ByteArray) (k : Nat) : Int := if k < s.size then gb s k else -1
theorem rAt_in (s : ByteArray) (k : Nat) (h : k < s.size) : rAt s k = gb s k := if_pos h
theorem rAt_out (s : ByteArray) (k : Nat) (h : ¬ k < s.size) : rAt s k = -1 := if_neg h
theorem runeAt_any (s : ByteArray) (k : Nat) (w : World) (hs : s.size ≤ 4611686018427387904) : Calls Tryz.prog 90 #[.string s, .int .i64 (k : Int)] w fun e w' => e = .returned (.int .i32 (rAt s k)) ∧ w' = w := by
  by_cases h : k < s.size
  · have hix := byteAt s k h
    have hr := gb_rng s k
    rw [rAt_in s k h]
    go_enter Tryz.func90, Tryz.ntmps90
    go_wp2
    go_ret
    exact ⟨ret_int (by omega), rfl⟩
  · have h' : (s.size : Int) ≤ (k : Int) := by omega
    rw [rAt_out s k h]
    go_enter Tryz.func90, Tryz.ntmps90
    go_wp2
    go_ret
    exact ⟨rfl, rfl⟩
theorem isLetter_any (c : Int) (w : World) : Calls Tryz.prog 91 #[.int .i32 c] w fun e w' => e = .returned (.bool (isLet c)) ∧ w' = w := by
  go_enter Tryz.func91, Tryz.ntmps91
  go_wp2
  all_goals go_ret
  all_goals (refine ⟨ret_bool ?_, rfl⟩; unfold isLet; first | (rw [eq_comm, decide_eq_true_iff]; omega) | (rw [eq_comm, decide_eq_false_iff_not]; omega) | (simp; omega) | simp_all)
theorem isDigit_any (c : Int) (w : World) : Calls Tryz.prog 92 #[.int .i32 c] w fun e w' => e = .returned (.bool (isDig c)) ∧ w' = w := by
  go_enter Tryz.func92, Tryz.ntmps92
  go_wp2
  all_goals go_ret
  all_goals (refine ⟨ret_bool ?_, rfl⟩; unfold isDig; first | (rw [eq_comm, decide_eq_true_iff]; omega) | (rw [eq_comm, decide_eq_false_iff_not]; omega) | (simp; omega) | simp_all)
theorem clone_any (s : ByteArray) (w : World) (hs : s.size ≤ 281474976710656) : Calls Tryz.prog 132 #[.string s] w fun e w' => e = .returned (.string s) ∧ Below w.heap.size w w' := by
  go_enter Tryz.func132, Tryz.ntmps132
  go_wp2_with (go_at_call 158; refine (Tryz.stringslite_Clone s _ hs).mono ?_; rintro e w1 ⟨rfl, hb⟩)
  go_ret
  exact ⟨rfl, hb⟩

/-- Results of which the first lies in a cell. -/
theorem results_cell2 {P : Program} {fn : Func} {p u : Tmp} {ty : TypeId} (h : fn.results = #[.cell p ty, .tmp u]) (tmps : Array Value) (w : World) (g : Nat) (t : TypeId) (cs : Array Value) (fr : Nat × Nat) (d : TypeDesc)
    (hp : tmps.getD p undef = .pointer (some ⟨g, 0, none⟩)) (hg : w.heap[g]? = some (.cells cs t fr))
    (hu : P.underlying ty = some d) (hd : (match d with | .struct _ | .array _ _ => true | _ => false) = true) (hi : (P.info? ty).map (·.size) = some cs.size) :
    (results fn tmps).run P w = .ok (.tuple #[.agg cs, tmps.getD u undef]) w := by
  have hp' : tmps[p]?.getD undef = .pointer (some ⟨g, 0, none⟩) := by simpa using hp
  simp [results, h, hp', asAddr, run_loadVar_row w g t ty cs fr d hg hu hd hi]
theorem f4 {w : World} {b : Nat} {a0 a1 a2 a3 : Value} {t : TypeId} (h : w.heap[b]? = some (.cells #[a0, a1, a2, a3] t)) :
    w.cell? ⟨b, 0, none⟩ = some a0 ∧ w.cell? ⟨b, 1, none⟩ = some a1 ∧ w.cell? ⟨b, 2, none⟩ = some a2 ∧ w.cell? ⟨b, 3, none⟩ = some a3 ∧ w.frozen? ⟨b, 0, none⟩ = false ∧ w.frozen? ⟨b, 1, none⟩ = false ∧ w.frozen? ⟨b, 2, none⟩ = false ∧ w.frozen? ⟨b, 3, none⟩ = false :=
  ⟨cell_of h rfl, cell_of h rfl, cell_of h rfl, cell_of h rfl, frozen_of h, frozen_of h, frozen_of h, frozen_of h⟩

set_option maxRecDepth 100000 in
theorem nameToken_long (t : ByteArray) (b n : Nat) (w : World) (h : 8 < t.size) (hs : t.size ≤ 1048576) :
    Calls Tryz.prog 93 #[.string t, .map (some b)] w fun e w' => e = .returned (.tuple #[.agg #[.int .i64 0, .int .i64 0, .string ⟨#[]⟩, .int .i64 0], .int .i64 3]) ∧ Below w.heap.size w w' := by
  have h' : 8 < (t.size : Int) := by omega
  go_enter Tryz.func93, Tryz.ntmps93
  go_wp2
  (try simp only [Exit.inBlock, Exit.then])
  refine bodyPost_ret (results_cell2 rfl _ _ w.heap.size 93 _ (0, 0) _ rfl (one_first _ _) Tryz.underlying93 rfl (by kernel_rfl)) rfl ?_
  exact ⟨rfl, (Below.refl _ _).alloc (Nat.le_refl _) _⟩

set_option maxHeartbeats 1000000 in
set_option maxRecDepth 100000 in
theorem nameToken_short (t : ByteArray) (b n : Nat) (w : World) (h : ¬ 8 < t.size) (hown : w.ownsMap Tryz.prog 9 (unitElem (H := Unit)) b n (wordD 17)) :
    Calls Tryz.prog 93 #[.string t, .map (some b)] w fun e w' => e = .returned (.tuple #[.agg #[.int .i64 (if isWord t.data.toList then 3 else 1), .int .i64 0, .string t, .int .i64 0], .int .i64 0]) ∧ Below w.heap.size w w' := by
  have h' : ¬ 8 < (t.size : Int) := by omega
  have hkey : keyOf Tryz.prog 9 (.string t) = some (.string t.data.toList) := Go.WideMaps.keyOf_string_mk Tryz.underlying9 (by unfold maxLen; omega)
  have hh := has_word t.data.toList
  have hcl := clone_any t
  cases hw : isWord t.data.toList with
  | true =>
    rw [hw] at hh
    go_enter Tryz.func93, Tryz.ntmps93
    go_wp2_with (first | (at_lookup; refine wpList_lookup_own_unit _ rfl _ _ 153 rfl 9 224 strKey Tryz.underlying153 (zeroUnit _) b n _ rfl (hown.alloc _) _ _ rfl hkey ?_; rw [hh]) | (go_at_call 132; refine (hcl _ (by omega)).mono ?_; rintro e w1 ⟨rfl, hb⟩; obtain ⟨c0, c1, c2, c3, d0, d1, d2, d3⟩ := f4 (at_below hb (two_first _ _ _) (by simp; omega))))
    (try simp only [Exit.inBlock, Exit.then])
    refine bodyPost_ret (results_cell2 rfl _ _ w.heap.size 93 _ (0, 0) _ rfl (at_same (at_same (at_same (at_same (at_below hb (two_first _ _ _) (by simp; omega)))))) Tryz.underlying93 rfl (by kernel_rfl)) rfl ?_
    have b1 : Below w.heap.size w w1 := (below_two _ _ _).trans (hb.mono (by simp; omega))
    exact ⟨rfl, (((b1.setCell (Nat.le_refl _) _).setCell (Nat.le_refl _) _).setCell (Nat.le_refl _) _).setCell (Nat.le_refl _) _⟩
  | false =>
    rw [hw] at hh
    go_enter Tryz.func93, Tryz.ntmps93
    go_wp2_with (first | (at_lookup; refine wpList_lookup_own_unit _ rfl _ _ 153 rfl 9 224 strKey Tryz.underlying153 (zeroUnit _) b n _ rfl (hown.alloc _) _ _ rfl hkey ?_; rw [hh]) | (go_at_call 132; refine (hcl _ (by omega)).mono ?_; rintro e w1 ⟨rfl, hb⟩; obtain ⟨c0, c1, c2, c3, d0, d1, d2, d3⟩ := f4 (at_below hb (two_first _ _ _) (by simp; omega))))
    (try simp only [Exit.inBlock, Exit.then])
    refine bodyPost_ret (results_cell2 rfl _ _ w.heap.size 93 _ (0, 0) _ rfl (at_same (at_same (at_same (at_same (at_below hb (two_first _ _ _) (by simp; omega)))))) Tryz.underlying93 rfl (by kernel_rfl)) rfl ?_
    have b1 : Below w.heap.size w w1 := (below_two _ _ _).trans (hb.mono (by simp; omega))
    exact ⟨rfl, (((b1.setCell (Nat.le_refl _) _).setCell (Nat.le_refl _) _).setCell (Nat.le_refl _) _).setCell (Nat.le_refl _) _⟩

theorem signToken_any (g : ByteArray) (w : World) : Calls Tryz.prog 95 #[.string g] w fun e w' =>
    e = .returned (.tuple #[.agg #[.int .i64 (if g.size = 0 then 0 else 4), .int .i64 0, .string g, .int .i64 0], .int .i64 (if g.size = 0 then 2 else 0)]) ∧ Below w.heap.size w w' := by
  by_cases h8 : g.size = 0
  · have hg : g = ByteArray.empty := ByteArray.size_eq_zero_iff.1 h8
    subst hg
    go_enter Tryz.func95, Tryz.ntmps95
    go_wp2
    (try simp only [Exit.inBlock, Exit.then])
    refine bodyPost_ret (results_cell2 rfl _ _ w.heap.size 93 _ (0, 0) _ rfl (one_first _ _) Tryz.underlying93 rfl (by kernel_rfl)) rfl ?_
    exact ⟨rfl, (Below.refl _ _).alloc (Nat.le_refl _) _⟩
  · have hne : g.toList.isEmpty = false := by
      cases hh : g.toList.isEmpty with
      | false => rfl
      | true =>
        have : g.data.toList = [] := by rw [← Lib.toList_data]; simpa using hh
        rw [Lib.size_eq, this] at h8
        exact absurd rfl h8
    simp only [if_neg h8]
    go_enter Tryz.func95, Tryz.ntmps95
    go_wp2
    (try simp only [Exit.inBlock, Exit.then])
    refine bodyPost_ret (results_cell2 rfl _ _ w.heap.size 93 _ (0, 0) _ rfl (one_first _ _) Tryz.underlying93 rfl (by kernel_rfl)) rfl ?_
    exact ⟨rfl, (Below.refl _ _).alloc (Nat.le_refl _) _⟩

theorem or_any (b : Nat) (c d : Int) (w : World) (h0 : w.cell? ⟨b, 0, none⟩ = some (.int .i64 c)) (h1 : w.cell? ⟨b, 1, none⟩ = some (.int .i64 d)) :
    Calls Tryz.prog 97 #[.slice (some ⟨b, 0, none⟩) 2 2] w fun e w' => e = .returned (.int .i64 (if c ≠ 0 then c else d)) ∧ w' = w := by
  go_enter Tryz.func97, Tryz.ntmps97
  go_wp2
  go_loop [8] (fun i => i = .int .i64 0 ∨ (i = .int .i64 1 ∧ c = 0) ∨ (i = .int .i64 2 ∧ c = 0 ∧ d = 0)) (fun i => 2 - (intOf i).toNat)
  case atStart => exact .inl rfl
  case round =>
    rcases hrel with rfl | ⟨rfl, rfl⟩ | ⟨rfl, rfl, rfl⟩
    · by_cases hc : c = 0
      · subst hc
        go_wp2
        go_round
        case rel => simp
        case measure => simp [intOf]
      · have hc' : (c != 0) = true := by simpa using hc
        go_wp2
        go_ret
        exact ⟨rfl, rfl⟩
    · by_cases hd : d = 0
      · subst hd
        go_wp2
        go_round
        case rel => simp
        case measure => simp [intOf]
      · have hd' : (d != 0) = true := by simpa using hd
        go_wp2
        go_ret
        exact ⟨rfl, rfl⟩
    · go_wp2
      go_ret
      exact ⟨rfl, rfl⟩

theorem dval_mono (t : ByteArray) (ha : allDig t) (i j : Nat) (hij : i ≤ j) (hj : j ≤ t.size) : dval (t.data.toList.take i) 0 ≤ dval (t.data.toList.take j) 0 := by
  induction j with
  | zero => obtain rfl : i = 0 := by omega
            exact Nat.le_refl _
  | succ j ih =>
    rcases Nat.eq_or_lt_of_le hij with rfl | hlt
    · exact Nat.le_refl _
    · have h1 := ih (by omega) (by omega)
      have h2 := dval_succ t j (by omega) (ha j (by omega))
      have h3 := (isDig_iff _).1 (ha j (by omega))
      omega
theorem dval_ge (t : ByteArray) (ha : allDig t) (h0 : 49 ≤ gb t 0) (i : Nat) (h : i + 1 ≤ t.size) : 10 ^ i ≤ dval (t.data.toList.take (i + 1)) 0 := by
  induction i with
  | zero =>
    have h2 := dval_succ t 0 (by omega) (ha 0 (by omega))
    have e : dval (t.data.toList.take 0) 0 = 0 := rfl
    rw [e] at h2
    simp only [Nat.pow_zero]
    omega
  | succ i ih =>
    have h1 := ih (by omega)
    have h2 := dval_succ t (i + 1) (by omega) (ha _ (by omega))
    have h3 := (isDig_iff _).1 (ha (i + 1) (by omega))
    rw [Nat.pow_succ]
    omega
theorem value_big (t : ByteArray) (ha : allDig t) (j : Nat) (hj : j ≤ t.size) (h : 2147483647 < dval (t.data.toList.take j) 0) : value t = -1 := by
  have h1 := dval_mono t ha j t.size hj (Nat.le_refl _)
  rw [dval_all] at h1
  unfold value
  split
  · rfl
  · rw [if_pos (by omega)]
theorem value_fit (t : ByteArray) (ha : allDig t) (h0 : ¬ (1 < t.size ∧ gb t 0 = 48)) (h : ¬ 2147483647 < dval t.data.toList 0) : value t = (dval t.data.toList 0 : Int) := by
  have h10 : ¬ 10 < t.size := by
    intro h10
    have h2 := (isDig_iff _).1 (ha 0 (by omega))
    have h3 : 10 ^ 10 ≤ dval (t.data.toList.take 11) 0 := dval_ge t ha (by omega) 10 (by omega)
    have h4 := dval_mono t ha 11 t.size (by omega) (Nat.le_refl _)
    rw [dval_all] at h4
    omega
  unfold value
  rw [if_neg (by omega), if_neg h]

set_option maxRecDepth 100000 in
theorem numToken_zero (t : ByteArray) (w : World) (hs : t.size ≤ 1048576) (h1 : 1 < t.size) (h48 : gb t 0 = 48) :
    Calls Tryz.prog 94 #[.string t] w fun e w' => e = .returned (.tuple #[.agg #[.int .i64 0, .int .i64 0, .string ⟨#[]⟩, .int .i64 0], .int .i64 4]) ∧ Below w.heap.size w w' := by
  have h1' : 1 < (t.size : Int) := by omega
  have hix0' : ∀ w, (Instr.index 9 (.string t) (.int .i64 0)).run Tryz.prog w = .ok (.int .u8 48) w := by
    have := byteAt t 0 (by omega)
    rw [h48] at this
    exact this
  go_enter Tryz.func94, Tryz.ntmps94
  go_wp2
  (try simp only [Exit.inBlock, Exit.then])
  refine bodyPost_ret (results_cell2 rfl _ _ w.heap.size 93 _ (0, 0) _ rfl (one_first _ _) Tryz.underlying93 rfl (by kernel_rfl)) rfl ?_
  exact ⟨rfl, (Below.refl _ _).alloc (Nat.le_refl _) _⟩

set_option maxHeartbeats 1000000 in
set_option maxRecDepth 100000 in
theorem numToken_run (t : ByteArray) (w : World) (hs : t.size ≤ 1048576) (h0 : 0 < t.size) (ha : allDig t) (h1 : ¬ (1 < t.size ∧ gb t 0 = 48)) :
    Calls Tryz.prog 94 #[.string t] w fun e w' => ((value t < 0 ∧ e = .returned (.tuple #[.agg #[.int .i64 0, .int .i64 0, .string ⟨#[]⟩, .int .i64 0], .int .i64 4])) ∨
      (0 ≤ value t ∧ e = .returned (.tuple #[.agg #[.int .i64 2, .int .i64 0, .string t, .int .i64 (value t)], .int .i64 0]))) ∧ Below w.heap.size w w' := by
  have hix0 := byteAt t 0 h0
  have hix0' : ∀ w, (Instr.index 9 (.string t) (.int .i64 0)).run Tryz.prog w = .ok (.int .u8 (gb t 0)) w := hix0
  have hcl := clone_any t
  clear hix0
  have key : (gb t 0 == 48) = false ∨ ((gb t 0 == 48) = true ∧ ¬ 1 < (t.size : Int)) := by
    by_cases h : gb t 0 = 48
    · exact .inr ⟨by simpa using h, by omega⟩
    · exact .inl (by simpa using h)
  rcases key with k1 | ⟨k1, k2⟩
  · go_enter Tryz.func94, Tryz.ntmps94
    go_wp2
    clear hix0'
    go_loopw [4, 6] (fun v u wr => ∃ j : Nat, j ≤ t.size ∧ v = .int .i64 (dval (t.data.toList.take j) 0 : Nat) ∧ dval (t.data.toList.take j) 0 ≤ 2147483647 ∧ wr = (w.alloc (.cells #[.int .i64 0, .int .i64 0, .string ⟨#[]⟩, .int .i64 0] 93)).iter t j) (fun _ _ wr => t.size - wr.iterPos (w.alloc (.cells #[.int .i64 0, .int .i64 0, .string ⟨#[]⟩, .int .i64 0] 93)).heap.size)
    case atStart => exact ⟨0, by omega, rfl, by simp [dval], rfl⟩
    case round =>
      obtain ⟨j, hj, rfl, hv, rfl⟩ := hrel
      by_cases hlt : j < t.size
      · have hd := (isDig_iff _).1 (ha j hlt)
        have hnx : ∀ ty, (Instr.next (.pointer (some ⟨w.heap.size + 1, 0, none⟩)) true ty).run Tryz.prog ((w.alloc (.cells #[.int .i64 0, .int .i64 0, .string ⟨#[]⟩, .int .i64 0] 93)).iter t j) = .ok (.tuple #[.bool true, .int .i64 j, .int .i32 (gb t j)]) ((w.alloc (.cells #[.int .i64 0, .int .i64 0, .string ⟨#[]⟩, .int .i64 0] 93)).iter t (j + 1)) := fun ty => by
          have e := gb_get t j hlt
          have := run_next_ascii (P := Tryz.prog) (w.alloc (.cells #[.int .i64 0, .int .i64 0, .string ⟨#[]⟩, .int .i64 0] 93)) t j ty hlt (by omega)
          rw [e] at this
          simpa using this
        have e := dval_succ t j hlt (ha j hlt)
        have hbig := value_big t ha (j + 1) (by omega)
        generalize dval (t.data.toList.take j) 0 = d0 at *
        obtain ⟨W2, hW2⟩ : ∃ W2, W2 = (w.alloc (.cells #[.int .i64 0, .int .i64 0, .string ⟨#[]⟩, .int .i64 0] 93)).iter t (j + 1) := ⟨_, rfl⟩
        rw [← hW2] at hnx
        have q : W2.heap[w.heap.size]? = some (.cells #[.int .i64 0, .int .i64 0, .string ⟨#[]⟩, .int .i64 0] 93) := by
          rw [hW2]
          exact at_alloc (one_first _ _)
        have b2 : Below w.heap.size w W2 := by
          rw [hW2]
          exact below_two _ _ _
        have HW := hide hW2
        have HQ := hide q
        have HB := hide b2
        obtain ⟨c0, c1, c2, c3, g0, g1, g2, g3⟩ := f4 q
        clear hW2 q b2
        by_cases hgt : 2147483647 < (d0 : Int) * 10 + (gb t j - 48)
        · have hvv := hbig (by omega)
          go_wp2
          (try simp only [Exit.inBlock, Exit.then])
          refine bodyPost_ret (results_cell2 rfl _ _ w.heap.size 93 _ (0, 0) _ rfl (at_same (at_same (at_same (at_same (unhide HQ))))) Tryz.underlying93 rfl (by kernel_rfl)) rfl ?_
          exact ⟨.inl ⟨by omega, rfl⟩, ((((unhide HB).setCell (Nat.le_refl _) _).setCell (Nat.le_refl _) _).setCell (Nat.le_refl _) _).setCell (Nat.le_refl _) _⟩
        · have hgt' : (d0 : Int) * 10 + (gb t j - 48) ≤ 2147483647 := by omega
          clear hgt hbig
          go_wp2
          go_roundw
          case rel => exact ⟨j + 1, by omega, by rw [e], by omega, unhide HW⟩
          case measure =>
            rw [unhide HW, World.iterPos_iter, World.iterPos_iter]
            omega
      · obtain rfl : j = t.size := by omega
        rw [dval_all] at hv
        have hvv := value_fit t ha h1 (by omega)
        have hnx : ∀ ty, (Instr.next (.pointer (some ⟨w.heap.size + 1, 0, none⟩)) true ty).run Tryz.prog ((w.alloc (.cells #[.int .i64 0, .int .i64 0, .string ⟨#[]⟩, .int .i64 0] 93)).iter t t.size) = .ok (.tuple #[.bool false]) ((w.alloc (.cells #[.int .i64 0, .int .i64 0, .string ⟨#[]⟩, .int .i64 0] 93)).iter t t.size) := fun ty => by
          have := run_next_end (P := Tryz.prog) (w.alloc (.cells #[.int .i64 0, .int .i64 0, .string ⟨#[]⟩, .int .i64 0] 93)) t t.size ty (by omega)
          simpa using this
        have b2 : Below w.heap.size w ((w.alloc (.cells #[.int .i64 0, .int .i64 0, .string ⟨#[]⟩, .int .i64 0] 93)).iter t t.size) := below_two _ _ _
        have q : ((w.alloc (.cells #[.int .i64 0, .int .i64 0, .string ⟨#[]⟩, .int .i64 0] 93)).iter t t.size).heap[w.heap.size]? = some (.cells #[.int .i64 0, .int .i64 0, .string ⟨#[]⟩, .int .i64 0] 93) := at_alloc (one_first _ _)
        have q2 : w.heap.size < ((w.alloc (.cells #[.int .i64 0, .int .i64 0, .string ⟨#[]⟩, .int .i64 0] 93)).iter t t.size).heap.size := (Array.getElem?_eq_some_iff.1 q).1
        generalize (w.alloc (.cells #[.int .i64 0, .int .i64 0, .string ⟨#[]⟩, .int .i64 0] 93)).iter t t.size = W2 at *
        have HQ := hide q
        have HB := hide b2
        have HQ2 := hide q2
        clear q b2 q2
        rw [dval_all]
        go_wp2_with (go_at_call 132; refine (hcl _ (by omega)).mono ?_; rintro e w1 ⟨rfl, hb⟩; have q3 := at_below hb (unhide HQ) (unhide HQ2); have HQ3 := hide q3; obtain ⟨c0, c1, c2, c3, g0, g1, g2, g3⟩ := f4 q3; clear q3)
        (try simp only [Exit.inBlock, Exit.then])
        refine bodyPost_ret (results_cell2 rfl _ _ w.heap.size 93 _ (0, 0) _ rfl (at_same (at_same (at_same (at_same (unhide HQ3))))) Tryz.underlying93 rfl (by kernel_rfl)) rfl ?_
        have b1 : Below w.heap.size w w1 := (unhide HB).trans (hb.mono (Nat.le_of_lt (unhide HQ2)))
        refine ⟨.inr ⟨by omega, ?_⟩, (((b1.setCell (Nat.le_refl _) _).setCell (Nat.le_refl _) _).setCell (Nat.le_refl _) _).setCell (Nat.le_refl _) _⟩
        rw [hvv]
        rfl
  · go_enter Tryz.func94, Tryz.ntmps94
    go_wp2
    clear hix0'
    go_loopw [4, 6] (fun v u wr => ∃ j : Nat, j ≤ t.size ∧ v = .int .i64 (dval (t.data.toList.take j) 0 : Nat) ∧ dval (t.data.toList.take j) 0 ≤ 2147483647 ∧ wr = (w.alloc (.cells #[.int .i64 0, .int .i64 0, .string ⟨#[]⟩, .int .i64 0] 93)).iter t j) (fun _ _ wr => t.size - wr.iterPos (w.alloc (.cells #[.int .i64 0, .int .i64 0, .string ⟨#[]⟩, .int .i64 0] 93)).heap.size)
    case atStart => exact ⟨0, by omega, rfl, by simp [dval], rfl⟩
    case round =>
      obtain ⟨j, hj, rfl, hv, rfl⟩ := hrel
      by_cases hlt : j < t.size
      · have hd := (isDig_iff _).1 (ha j hlt)
        have hnx : ∀ ty, (Instr.next (.pointer (some ⟨w.heap.size + 1, 0, none⟩)) true ty).run Tryz.prog ((w.alloc (.cells #[.int .i64 0, .int .i64 0, .string ⟨#[]⟩, .int .i64 0] 93)).iter t j) = .ok (.tuple #[.bool true, .int .i64 j, .int .i32 (gb t j)]) ((w.alloc (.cells #[.int .i64 0, .int .i64 0, .string ⟨#[]⟩, .int .i64 0] 93)).iter t (j + 1)) := fun ty => by
          have e := gb_get t j hlt
          have := run_next_ascii (P := Tryz.prog) (w.alloc (.cells #[.int .i64 0, .int .i64 0, .string ⟨#[]⟩, .int .i64 0] 93)) t j ty hlt (by omega)
          rw [e] at this
          simpa using this
        have e := dval_succ t j hlt (ha j hlt)
        have hbig := value_big t ha (j + 1) (by omega)
        generalize dval (t.data.toList.take j) 0 = d0 at *
        obtain ⟨W2, hW2⟩ : ∃ W2, W2 = (w.alloc (.cells #[.int .i64 0, .int .i64 0, .string ⟨#[]⟩, .int .i64 0] 93)).iter t (j + 1) := ⟨_, rfl⟩
        rw [← hW2] at hnx
        have q : W2.heap[w.heap.size]? = some (.cells #[.int .i64 0, .int .i64 0, .string ⟨#[]⟩, .int .i64 0] 93) := by
          rw [hW2]
          exact at_alloc (one_first _ _)
        have b2 : Below w.heap.size w W2 := by
          rw [hW2]
          exact below_two _ _ _
        have HW := hide hW2
        have HQ := hide q
        have HB := hide b2
        obtain ⟨c0, c1, c2, c3, g0, g1, g2, g3⟩ := f4 q
        clear hW2 q b2
        by_cases hgt : 2147483647 < (d0 : Int) * 10 + (gb t j - 48)
        · have hvv := hbig (by omega)
          go_wp2
          (try simp only [Exit.inBlock, Exit.then])
          refine bodyPost_ret (results_cell2 rfl _ _ w.heap.size 93 _ (0, 0) _ rfl (at_same (at_same (at_same (at_same (unhide HQ))))) Tryz.underlying93 rfl (by kernel_rfl)) rfl ?_
          exact ⟨.inl ⟨by omega, rfl⟩, ((((unhide HB).setCell (Nat.le_refl _) _).setCell (Nat.le_refl _) _).setCell (Nat.le_refl _) _).setCell (Nat.le_refl _) _⟩
        · have hgt' : (d0 : Int) * 10 + (gb t j - 48) ≤ 2147483647 := by omega
          clear hgt hbig
          go_wp2
          go_roundw
          case rel => exact ⟨j + 1, by omega, by rw [e], by omega, unhide HW⟩
          case measure =>
            rw [unhide HW, World.iterPos_iter, World.iterPos_iter]
            omega
      · obtain rfl : j = t.size := by omega
        rw [dval_all] at hv
        have hvv := value_fit t ha h1 (by omega)
        have hnx : ∀ ty, (Instr.next (.pointer (some ⟨w.heap.size + 1, 0, none⟩)) true ty).run Tryz.prog ((w.alloc (.cells #[.int .i64 0, .int .i64 0, .string ⟨#[]⟩, .int .i64 0] 93)).iter t t.size) = .ok (.tuple #[.bool false]) ((w.alloc (.cells #[.int .i64 0, .int .i64 0, .string ⟨#[]⟩, .int .i64 0] 93)).iter t t.size) := fun ty => by
          have := run_next_end (P := Tryz.prog) (w.alloc (.cells #[.int .i64 0, .int .i64 0, .string ⟨#[]⟩, .int .i64 0] 93)) t t.size ty (by omega)
          simpa using this
        have b2 : Below w.heap.size w ((w.alloc (.cells #[.int .i64 0, .int .i64 0, .string ⟨#[]⟩, .int .i64 0] 93)).iter t t.size) := below_two _ _ _
        have q : ((w.alloc (.cells #[.int .i64 0, .int .i64 0, .string ⟨#[]⟩, .int .i64 0] 93)).iter t t.size).heap[w.heap.size]? = some (.cells #[.int .i64 0, .int .i64 0, .string ⟨#[]⟩, .int .i64 0] 93) := at_alloc (one_first _ _)
        have q2 : w.heap.size < ((w.alloc (.cells #[.int .i64 0, .int .i64 0, .string ⟨#[]⟩, .int .i64 0] 93)).iter t t.size).heap.size := (Array.getElem?_eq_some_iff.1 q).1
        generalize (w.alloc (.cells #[.int .i64 0, .int .i64 0, .string ⟨#[]⟩, .int .i64 0] 93)).iter t t.size = W2 at *
        have HQ := hide q
        have HB := hide b2
        have HQ2 := hide q2
        clear q b2 q2
        rw [dval_all]
        go_wp2_with (go_at_call 132; refine (hcl _ (by omega)).mono ?_; rintro e w1 ⟨rfl, hb⟩; have q3 := at_below hb (unhide HQ) (unhide HQ2); have HQ3 := hide q3; obtain ⟨c0, c1, c2, c3, g0, g1, g2, g3⟩ := f4 q3; clear q3)
        (try simp only [Exit.inBlock, Exit.then])
        refine bodyPost_ret (results_cell2 rfl _ _ w.heap.size 93 _ (0, 0) _ rfl (at_same (at_same (at_same (at_same (unhide HQ3))))) Tryz.underlying93 rfl (by kernel_rfl)) rfl ?_
        have b1 : Below w.heap.size w w1 := (unhide HB).trans (hb.mono (Nat.le_of_lt (unhide HQ2)))
        refine ⟨.inr ⟨by omega, ?_⟩, (((b1.setCell (Nat.le_refl _) _).setCell (Nat.le_refl _) _).setCell (Nat.le_refl _) _).setCell (Nat.le_refl _) _⟩
        rw [hvv]
        rfl

/-- The program's token of a number. -/
theorem numToken_any (t : ByteArray) (w : World) (hs : t.size ≤ 1048576) (h0 : 0 < t.size) (ha : allDig t) :
    Calls Tryz.prog 94 #[.string t] w fun e w' => ((value t < 0 ∧ e = .returned (.tuple #[.agg #[.int .i64 0, .int .i64 0, .string ⟨#[]⟩, .int .i64 0], .int .i64 4])) ∨
      (0 ≤ value t ∧ e = .returned (.tuple #[.agg #[.int .i64 2, .int .i64 0, .string t, .int .i64 (value t)], .int .i64 0]))) ∧ Below w.heap.size w w' := by
  by_cases h1 : 1 < t.size ∧ gb t 0 = 48
  · refine (numToken_zero t w hs h1.1 h1.2).mono ?_
    rintro e w' ⟨rfl, hb⟩
    have : value t = -1 := by rw [value, if_pos (.inr h1)]
    exact ⟨.inl ⟨by omega, rfl⟩, hb⟩
  · exact numToken_run t w hs h0 ha h1
end Go.Proofs.YtjikjejfobnfnaaGreatDoor.lex
