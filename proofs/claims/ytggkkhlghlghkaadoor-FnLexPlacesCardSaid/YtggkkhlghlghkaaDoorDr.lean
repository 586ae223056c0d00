/-
  A drawn text: whatever the code, a string of at most some thousand bytes; nothing that was there turns.
-/
import Derived.Test.YtggkkhlghlghkaaDoorOp
import Derived.Test.YtggkkhlghlghkaaDoorSt
namespace Go.Proofs.YtggkkhlghlghkaaDoor.draw
open Go.RowKit Go.Proofs.YtggkkhlghlghkaaDoor.num
set_option linter.unusedVariables false

theorem St.later {w0 w w' : World} {r B : Nat} (h : St w0 r B w) (hb : Below w.heap.size w w') : St w0 r B w' := by
  obtain ⟨k, hk, hr, hkp, hs⟩ := h
  exact ⟨k, hk, hr.below hb, hkp.trans (Kept.of_below hb), hs⟩
theorem St.alloc {w0 w : World} {r B : Nat} (h : St w0 r B w) (o : Obj) : St w0 r B (w.alloc o) := St.later h ((Below.refl _ _).alloc (Nat.le_refl _) _)
/-- A pick, and what else it leaves alone. -/
theorem pick_kp (w0 w : World) (r B : Nat) (n : Nat) (h : St w0 r B w) (hk : B ≤ 1000000000000) (hn : 1 ≤ n) (hn2 : n ≤ 65536) :
    Calls Tryd.prog 25 #[.pointer (some ⟨r, 0, none⟩), .int .i64 (n : Int)] w fun e w' => ∃ v : Nat, e = .returned (.int .i64 (v : Int)) ∧ v < n ∧ St w0 r (B + 1) w' ∧ Kept r w w' ∧ r < w.heap.size := by
  obtain ⟨k, hkB, hr, hkp, hs⟩ := h
  refine (pick_any w r k n hr (by omega) (by omega) (by omega)).mono ?_
  rintro e w' ⟨v, rfl, v0, v1, hr', hkp'⟩
  obtain ⟨v, rfl⟩ := Int.eq_ofNat_of_zero_le v0
  exact ⟨v, rfl, by omega, ⟨k + 1, by omega, hr', hkp.trans hkp', hs⟩, hkp', hr.1⟩

/-- A short string. -/
def short : Value → Bool
  | .string x => decide (x.size ≤ 20)
  | _ => false
theorem short_at (a : Array Value) (h : a.toList.all short = true) (i : Nat) (hi : i < a.size) : ∃ x : ByteArray, a[i]? = some (.string x) ∧ x.size ≤ 20 := by
  have hm : a[i] ∈ a.toList := Array.mem_def.1 (Array.getElem_mem hi)
  have hs := List.all_eq_true.1 h a[i] hm
  rw [Array.getElem?_eq_getElem hi]
  cases hv : a[i] with
  | string x => rw [hv] at hs; exact ⟨x, rfl, by simpa [short] using hs⟩
  | _ => rw [hv] at hs; cases hs
/-- A cell of a row of short strings that was laid ahead of a pick. -/
theorem short_cell {w w' : World} {r : Nat} (a : Array Value) (h : a.toList.all short = true) (hk : Kept r (w.alloc (.cells a 9)) w') (hr : r < w.heap.size) (i : Nat) (hi : i < a.size) : ∃ x : ByteArray, w'.cell? ⟨w.heap.size, i, none⟩ = some (.string x) ∧ x.size ≤ 20 := by
  obtain ⟨x, hx, hs⟩ := short_at a h i hi
  refine ⟨x, ?_, hs⟩
  rw [hk.cell (p := ⟨w.heap.size, i, none⟩) (by simp) (by simp; omega)]
  exact lex.cell_of (lex.one_first w _) hx

set_option maxHeartbeats 1000000 in
set_option maxRecDepth 100000 in
theorem odd_any (w0 w : World) (r B : Nat) (h : St w0 r B w) (hk : B ≤ 900000000000) :
    Calls Tryd.prog 42 #[.pointer (some ⟨r, 0, none⟩)] w fun e w' => ∃ x : ByteArray, e = .returned (.string x) ∧ x.size ≤ 20 ∧ St w0 r (B + 1) w' := by
  have hr : r < w.heap.size := by obtain ⟨k, _, hr, _⟩ := h; exact hr.1
  have H := hide h
  clear h
  go_enter Tryd.func42, Tryd.ntmps42
  go_wp2_with fail
  refine (pick_kp w0 _ r B 15 (St.alloc (unhide H) _) (by omega) (by omega) (by omega)).mono ?_
  rintro e w1 ⟨v, rfl, hv, hs, hkp, _⟩
  obtain ⟨x, hx, hxs⟩ := short_cell _ rfl hkp hr v hv
  have H1 := hide hs
  clear hs hkp H
  go_wp2
  go_ret
  exact ⟨x, rfl, hxs, unhide H1⟩

set_option maxHeartbeats 1000000 in
set_option maxRecDepth 100000 in
theorem word_any (w0 w : World) (r B : Nat) (h : St w0 r B w) (hk : B ≤ 900000000000) :
    Calls Tryd.prog 41 #[.pointer (some ⟨r, 0, none⟩)] w fun e w' => ∃ x : ByteArray, e = .returned (.string x) ∧ x.size ≤ 20 ∧ St w0 r (B + 2) w' := by
  have H := hide h
  clear h
  go_enter Tryd.func41, Tryd.ntmps41
  go_wp2_with fail
  refine (pick_kp w0 _ r B 8 (unhide H) (by omega) (by omega) (by omega)).mono ?_
  rintro e w1 ⟨v, rfl, hv, hs, _, _⟩
  have hr : r < w1.heap.size := by obtain ⟨k, _, hr, _⟩ := hs; exact hr.1
  clear H
  have H := hide hs
  clear hs
  by_cases h2 : (v : Int) < 2
  · go_wp2_with fail
    refine (pick_kp w0 _ r (B + 1) 17 (St.alloc (unhide H) _) (by omega) (by omega) (by omega)).mono ?_
    rintro e w2 ⟨u, rfl, hu, hs, hkp, _⟩
    obtain ⟨x, hx, hxs⟩ := short_cell _ rfl hkp hr u hu
    have H1 := hide hs
    clear hs hkp H
    go_wp2
    go_ret
    exact ⟨x, rfl, hxs, unhide H1⟩
  by_cases h4 : (v : Int) < 4
  · go_wp2_with fail
    refine (pick_kp w0 _ r (B + 1) 5 (St.alloc (unhide H) _) (by omega) (by omega) (by omega)).mono ?_
    rintro e w2 ⟨u, rfl, hu, hs, hkp, _⟩
    obtain ⟨x, hx, hxs⟩ := short_cell _ rfl hkp hr u hu
    have H1 := hide hs
    clear hs hkp H
    go_wp2
    go_ret
    exact ⟨x, rfl, hxs, unhide H1⟩
  by_cases h5 : v = 4
  · subst h5
    go_wp2_with fail
    refine (pick_kp w0 _ r (B + 1) 4 (St.alloc (unhide H) _) (by omega) (by omega) (by omega)).mono ?_
    rintro e w2 ⟨u, rfl, hu, hs, hkp, _⟩
    obtain ⟨x, hx, hxs⟩ := short_cell _ rfl hkp hr u hu
    have H1 := hide hs
    clear hs hkp H
    go_wp2
    go_ret
    exact ⟨x, rfl, hxs, unhide H1⟩
  · have h5' : ((v : Int) == 4) = false := by simp; omega
    go_wp2_with fail
    refine (lex.signs_any _).mono ?_
    rintro e w2 ⟨rfl, rfl⟩
    go_wp2_with fail
    refine (pick_kp w0 _ r (B + 1) 30 (St.alloc (unhide H) _) (by omega) (by omega) (by omega)).mono ?_
    rintro e w2 ⟨u, rfl, hu, hs, hkp, _⟩
    obtain ⟨x, hx, hxs⟩ := short_cell _ rfl hkp hr u hu
    have H1 := hide hs
    clear hs hkp H
    go_wp2
    go_ret
    exact ⟨x, rfl, hxs, unhide H1⟩

set_option maxHeartbeats 1000000 in
set_option maxRecDepth 100000 in
theorem many_any (x : ByteArray) (n : Nat) (hx : x.size = 1) (hn : n ≤ 4000) (w : World) :
    Calls Tryd.prog 26 #[.string x, .int .i64 (n : Int)] w fun e w' => ∃ y : ByteArray, e = .returned (.string y) ∧ y.size ≤ 4000 ∧ w' = w := by
  go_enter Tryd.func26, Tryd.ntmps26
  go_wp2
  go_loop [0, 1, 5] (fun s i o => ∃ (t y : ByteArray) (j : Nat), s = .string t ∧ i = .int .i64 j ∧ o = .string y ∧ y.size + j * t.size ≤ 4000 ∧ 1 ≤ t.size ∧ t.size ≤ 8000 ∧ (0 < j → t.size ≤ 4000)) (fun _ i _ => (intOf i).toNat)
  case atStart => exact ⟨x, ⟨#[]⟩, n, rfl, rfl, rfl, by rw [hx]; simp [ByteArray.size]; omega, by omega, by omega, fun _ => by omega⟩
  case round =>
    obtain ⟨t, y, j, rfl, rfl, rfl, h1, h2, h3, h4⟩ := hrel
    by_cases hj : 0 < j
    · have h5 := h4 hj
      have hj4 : j ≤ 4000 := by have := Nat.le_mul_of_pos_right j h2; omega
      have hm : j * t.size = (j / 2) * (2 * t.size) + (j % 2) * t.size := by
        have e := Nat.div_add_mod j 2
        calc j * t.size = (2 * (j / 2) + j % 2) * t.size := by rw [e]
          _ = (j / 2) * (2 * t.size) + (j % 2) * t.size := by rw [Nat.add_mul, Nat.mul_comm 2 (j / 2), Nat.mul_assoc]
      have e2 : (j / 2) * (t.size + t.size) = (j / 2) * (2 * t.size) := by rw [Nat.two_mul]
      have e3 : 0 < j / 2 → 2 * t.size ≤ (j / 2) * (2 * t.size) := fun h => Nat.le_mul_of_pos_left _ h
      by_cases ho : j % 2 = 1
      · have e1 : j % 2 = 1 := ho
        have e4 : (j : Int) % 2 = 1 := by omega
        have s1 : ¬ (9223372036854775807 < y.size + t.size) := by omega
        have s2 : ¬ (9223372036854775807 < t.size + t.size) := by omega
        rw [e1] at hm
        go_wp2
        go_round
        case rel => exact ⟨t ++ t, y ++ t, j / 2, rfl, by go_num, rfl, by rw [ByteArray.size_append, ByteArray.size_append, e2]; omega, by rw [ByteArray.size_append]; omega, by rw [ByteArray.size_append]; omega, fun h => by rw [ByteArray.size_append]; have := e3 h; omega⟩
        case measure => simp [intOf]; omega
      · have e1 : j % 2 = 0 := by omega
        have e4 : (j : Int) % 2 = 0 := by omega
        have s1 : ¬ (9223372036854775807 < y.size + t.size) := by omega
        have s2 : ¬ (9223372036854775807 < t.size + t.size) := by omega
        rw [e1] at hm
        go_wp2
        go_round
        case rel => exact ⟨t ++ t, y, j / 2, rfl, by go_num, rfl, by rw [ByteArray.size_append, e2]; omega, by rw [ByteArray.size_append]; omega, by rw [ByteArray.size_append]; omega, fun h => by rw [ByteArray.size_append]; have := e3 h; omega⟩
        case measure => simp [intOf]; omega
    · obtain rfl : j = 0 := by omega
      go_wp2
      go_ret
      exact ⟨y, rfl, by omega, rfl⟩

set_option maxHeartbeats 2000000 in
set_option maxRecDepth 100000 in
theorem text_any (w0 w : World) (r B : Nat) (h : St w0 r B w) (hk : B ≤ 800000000000) :
    Calls Tryd.prog 27 #[.pointer (some ⟨r, 0, none⟩)] w fun e w' => ∃ x : ByteArray, e = .returned (.string x) ∧ x.size ≤ 4000 ∧ St w0 r (B + 100) w' := by
  have H := hide h
  clear h
  go_enter Tryd.func27, Tryd.ntmps27
  go_wp2_with fail
  refine (pick_kp w0 _ r B 16 (unhide H) (by omega) (by omega) (by omega)).mono ?_
  rintro e w1 ⟨v, rfl, hv, hs, _, _⟩
  have HS := hide hs
  clear H hs
  go_wp2
  go_loopw [3, 4] (fun o i wr => ∃ (y : ByteArray) (j : Nat), o = .string y ∧ i = .int .i64 j ∧ j ≤ 15 ∧ y.size + j * 60 ≤ 1000 ∧ Hid (St w0 r (B + 1 + 5 * (15 - j)) wr)) (fun _ i _ => (intOf i).toNat)
  case atStart => exact ⟨⟨#[]⟩, v, rfl, rfl, by omega, by simp [ByteArray.size]; omega, hide (St.more (unhide HS) (by omega))⟩
  case round =>
    obtain ⟨y, j, rfl, rfl, hj, hsz, H⟩ := hrel
    by_cases h0 : 0 < j
    · go_wp2_with fail
      refine (word_any w0 _ r _ (unhide H) (by omega)).mono ?_
      rintro e w2 ⟨x1, rfl, hx1, hs⟩
      have H2 := hide hs
      clear hs H
      have s1 : ¬ (9223372036854775807 < y.size + x1.size) := by omega
      go_wp2_with fail
      refine (pick_kp w0 _ r _ 20 (unhide H2) (by omega) (by omega) (by omega)).mono ?_
      rintro e w3 ⟨u, rfl, hu, hs, _, _⟩
      have H3 := hide hs
      clear hs H2
      by_cases hu0 : u = 0
      · subst hu0
        go_wp2_with fail
        refine (odd_any w0 _ r _ (unhide H3) (by omega)).mono ?_
        rintro e w4 ⟨x2, rfl, hx2, hs⟩
        have hr : r < w4.heap.size := by obtain ⟨k, _, hr, _⟩ := hs; exact hr.1
        have H4 := hide hs
        clear hs H3
        have s2 : ¬ (9223372036854775807 < y.size + x1.size + x2.size) := by omega
        go_wp2_with fail
        refine (pick_kp w0 _ r _ 5 (St.alloc (unhide H4) _) (by omega) (by omega) (by omega)).mono ?_
        rintro e w5 ⟨q, rfl, hq, hs, hkp, _⟩
        obtain ⟨x3, hx3, hxs3⟩ := short_cell _ rfl hkp hr q hq
        have H5 := hide hs
        clear hs hkp H4
        have s3 : ¬ (9223372036854775807 < y.size + x1.size + x2.size + x3.size) := by omega
        go_wp2
        go_roundw
        case rel => exact ⟨y ++ x1 ++ x2 ++ x3, j - 1, rfl, by go_num, by omega, by simp [ByteArray.size_append]; omega, hide (St.more (unhide H5) (by omega))⟩
        case measure => simp [intOf]; omega
      · have hu1 : ((u : Int) == 0) = false := by simp; omega
        have hr : r < w3.heap.size := by obtain ⟨k, _, hr, _⟩ := unhide H3; exact hr.1
        go_wp2_with fail
        refine (pick_kp w0 _ r _ 5 (St.alloc (unhide H3) _) (by omega) (by omega) (by omega)).mono ?_
        rintro e w5 ⟨q, rfl, hq, hs, hkp, _⟩
        obtain ⟨x3, hx3, hxs3⟩ := short_cell _ rfl hkp hr q hq
        have H5 := hide hs
        clear hs hkp H3
        have s3 : ¬ (9223372036854775807 < y.size + x1.size + x3.size) := by omega
        go_wp2
        go_roundw
        case rel => exact ⟨y ++ x1 ++ x3, j - 1, rfl, by go_num, by omega, by simp [ByteArray.size_append]; omega, hide (St.more (unhide H5) (by omega))⟩
        case measure => simp [intOf]; omega
    · obtain rfl : j = 0 := by omega
      go_wp2
      go_ret
      exact ⟨y, rfl, by omega, St.more (unhide H) (by omega)⟩

set_option maxHeartbeats 2000000 in
set_option maxRecDepth 100000 in
/-- A drawn text. -/
theorem drawText_any (w : World) (a : Option Addr) (len cap : Nat) (h : Code8 w a len) (hl : len ≤ cap) (hm : cap ≤ 9223372036854775807) :
    Calls Tryd.prog 9 #[.slice a len cap] w fun e w' => ∃ x : ByteArray, e = .returned (.string x) ∧ x.size ≤ 4000 ∧ Below w.heap.size w w' := by
  have H := hide h
  clear h
  go_enter Tryd.func9, Tryd.ntmps9
  go_wp2_with fail
  refine (open_any _ _ _ _ (unhide H) hl hm).mono ?_
  rintro e w1 ⟨rfl, hs⟩
  have H1 := hide hs
  clear hs H
  go_wp2_with fail
  refine (pick_kp w _ w.heap.size _ 40 (unhide H1) (by omega) (by omega) (by omega)).mono ?_
  rintro e w2 ⟨v, rfl, hv, hs, _, _⟩
  have H2 := hide hs
  clear hs H1
  by_cases h0 : v = 0
  · subst h0
    go_wp2_with fail
    refine (pick_kp w _ w.heap.size _ 2 (unhide H2) (by omega) (by omega) (by omega)).mono ?_
    rintro e w3 ⟨u, rfl, hu, hs, _, _⟩
    have H3 := hide hs
    clear hs H2
    have hmany := fun w => many_any ⟨#[59]⟩ (700 + u) rfl (by omega) w
    rw [show ((700 + u : Nat) : Int) = 700 + (u : Int) from by omega] at hmany
    go_wp2_with fail
    refine (hmany _).mono ?_
    rintro e w4 ⟨y, rfl, hy, rfl⟩
    go_wp2
    go_ret
    exact ⟨y, rfl, hy, (unhide H3).below⟩
  by_cases h1 : v = 1
  · subst h1
    go_wp2_with fail
    refine (pick_kp w _ w.heap.size _ 2 (unhide H2) (by omega) (by omega) (by omega)).mono ?_
    rintro e w3 ⟨u, rfl, hu, hs, _, _⟩
    have H3 := hide hs
    clear hs H2
    have hmany := fun w => many_any ⟨#[32]⟩ (3000 + u) rfl (by omega) w
    rw [show ((3000 + u : Nat) : Int) = 3000 + (u : Int) from by omega] at hmany
    go_wp2_with fail
    refine (hmany _).mono ?_
    rintro e w4 ⟨y, rfl, hy, rfl⟩
    go_wp2
    go_ret
    exact ⟨y, rfl, hy, (unhide H3).below⟩
  · have e0 : ((v : Int) == 0) = false := by simp; omega
    have e1 : ((v : Int) == 1) = false := by simp; omega
    go_wp2_with fail
    refine (text_any w _ w.heap.size _ (unhide H2) (by omega)).mono ?_
    rintro e w3 ⟨y, rfl, hy, hs⟩
    have H3 := hide hs
    clear hs H2
    go_wp2
    go_ret
    exact ⟨y, rfl, hy, (unhide H3).below⟩
end Go.Proofs.YtggkkhlghlghkaaDoor.draw
