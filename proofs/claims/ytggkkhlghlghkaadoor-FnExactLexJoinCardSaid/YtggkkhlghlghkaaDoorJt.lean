/-
  The law on joins at every argument: its helpers.
-/
import Derived.Test.YtggkkhlghlghkaaDoorJi
import Derived.Test.YtggkkhlghlghkaaDoorEq
import Derived.Test.YtggkkhlghlghkaaDoorTf
namespace Go.Proofs.YtggkkhlghlghkaaDoor.lex
open Go.RowKit Go.Proofs.YtggkkhlghlghkaaDoor.num
set_option linter.unusedVariables false

set_option maxHeartbeats 4000000 in
set_option maxRecDepth 100000 in
theorem szToken_any (k p n : Int) (x : ByteArray) (left : Int) (w : World) (h0 : 0 ≤ left) (h1 : left ≤ 1048576) (hx : x.size ≤ 9223372036854775807) :
    Calls Tryd.prog 39 #[.agg #[.int .i64 k, .int .i64 p, .string x, .int .i64 n], .int .i64 left] w fun e w' => e = .returned (.int .i64 (if left - x.size < 0 then -1 else left - x.size)) ∧ Below w.heap.size w w' := by
  have gw : IntKind.i64.wrap (left - (x.size : Int)) = left - (x.size : Int) := IntWalk.i64_in _ ⟨by omega, by omega⟩
  by_cases hneg : left - (x.size : Int) < 0
  · rw [if_pos hneg]
    go_enter Tryd.func39, Tryd.ntmps39
    go_wp2
    go_ret
    exact ⟨rfl, (Below.refl _ _).alloc (Nat.le_refl _) _⟩
  · rw [if_neg hneg]
    go_enter Tryd.func39, Tryd.ntmps39
    go_wp2
    go_ret
    exact ⟨rfl, (Below.refl _ _).alloc (Nat.le_refl _) _⟩

set_option maxHeartbeats 4000000 in
set_option maxRecDepth 100000 in
theorem szTokenS_any (a : Option Addr) (len cap : Nat) (z : List Tok) (w : World) (h : Toks w a len z) (hl : len ≤ cap) (hm : cap ≤ maxLen) :
    Calls Tryd.prog 22 #[.slice a len cap, .int .i64 1048576] w fun e w' => (∃ r : Int, e = .returned (.int .i64 r) ∧ (0 ≤ r → len ≤ 1048576 ∧ ∀ t ∈ z, t.text.size ≤ 1048576)) ∧ Below w.heap.size w w' := by
  unfold maxLen at hm
  have gw : IntKind.i64.wrap (1048576 - (len : Int)) = 1048576 - (len : Int) := IntWalk.i64_in _ ⟨by omega, by omega⟩
  by_cases hneg : 1048576 < len
  · have hneg' : 1048576 - (len : Int) < 0 := by omega
    clear h
    go_enter Tryd.func22, Tryd.ntmps22
    go_wp2
    go_ret
    exact ⟨⟨-1, rfl, fun h => by omega⟩, Below.refl _ _⟩
  · have hneg' : ¬ 1048576 - (len : Int) < 0 := by omega
    have H := hide h
    clear h
    go_enter Tryd.func22, Tryd.ntmps22
    go_wp2
    go_loopw [1, 5] (fun lf i wr => ∃ (j : Nat) (r : Int), j ≤ len ∧ i = .int .i64 j ∧ lf = .int .i64 r ∧ 0 ≤ r ∧ r ≤ 1048576 ∧ Hid (∀ t ∈ z.take j, t.text.size ≤ 1048576) ∧ Hid (Below w.heap.size w wr)) (fun _ i _ => len - (intOf i).toNat)
    case atStart => exact ⟨0, 1048576 - len, by omega, rfl, by go_num, by omega, by omega, hide (by simp), hide (Below.refl _ _)⟩
    case round =>
      obtain ⟨j, r, hj, rfl, rfl, hr0, hr1, HT, HB⟩ := hrel
      by_cases hlt : j < len
      · obtain ⟨z1, z2, z3⟩ := (unhide H).below (unhide HB)
        obtain ⟨t, ht⟩ : ∃ t, z[j]? = some t := ⟨_, List.getElem?_eq_getElem (by omega)⟩
        rcases z3 with z3 | ⟨b, off, rfl, hb, hc⟩
        · omega
        obtain ⟨c0, c1, c2, c3⟩ := hc j t ht
        have htx := z2 t (List.mem_of_getElem? ht)
        have hsn : Hid (t.text.size ≤ 1048576 → ∀ u ∈ z.take (j + 1), u.text.size ≤ 1048576) := hide (fun h u hu => by
          rw [List.take_add_one, ht] at hu
          rcases List.mem_append.1 hu with hu | hu
          · exact unhide HT u hu
          · simp at hu; subst hu; exact h)
        obtain ⟨tk, tp, tx, tn⟩ := t
        simp only at c0 c1 c2 c3 htx hsn
        unfold maxLen at htx
        clear hc ht z1 z2
        have hsz := fun w => szToken_any tk tp tn tx r w hr0 hr1 htx
        by_cases hng : r - (tx.size : Int) < 0
        · rw [if_pos hng] at hsz
          go_wp2_with (go_at_call 39; refine (hsz _).mono ?_; rintro e w1 ⟨rfl, hb1⟩)
          go_ret
          exact ⟨⟨-1, rfl, fun h => by omega⟩, (unhide HB).trans (hb1.mono (unhide HB).size)⟩
        · rw [if_neg hng] at hsz
          generalize hq : r - (tx.size : Int) = q at *
          have hq0 : 0 ≤ q := by omega
          have HQ := hide hq
          clear hq
          go_wp2_with (go_at_call 39; refine (hsz _).mono ?_; rintro e w1 ⟨rfl, hb1⟩)
          go_roundw
          case rel => exact ⟨j + 1, q, by omega, by go_num, rfl, hq0, by have := unhide HQ; omega, hide (unhide hsn (by have := unhide HQ; omega)), hide ((unhide HB).trans (hb1.mono (unhide HB).size))⟩
          case measure => simp [intOf]; omega
      · obtain rfl : j = len := by omega
        go_wp2
        go_ret
        refine ⟨⟨r, rfl, fun _ => ⟨by omega, fun t ht => unhide HT t ?_⟩⟩, unhide HB⟩
        have := (unhide H).1
        rw [List.take_of_length_le (by omega)]
        exact ht

theorem World.size_alloc1 (w : World) (o : Obj) : (w.alloc o).heap.size = w.heap.size + 1 := by simp
theorem results_cell1 {P : Program} {fn : Func} {p : Tmp} {ty : TypeId} (h : fn.results = #[.cell p ty]) (tmps : Array Value) (w : World) (g : Nat) (t : TypeId) (cs : Array Value) (fr : Nat × Nat) (d : TypeDesc)
    (hp : tmps.getD p undef = .pointer (some ⟨g, 0, none⟩)) (hg : w.heap[g]? = some (.cells cs t fr))
    (hu : P.underlying ty = some d) (hd : (match d with | .struct _ | .array _ _ => true | _ => false) = true) (hi : (P.info? ty).map (·.size) = some cs.size) :
    (results fn tmps).run P w = .ok (.agg cs) w := by
  have hp' : tmps[p]?.getD undef = .pointer (some ⟨g, 0, none⟩) := by simpa using hp
  simp [results, h, hp', asAddr, run_loadVar_row w g t ty cs fr d hg hu hd hi]
set_option maxHeartbeats 4000000 in
set_option maxRecDepth 100000 in
theorem toToken_any (k p n : Int) (x : ByteArray) (w : World) :
    Calls Tryd.prog 40 #[.agg #[.int .i64 k, .int .i64 p, .string x, .int .i64 n]] w fun e w' => e = .returned (.agg #[.int .i64 k, .int .i64 p, .string x, .int .i64 n]) ∧ Below w.heap.size w w' := by
  go_enter Tryd.func40, Tryd.ntmps40
  go_wp2
  refine bodyPost_ret (results_cell1 rfl _ _ (w.heap.size + 1) 32 _ (0, 0) _ rfl (by rw [← World.size_alloc1 w (.cells #[.int .i64 k, .int .i64 p, .string x, .int .i64 n] 64)]; exact two_first _ _ _) Tryd.underlying32 rfl (by kernel_rfl)) rfl ?_
  exact ⟨rfl, (below_two _ _ _).alloc (by simp; omega) _⟩

theorem set4 (L rest : List Value) (n : Nat) (a b c d : Value) (hL : L.length = n) (hr : 4 ≤ rest.length) :
    (L ++ [a, b, c, d]) ++ rest.drop 4 = ((((L ++ rest).set n a).set (n + 1) b).set (n + 2) c).set (n + 3) d := by
  subst hL
  match rest, hr with
  | r0 :: r1 :: r2 :: r3 :: rs, _ => simp
theorem row_step (z : List Tok) (j : Nat) (t : Tok) (rest : List Value) (ht : z[j]? = some t) (hr : 4 ≤ rest.length) :
    rowOf (z.take (j + 1)) ++ rest.drop 4 = ((((rowOf (z.take j) ++ rest).set (j * 4) (t.cells.getD 0 undef)).set (j * 4 + 1) (t.cells.getD 1 undef)).set (j * 4 + 2) (t.cells.getD 2 undef)).set (j * 4 + 3) (t.cells.getD 3 undef) := by
  have hlt : j < z.length := (List.getElem?_eq_some_iff.1 ht).1
  have hL : (rowOf (z.take j)).length = j * 4 := by rw [rowOf_length, List.length_take]; omega
  have e : rowOf (z.take (j + 1)) = rowOf (z.take j) ++ t.cells := by
    rw [List.take_add_one, ht]
    simp [rowOf]
  rw [e]
  exact set4 _ _ _ _ _ _ _ hL hr

set_option maxHeartbeats 4000000 in
set_option maxRecDepth 100000 in
theorem toTokenS_any (a : Option Addr) (len cap : Nat) (z : List Tok) (w : World) (h : Toks w a len z) (hl : len ≤ cap) (h20 : len ≤ 1048576) :
    Calls Tryd.prog 23 #[.slice a len cap] w fun e w' => (∃ v, e = .returned v ∧ w'.ownsRow w.heap.size 32 4 v z.length (rowOf z)) ∧ Below w.heap.size w w' := by
  obtain ⟨i0, hi, hz0, hz1, hz2⟩ := info_parts info32
  have H := hide h
  clear h
  go_enter Tryd.func23, Tryd.ntmps23
  go_wp2_with (at_make; refine wpList_make_full _ rfl _ _ 24 rfl w.heap.size 32 i0 _ 4 Tryd.underlying24 hi hz0 hz1 .i64 .i64 _ _ len rfl rfl rfl rfl (by rw [hz2]; omega) (by unfold maxLen; omega) (Nat.le_refl _) ?_; intro w1 hown hgrow)
  have B1 := hide ((Below.refl _ w).grown hgrow (Nat.le_refl _) (fun k hk => by cases hk))
  have hxl := hown.1
  generalize (madeCells _ _).toList = xs0 at hown hxl
  have R1 := hide hown
  clear hown hgrow
  go_loopw [4] (fun i wr => ∃ (j : Nat) (rest : List Value), j ≤ len ∧ i = .int .i64 j ∧ rest.length = (len - j) * 4 ∧ Hid (wr.ownsRow w.heap.size 32 4 (.slice (some ⟨w.heap.size, 0, none⟩) len len) len (rowOf (z.take j) ++ rest)) ∧ Hid (Below w.heap.size w wr)) (fun i _ => len - (intOf i).toNat)
  case atStart => exact ⟨0, xs0, by omega, rfl, by omega, hide (by simpa [rowOf] using unhide R1), B1⟩
  case round =>
    obtain ⟨j, rest, hj, rfl, hrest, HR, HB⟩ := hrel
    by_cases hlt : j < len
    · obtain ⟨z1, z2, z3⟩ := (unhide H).below (unhide HB)
      obtain ⟨t, ht⟩ : ∃ t, z[j]? = some t := ⟨_, List.getElem?_eq_getElem (by omega)⟩
      rcases z3 with z3 | ⟨b, off, rfl, hb, hc⟩
      · omega
      obtain ⟨c0, c1, c2, c3⟩ := hc j t ht
      have htt := toToken_any t.kind t.pos t.num t.text
      obtain ⟨tk, tp, tx, tn⟩ := t
      simp only at c0 c1 c2 c3 htt
      have HT := hide ht
      clear hc ht z1 z2
      go_wp2_with (go_at_call 40; refine (htt _).mono ?_; rintro e w2 ⟨rfl, hb1⟩; have R2 := hide (row_below (unhide HR) hb1); obtain ⟨⟨y0, x0⟩, f0, hg2⟩ := row_at (unhide R2) (o := j * 4) (by omega); obtain ⟨⟨y1, x1⟩, f1, -⟩ := row_at (unhide R2) (o := j * 4 + 1) (by omega); obtain ⟨⟨y2, x2⟩, f2, -⟩ := row_at (unhide R2) (o := j * 4 + 2) (by omega); obtain ⟨⟨y3, x3⟩, f3, -⟩ := row_at (unhide R2) (o := j * 4 + 3) (by omega))
      refine ⟨⟨j + 1, rest.drop 4, by omega, by go_num, by simp; omega, hide ?_, hide ?_⟩, by simp [intOf]; omega⟩
      · have e := row_step z j ⟨tk, tp, tx, tn⟩ rest (unhide HT) (by omega)
        simp only [Tok.cells] at e
        rw [e]
        exact row_put (row_put (row_put (row_put (unhide R2) _) _) _) _
      · have hb2 := (unhide HB).trans (hb1.mono (unhide HB).size)
        exact (((hb2.setCell (p := ⟨w.heap.size, j * 4, none⟩) (Nat.le_refl _) _).setCell (p := ⟨w.heap.size, j * 4 + 1, none⟩) (Nat.le_refl _) _).setCell (p := ⟨w.heap.size, j * 4 + 2, none⟩) (Nat.le_refl _) _).setCell (p := ⟨w.heap.size, j * 4 + 3, none⟩) (Nat.le_refl _) _
    · obtain rfl : j = len := by omega
      obtain rfl : rest = [] := List.length_eq_zero_iff.1 (by omega)
      go_wp2
      go_ret
      refine ⟨⟨_, rfl, ?_⟩, unhide HB⟩
      have := unhide HR
      have hz := (unhide H).1
      rw [List.append_nil, List.take_of_length_le (by omega)] at this
      rw [hz]
      exact this
end Go.Proofs.YtggkkhlghlghkaaDoor.lex
