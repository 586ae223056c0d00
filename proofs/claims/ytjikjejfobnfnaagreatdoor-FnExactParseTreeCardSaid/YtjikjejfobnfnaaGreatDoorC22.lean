/-
  Rows of pieces put one behind the other; the terms of a call, the blocks of an if.
  The blocks of an if, below it.
  The pieces below a function: three rows, one behind the other.
  The pieces below a function.
  The terms of a call.
  Names that are declared, and rows of them.
  The locals of a function.
-/
import Derived.Test.YtjikjejfobnfnaaGreatDoorC21
import Derived.Lib.AppendZeros
namespace Go.Proofs.YtjikjejfobnfnaaGreatDoor.imp
open Go.RowKit Go.Proofs.YtjikjejfobnfnaaGreatDoor.num Go.Proofs.YtjikjejfobnfnaaGreatDoor.lex Go.Proofs.YtjikjejfobnfnaaGreatDoor.par
set_option linter.unusedVariables false
/-- All are interface values. -/
def Shps (vs : List Value) : Prop := ∀ v ∈ vs, ∃ t u, v = .iface t u
theorem Shps.one {vs : List Value} (h : Shps vs) : ∀ u ∈ vs, u.oneCell' = true := fun u hu => by obtain ⟨t, z, rfl⟩ := h u hu; rfl
theorem run_append_none (w : World) (ty : TypeId) (a : Option Addr) (n cap c : Nat) (h : n ≤ cap) : (Builtin.append_ #[42, 42] ty #[.slice a n cap, .slice none 0 c]).run Tryz.prog w = .ok (.slice a n cap) w := by
  obtain ⟨i0, hi, hz0, hz1, hz2⟩ := info_parts info85
  cases a <;> simp [Builtin.append_, run_underlying Tryz.underlying42, sizeOf, typeInfo, hi, Builtin.lenOf, Builtin.firstCells, storeCells, h]
/-- 'append(list, others...)': a row of one's own gets those of another one. -/
theorem run_append_rows (w : World) (ty base : Nat) {v y : Value} {xs vs : List Value} (h : w.ownsRow base 85 1 v xs.length xs) (hy : BRow w y vs) (hs : Shps vs) (hn : xs.length + vs.length ≤ 2097152) (hb : base ≤ w.heap.size) :
    ∃ v' w', (Builtin.append_ #[42, 42] ty #[v, y]).run Tryz.prog w = .ok v' w' ∧ w'.ownsRow base 85 1 v' (xs ++ vs).length (xs ++ vs) ∧ w.grownBy w' v.ownBlock ∧ (v'.ownBlock = v.ownBlock ∨ v'.ownBlock = some w.heap.size) := by
  obtain ⟨i0, hi, hz0, hz1, hz2⟩ := info_parts info85
  rcases hy.2 with ⟨rfl, h0⟩ | ⟨g, cap, cur, rfl, hg, hh, hc, hm, hsz, hx⟩
  · obtain rfl : vs = [] := List.length_eq_zero_iff.1 h0
    obtain ⟨a, c, rfl, hac⟩ : ∃ a c, v = .slice a xs.length c ∧ xs.length ≤ c := by
      rcases h.2 with ⟨rfl, e⟩ | ⟨g, cap, cur, rfl, _, _, hc, _⟩
      · exact ⟨none, 0, by rw [e], by omega⟩
      · exact ⟨_, cap, rfl, hc⟩
    refine ⟨_, w, run_append_none w ty a _ c 0 hac, ?_, World.grownBy.refl _ _, .inl rfl⟩
    rw [List.append_nil]
    exact h
  · obtain ⟨v', w', hrun, r1, r2, _, r3⟩ := run_append_own_at (P := Tryz.prog) w base 42 ty 85 i0 .nilIface 1 16 Tryz.underlying42 hi hz0 hz1 hz2 rfl (by decide) v xs.length xs h ⟨g, 0, none⟩ vs.length cap vs (by simp)
      (fun j u hu => by
        have hj : j < vs.length := (List.getElem?_eq_some_iff.1 hu).1
        have : cur.toList[j]? = some u := by
          rw [← hx, List.getElem?_take_of_lt (by omega)] at hu
          exact hu
        rw [Array.getElem?_toList] at this
        have e : (⟨g, 0, none⟩ : Addr).add j = ⟨g, j, none⟩ := by rw [Go.WideShapes.add_plain, Nat.zero_add]
        rw [e]
        exact cell_of hh this) hs.one (by unfold maxLen; omega) (by omega) hb
    exact ⟨v', w', hrun, by rw [List.length_append]; exact r1, r2, r3⟩
/-- At the operation. -/
theorem wpList_append_rows {w : World} {ops : Array Oper} {rest : List Oper} {o : Oper} {a : Act} {Q : Exit → Act → World → Prop} (hg : o.guard = none) (s x : Operand) (hop : o.op = Op.call { callee := Callee.builtin Builtin.append, args := #[s, x], argTypes := #[42, 42] })
    (base : Nat) {v y : Value} {xs vs : List Value} (hv : a.eval s = v) (hx : a.eval x = y) (h : w.ownsRow base 85 1 v xs.length xs) (hy : BRow w y vs) (hs : Shps vs) (hn : xs.length + vs.length ≤ 2097152) (hb : base ≤ w.heap.size)
    (hK : ∀ v' w', w'.ownsRow base 85 1 v' (xs ++ vs).length (xs ++ vs) → w.grownBy w' v.ownBlock → (v'.ownBlock = v.ownBlock ∨ v'.ownBlock = some w.heap.size) → wpList Tryz.prog ops Q rest (a.put o.dst v') w') :
    wpList Tryz.prog ops Q (o :: rest) a w := by
  obtain ⟨v', w', hrun, r1, r2, r3⟩ := run_append_rows w o.type base h hy hs hn hb
  exact Lib.wpList_append_run w hg s x 42 42 hop v y hv hx v' w' hrun (hK v' w' r1 r2 r3)
theorem BRow.below {w w' : World} {v : Value} {vs : List Value} (h : BRow w v vs) (hb : Below w.heap.size w w') : BRow w' v vs := by
  refine ⟨h.1, ?_⟩
  rcases h.2 with h2 | ⟨g, cap, cur, rfl, hg, hh, r⟩
  · exact .inl h2
  · exact .inr ⟨g, cap, cur, rfl, hg, (hb.block g (Array.getElem?_eq_some_iff.1 hh).1).trans hh, r⟩
theorem BRow.of_row {w : World} {base : Nat} {v : Value} {vs : List Value} (h : w.ownsRow base 85 1 v vs.length vs) : BRow w v vs := by
  refine ⟨h.1, ?_⟩
  rcases h.2 with h2 | ⟨g, cap, cur, rfl, hg, r⟩
  · exact .inl h2
  · exact .inr ⟨g, cap, cur, rfl, Nat.zero_le _, r⟩
theorem row_one {w : World} {base : Nat} (hb : base ≤ w.heap.size) (v : Value) : (w.alloc (.cells #[v] 85)).ownsRow base 85 1 (.slice (some ⟨w.heap.size, 0, none⟩) 1 1) 1 [v] :=
  ⟨rfl, .inr ⟨w.heap.size, 1, #[v], rfl, hb, one_first _ _, Nat.le_refl _, by unfold maxLen; omega, rfl, rfl⟩⟩
set_option maxHeartbeats 2000000 in
set_option maxRecDepth 100000 in
theorem callB_any (a0 a1 a2 a3 a4 a5 a6 a7 v : Value) (vs : List Value) (w : World) (hv : BRow w v vs) (hs : Shps vs) (hn : vs.length ≤ 1048576) :
    Calls Tryz.prog 243 #[.agg #[a0, a1, a2, a3, a4, a5, a6, a7, v]] w fun e w' => ∃ r, e = .returned r ∧ BRow w' r (.iface 208 (.agg #[a4, a5, a6, a7]) :: vs) ∧ Below w.heap.size w w' := by
  have b1 := below2 w (.cells #[a0, a1, a2, a3, a4, a5, a6, a7, v] 212) (.cells #[.iface 208 (.agg #[a4, a5, a6, a7])] 85)
  have hv2 := hide (hv.below b1)
  have hr := row_one (w := w.alloc (.cells #[a0, a1, a2, a3, a4, a5, a6, a7, v] 212)) (base := w.heap.size) (by simp) (.iface 208 (.agg #[a4, a5, a6, a7]))
  have e1 : (w.alloc (.cells #[a0, a1, a2, a3, a4, a5, a6, a7, v] 212)).heap.size = w.heap.size + 1 := by simp
  rw [e1] at hr
  have HR := hide hr
  have HB := hide b1
  clear hr e1 b1 hv
  obtain ⟨n, hvn⟩ : ∃ a n c, v = .slice a n c := by
    rcases (unhide hv2).2 with ⟨rfl, _⟩ | ⟨g, cap, cur, rfl, _⟩
    · exact ⟨_, _, _, rfl⟩
    · exact ⟨_, _, _, rfl⟩
  obtain ⟨m, c, rfl⟩ := hvn
  go_enter Tryz.func243, Tryz.ntmps243
  go_wp2_with (at_builtin; refine wpList_append_rows rfl _ _ rfl w.heap.size rfl rfl (unhide HR) (unhide hv2) hs (by simp; omega) (by simp; omega) ?_; intro r w' q1 q2 q3)
  go_ret
  refine ⟨_, rfl, BRow.of_row q1, (unhide HB).grown q2 (by simp; omega) (fun g hg => (unhide HR).lt g hg |>.1)⟩
theorem flat_get {k : Nat} {css : List (List Value)} (h : ∀ c ∈ css, c.length = k) {j i : Nat} {c : List Value} (hj : css[j]? = some c) (hi : i < k) : css.flatten[j * k + i]? = c[i]? := by
  induction css generalizing j with
  | nil => simp at hj
  | cons a r ih =>
    have ha : a.length = k := h a (by simp)
    cases j with
    | zero =>
      simp at hj
      subst hj
      rw [List.flatten_cons, List.getElem?_append_left (by omega)]
      simp
    | succ j =>
      rw [List.flatten_cons, List.getElem?_append_right (by rw [ha, Nat.succ_mul]; omega), ha]
      have e : (j + 1) * k + i - k = j * k + i := by rw [Nat.succ_mul]; omega
      rw [e]
      exact ih (fun c hc => h c (List.mem_cons_of_mem _ hc)) (by simpa using hj)
theorem row_cell {w : World} {base e k n : Nat} {v : Value} {xs : List Value} (h : w.ownsRow base e k v n xs) {i : Nat} {u : Value} (hi : xs[i]? = some u) : ∃ g cap, v = .slice (some ⟨g, 0, none⟩) n cap ∧ g < w.heap.size ∧ w.cell? ⟨g, i, none⟩ = some u := by
  have hl : i < xs.length := (List.getElem?_eq_some_iff.1 hi).1
  rcases h.2 with ⟨rfl, h0⟩ | ⟨g, cap, cur, rfl, hg, hh, hc, hm, hsz, hx⟩
  · have := h.1; rw [h0, Nat.zero_mul] at this; omega
  · refine ⟨g, cap, rfl, (Array.getElem?_eq_some_iff.1 hh).1, ?_⟩
    have h1 := h.1
    rw [← hx, List.getElem?_take_of_lt (by omega), Array.getElem?_toList] at hi
    exact cell_of hh hi
/-- A block's cells. -/
def Bc (c : List Value) : Prop := ∃ (k p n : Int) (m : ByteArray) (a : Option Addr) (l e : Nat), c = [.int .i64 k, .int .i64 p, .int .i64 n, .string m, .slice a l e]
theorem Bc.five {c : List Value} (h : Bc c) : c.length = 5 := by obtain ⟨k, p, n, m, a, l, e, rfl⟩ := h; rfl
def bkV (c : List Value) : Value := .iface 134 (.agg c.toArray)
set_option maxHeartbeats 4000000 in
set_option maxRecDepth 100000 in
theorem ifB_any (t : Nat) (a0 a1 a2 a3 u uv : Value) (bcs : List (List Value)) (w : World) {b : Nat} (hu : w.ownsRow b 134 5 uv bcs.length bcs.flatten) (hb : ∀ c ∈ bcs, Bc c) (hn : bcs.length ≤ 1048576) :
    Calls Tryz.prog 225 #[.agg #[a0, a1, a2, a3, .iface t u, uv]] w fun e w' => ∃ r, e = .returned r ∧ BRow w' r (.iface t u :: bcs.map bkV) ∧ Below w.heap.size w w' := by
  obtain ⟨ua, uc, rfl⟩ := row_slice hu
  have b1 := below2 w (.cells #[a0, a1, a2, a3, .iface t u, .slice ua bcs.length uc] 141) (.cells #[.iface t u] 85)
  have hr := row_one (w := w.alloc (.cells #[a0, a1, a2, a3, .iface t u, .slice ua bcs.length uc] 141)) (base := w.heap.size) (by simp) (.iface t u)
  have e1 : (w.alloc (.cells #[a0, a1, a2, a3, .iface t u, .slice ua bcs.length uc] 141)).heap.size = w.heap.size + 1 := by simp
  rw [e1] at hr
  have HR := hide hr
  have HB := hide b1
  have HU := hide hu
  have H5 := hide (fun c (hc : c ∈ bcs) => (hb c hc).five)
  have HC := hide hb
  clear hr e1 b1 hu hb
  go_enter Tryz.func225, Tryz.ntmps225
  go_wp2
  go_loopw [3, 12] (fun lv i wr => ∃ (j : Nat), j ≤ bcs.length ∧ i = .int .i64 j ∧ Hid (wr.ownsRow w.heap.size 85 1 lv (.iface t u :: (bcs.take j).map bkV).length (.iface t u :: (bcs.take j).map bkV)) ∧ Hid (Below w.heap.size w wr)) (fun _ i _ => bcs.length - (intOf i).toNat)
  case atStart => exact ⟨0, by omega, rfl, HR, HB⟩
  case round =>
    obtain ⟨j, hj, rfl, HR1, HB1⟩ := hrel
    clear HR HB
    have hws := (unhide HB1).size
    by_cases hlt : j < bcs.length
    · obtain ⟨c, hc⟩ : ∃ c, bcs[j]? = some c := ⟨_, List.getElem?_eq_getElem hlt⟩
      obtain ⟨k, p, n, m, sa, sl, se, rfl⟩ := unhide HC c (List.mem_of_getElem? hc)
      have HT : Hid ((bcs.take (j + 1)).map bkV = (bcs.take j).map bkV ++ [bkV [.int .i64 k, .int .i64 p, .int .i64 n, .string m, .slice sa sl se]]) := hide (by rw [List.take_add_one, hc]; simp)
      have cell := fun i (u : Value) (hi : i < 5) (e : [.int .i64 k, .int .i64 p, .int .i64 n, .string m, .slice sa sl se][i]? = some u) => row_cell (unhide HU) ((flat_get (unhide H5) hc hi).trans e)
      obtain ⟨g, cap, e0, hg, m0⟩ := cell 0 (.int .i64 k) (by omega) rfl
      injection e0 with e1 e2 e3
      subst e1 e3
      obtain ⟨g', cap', e0, _, m1⟩ := cell 1 (.int .i64 p) (by omega) rfl
      cases e0
      obtain ⟨g', cap', e0, _, m2⟩ := cell 2 (.int .i64 n) (by omega) rfl
      cases e0
      obtain ⟨g', cap', e0, _, m3⟩ := cell 3 (.string m) (by omega) rfl
      cases e0
      obtain ⟨g', cap', e0, _, m4⟩ := cell 4 (.slice sa sl se) (by omega) rfl
      cases e0
      have n0 := ((unhide HB1).cell (by exact hg)).trans m0
      have n1 := ((unhide HB1).cell (by exact hg)).trans m1
      have n2 := ((unhide HB1).cell (by exact hg)).trans m2
      have n3 := ((unhide HB1).cell (by exact hg)).trans m3
      have n4 := ((unhide HB1).cell (by exact hg)).trans m4
      rw [Nat.add_zero] at n0
      have hgr : g < wr.heap.size := Nat.lt_of_lt_of_le hg hws
      clear cell m0 m1 m2 m3 m4 hc e2 hg
      have hb2 := below2 wr (.cells #[.int .i64 k, .int .i64 p, .int .i64 n, .string m, .slice sa sl se] 134) (.cells #[.iface 134 (.agg #[.int .i64 k, .int .i64 p, .int .i64 n, .string m, .slice sa sl se])] 85)
      have HR2 := hide (row_below (unhide HR1) hb2)
      have hy := BRow.new (w := (wr.alloc (.cells #[.int .i64 k, .int .i64 p, .int .i64 n, .string m, .slice sa sl se] 134)).alloc (.cells #[.iface 134 (.agg #[.int .i64 k, .int .i64 p, .int .i64 n, .string m, .slice sa sl se])] 85)) (g := wr.heap.size + 1) (cs := #[.iface 134 (.agg #[.int .i64 k, .int .i64 p, .int .i64 n, .string m, .slice sa sl se])]) (at_new1 _ _ _) (by unfold maxLen; simp)
      have HY := hide hy
      have HB2 := hide ((unhide HB1).trans (hb2.mono hws))
      clear hb2 hy
      go_wp2_with (first | (at_builtin; refine wpList_append_rows rfl _ _ rfl w.heap.size rfl rfl (unhide HR2) (unhide HY) (by intro v hv; simp at hv; exact ⟨_, _, hv⟩) (by simp; omega) (by simp; omega) ?_; intro r w' q1 q2 q3) | go_in)
      go_roundw
      case rel =>
        refine ⟨j + 1, by omega, by go_num, hide ?_, hide ((unhide HB2).grown q2 (by simp; omega) (fun g hg => ((unhide HR1).lt g hg).1))⟩
        rw [unhide HT]
        exact q1
      case measure => simp [intOf]; omega
    · obtain rfl : j = bcs.length := by omega
      go_wp2
      go_ret
      refine ⟨_, rfl, BRow.of_row (base := w.heap.size) ?_, unhide HB1⟩
      have := unhide HR1
      rw [List.take_of_length_le (Nat.le_refl _)] at this
      exact this
set_option maxHeartbeats 2000000 in
set_option maxRecDepth 100000 in
theorem grow_any (n : Nat) (w : World) (h1 : 0 < n) (h2 : n ≤ 2097152) :
    Calls Tryz.prog 224 #[.slice none 0 0, .int .i64 n] w fun e w' => ∃ v, e = .returned v ∧ w'.ownsRow w.heap.size 85 1 v 0 [] ∧ Below w.heap.size w w' := by
  obtain ⟨i0, hi, hz0, hz1, hz2⟩ := info_parts info85
  have hrz := fun ty => Lib.run_append_nil_zeros (P := Tryz.prog) w 42 3 ty 85 i0 .nilIface .i64 .i64 Tryz.underlying42 Tryz.underlying3 hi hz0 n h1 (by omega) (by omega) (by rw [hz2]; omega)
  have hge : n ≤ grownCap w n 0 85 := grownCap_ge w _ _ _
  have hle := grownCap_le_maxLen w n 0 85 (by unfold maxLen; omega)
  generalize grownCap w n 0 85 = G at *
  unfold maxLen at hle
  have hpos : (0 : Int) < (n : Int) := by omega
  go_enter Tryz.func224, Tryz.ntmps224
  go_wp2_with (first | (at_builtin; refine Lib.wpList_append_run _ rfl _ _ 42 3 rfl _ _ rfl rfl _ _ (hrz _) ?_) | go_in)
  go_ret
  refine ⟨_, rfl, ⟨rfl, .inr ⟨w.heap.size, G, _, rfl, Nat.le_refl _, par.at_drew (one_first _ _), Nat.zero_le _, hle, by simp [Builtin.zeroCells]; omega, by simp⟩⟩, below_drew (below1 _ _)⟩
theorem brow_slice {w : World} {v : Value} {vs : List Value} (h : BRow w v vs) : ∃ a c, v = .slice a vs.length c := row_slice h
set_option maxHeartbeats 8000000 in
set_option maxRecDepth 100000 in
theorem concat_any (g : Nat) (y1 y2 y3 : Value) (v1 v2 v3 : List Value) (w : World) (hg : w.heap[g]? = some (.cells #[y1, y2, y3] 42)) (h1 : BRow w y1 v1) (h2 : BRow w y2 v2) (h3 : BRow w y3 v3) (s1 : Shps v1) (s2 : Shps v2) (s3 : Shps v3)
    (n1 : v1.length ≤ 500000) (n2 : v2.length ≤ 500000) (n3 : v3.length ≤ 500000) (n0 : 0 < v3.length) :
    Calls Tryz.prog 223 #[.slice (some ⟨g, 0, none⟩) 3 3] w fun e w' => ∃ v, e = .returned v ∧ BRow w' v (v1 ++ v2 ++ v3) ∧ Below w.heap.size w w' := by
  obtain ⟨a1, c1, rfl⟩ := brow_slice h1
  obtain ⟨a2, c2, rfl⟩ := brow_slice h2
  obtain ⟨a3, c3, rfl⟩ := brow_slice h3
  have m0 : w.cell? ⟨g, 0, none⟩ = some (.slice a1 v1.length c1) := cell_of hg rfl
  have m1 : w.cell? ⟨g, 1, none⟩ = some (.slice a2 v2.length c2) := cell_of hg rfl
  have m2 : w.cell? ⟨g, 2, none⟩ = some (.slice a3 v3.length c3) := cell_of hg rfl
  have hgl : g < w.heap.size := (Array.getElem?_eq_some_iff.1 hg).1
  have H := hide (And.intro h1 (And.intro h2 h3))
  have HS := hide (And.intro s1 (And.intro s2 s3))
  have HG := hide hg
  clear h1 h2 h3 s1 s2 s3 hg
  go_enter Tryz.func223, Tryz.ntmps223
  go_wp2
  go_loopw [3, 11] (fun sz i wr => ∃ (j : Nat) (s : Int), j ≤ 3 ∧ i = .int .i64 j ∧ sz = .int .i64 s ∧ wr = w ∧ s = (if 0 < j then (v1.length : Int) else 0) + (if 1 < j then (v2.length : Int) else 0) + (if 2 < j then (v3.length : Int) else 0)) (fun _ i _ => 3 - (intOf i).toNat)
  case atStart => exact ⟨0, 0, by omega, rfl, rfl, rfl, by simp⟩
  case round =>
    obtain ⟨j, s, hj, rfl, rfl, hwr, hs⟩ := hrel
    subst wr
    obtain rfl | rfl | rfl | rfl : j = 0 ∨ j = 1 ∨ j = 2 ∨ j = 3 := by omega
    · simp at hs
      subst hs
      go_wp2
      exact ⟨⟨1, _, by omega, by go_num, rfl, by first | rfl | trivial, by simp⟩, by simp [intOf]⟩
    · simp at hs
      subst hs
      go_wp2
      exact ⟨⟨2, _, by omega, by go_num, rfl, by first | rfl | trivial, by simp⟩, by simp [intOf]⟩
    · simp at hs
      subst hs
      go_wp2
      exact ⟨⟨3, _, by omega, by go_num, rfl, by first | rfl | trivial, by simp⟩, by simp [intOf]⟩
    · simp at hs
      obtain ⟨n, hn⟩ : ∃ n : Nat, n = v1.length + v2.length + v3.length := ⟨_, rfl⟩
      have hs2 : s = (n : Int) := by omega
      subst hs2
      have hgrow := grow_any n w (by omega) (by omega)
      clear hs hn
      go_wp2_with fail
      refine hgrow.mono ?_
      rintro e w1 ⟨lv, rfl, hr, hb⟩
      have HR := hide hr
      have HB := hide hb
      clear hr hb hgrow
      go_wp2
      go_loopw [6, 27] (fun lv i w2 => ∃ (j : Nat) (xs : List Value), j ≤ 3 ∧ i = .int .i64 j ∧ Hid (w2.ownsRow w.heap.size 85 1 lv xs.length xs) ∧ Hid (Below w.heap.size w w2) ∧ xs = (if 0 < j then v1 else []) ++ (if 1 < j then v2 else []) ++ (if 2 < j then v3 else [])) (fun _ i _ => 3 - (intOf i).toNat)
      case atStart => exact ⟨0, [], by omega, rfl, HR, HB, by simp⟩
      case round =>
        obtain ⟨j, xs, hj, rfl, HR2, HB2, hxs⟩ := hrel
        have hws := (unhide HB2).size
        have k0 := ((unhide HB2).cell (by exact hgl)).trans m0
        have k1 := ((unhide HB2).cell (by exact hgl)).trans m1
        have k2 := ((unhide HB2).cell (by exact hgl)).trans m2
        have hgl2 := Nat.lt_of_lt_of_le hgl hws
        have Y1 := hide ((unhide H).1.below (unhide HB2))
        have Y2 := hide ((unhide H).2.1.below (unhide HB2))
        have Y3 := hide ((unhide H).2.2.below (unhide HB2))
        obtain rfl | rfl | rfl | rfl : j = 0 ∨ j = 1 ∨ j = 2 ∨ j = 3 := by omega
        · simp at hxs
          subst hxs
          go_wp2_with (first | (at_builtin; refine wpList_append_rows rfl _ _ rfl w.heap.size rfl rfl (unhide HR2) (unhide Y1) (unhide HS).1 (by simp; omega) hws ?_; intro r w' q1 q2 q3) | go_in)
          exact ⟨⟨1, _, by omega, by go_num, hide q1, hide ((unhide HB2).grown q2 hws (fun g hg => ((unhide HR2).lt g hg).1)), by simp⟩, by simp [intOf]⟩
        · simp at hxs
          subst hxs
          go_wp2_with (first | (at_builtin; refine wpList_append_rows rfl _ _ rfl w.heap.size rfl rfl (unhide HR2) (unhide Y2) (unhide HS).2.1 (by omega) hws ?_; intro r w' q1 q2 q3) | go_in)
          exact ⟨⟨2, _, by omega, by go_num, hide q1, hide ((unhide HB2).grown q2 hws (fun g hg => ((unhide HR2).lt g hg).1)), by simp⟩, by simp [intOf]⟩
        · simp at hxs
          subst hxs
          go_wp2_with (first | (at_builtin; refine wpList_append_rows rfl _ _ rfl w.heap.size rfl rfl (unhide HR2) (unhide Y3) (unhide HS).2.2 (by simp; omega) hws ?_; intro r w' q1 q2 q3) | go_in)
          exact ⟨⟨3, _, by omega, by go_num, hide q1, hide ((unhide HB2).grown q2 hws (fun g hg => ((unhide HR2).lt g hg).1)), by simp⟩, by simp [intOf]⟩
        · simp at hxs
          subst hxs
          go_wp2
          go_ret
          exact ⟨_, rfl, BRow.of_row (base := w.heap.size) (by simpa using unhide HR2), unhide HB2⟩
set_option maxHeartbeats 2000000 in
set_option maxRecDepth 100000 in
theorem funcB_any (a0 a1 a2 a3 y1 y2 b0 b1 b2 b3 b4 : Value) (v1 v2 : List Value) (w : World) (h1 : BRow w y1 v1) (h2 : BRow w y2 v2) (s1 : Shps v1) (s2 : Shps v2) (n1 : v1.length ≤ 500000) (n2 : v2.length ≤ 500000) :
    Calls Tryz.prog 222 #[.agg #[a0, a1, a2, a3, y1, y2, b0, b1, b2, b3, b4]] w fun e w' => ∃ v, e = .returned v ∧ BRow w' v (v1 ++ v2 ++ [.iface 134 (.agg #[b0, b1, b2, b3, b4])]) ∧ Below w.heap.size w w' := by
  obtain ⟨c1, e1, rfl⟩ := brow_slice h1
  obtain ⟨c2, e2, rfl⟩ := brow_slice h2
  have bb := below3 w (.cells #[a0, a1, a2, a3, .slice c1 v1.length e1, .slice c2 v2.length e2, b0, b1, b2, b3, b4] 136) (.cells #[.iface 134 (.agg #[b0, b1, b2, b3, b4])] 85) (.cells #[.slice c1 v1.length e1, .slice c2 v2.length e2, .slice (some ⟨w.heap.size + 1, 0, none⟩) 1 1] 42)
  have hy := BRow.new (cs := #[.iface 134 (.agg #[b0, b1, b2, b3, b4])]) (at_alloc (a := .cells #[.slice c1 v1.length e1, .slice c2 v2.length e2, .slice (some ⟨w.heap.size + 1, 0, none⟩) 1 1] 42) (at_new1 w (.cells #[a0, a1, a2, a3, .slice c1 v1.length e1, .slice c2 v2.length e2, b0, b1, b2, b3, b4] 136) (.cells #[.iface 134 (.agg #[b0, b1, b2, b3, b4])] 85))) (by unfold maxLen; simp)
  have hc := concat_any (w.heap.size + 2) _ _ _ v1 v2 _ _ (at_new2 w (.cells #[a0, a1, a2, a3, .slice c1 v1.length e1, .slice c2 v2.length e2, b0, b1, b2, b3, b4] 136) (.cells #[.iface 134 (.agg #[b0, b1, b2, b3, b4])] 85) (.cells #[.slice c1 v1.length e1, .slice c2 v2.length e2, .slice (some ⟨w.heap.size + 1, 0, none⟩) 1 1] 42)) (h1.below bb) (h2.below bb) hy s1 s2 (by intro v hv; simp at hv; exact ⟨_, _, hv⟩) n1 n2 (by simp) (by simp)
  clear hy h1 h2
  go_enter Tryz.func222, Tryz.ntmps222
  go_wp2_with fail
  refine hc.mono ?_
  rintro e w' ⟨v, rfl, hv, hb⟩
  have HV := hide (And.intro hv (bb.trans (hb.mono bb.size)))
  clear hv hb hc bb
  go_wp2
  go_ret
  exact ⟨_, rfl, (unhide HV).1, (unhide HV).2⟩
section
def termsLI (ts : List Tok) (fin : Int) (R : RecI) : Nat → List P → T → Option (List P × T)
  | 0, _, _ => none
  | f + 1, ps, s =>
    if seesT ts fin s ⟨#[44]⟩ then
      match R (.level 1) (upT s) with
      | none => none
      | some (q, s1) => termsLI ts fin R f (ps ++ [q]) s1
    else some (ps, s)
def termsI (ts : List Tok) (fin : Int) (R : RecI) (s : T) : Option (List P × T) :=
  match R (.level 1) s with
  | none => none
  | some (p, s1) => termsLI ts fin R 1000 [p] s1
section
variable {x : Cx} {Q : List (Value × P)} {L : List (Nat × Obj)} {s s' : T} {w w' : World} {R : RecI} {ps : List P}
def TmI (x : Cx) (Q : List (Value × P)) (L : List (Nat × Obj)) (R : RecI) (ps : List P) (s' : T) (v : Value) (wr : World) (f : Nat) : Prop := ∃ (qs : List P) (s1 : T), Lst x Q L s1 v qs wr ∧ qs.length + f ≤ 1001 ∧ termsLI x.ts x.fin R f qs s1 = some (ps, s')
set_option maxHeartbeats 4000000 in
set_option maxRecDepth 100000 in
theorem terms_walk (ok : x.Ok) (G : GoodI x R) (h : PT x Q L s w) (hr : termsI x.ts x.fin R s = some (ps, s')) : Calls Tryz.prog 191 #[.pointer (some ⟨x.B, 0, none⟩)] w fun e w' => ∃ v, e = .returned v ∧ PT x ((rowV v, rowP ps) :: Q) L s' w' := by
  have hsz := h.size
  unfold termsI at hr
  split at hr
  · cases hr
  · go_enter Tryz.func191, Tryz.ntmps191
    go_wp2_with (first | (go_at_call 136; refine (G.term h (by assumption)).mono ?_; rintro e w' ⟨v, rfl, h⟩; have hsz := h.size; rcases h.top.shp with rfl | ⟨ty, u, rfl⟩))
    all_goals
      go_loopw [3] (fun v wr => ∃ f, TmI x Q L R ps s' v wr f) (fun v wr => least (TmI x Q L R ps s' v wr))
      case atStart => exact ⟨1000, _, _, Lst.one h, by simp, hr⟩
      case round =>
        clear h hr
        have hr := least_is hrel
        generalize hF : least (TmI x Q L R ps s' _ wr) = F at hr
        obtain ⟨qs, s1, ⟨Q', L', h, ho⟩, hlen, hl⟩ := hr
        cases F with
        | zero => simp [termsLI] at hl
        | succ f =>
          rw [termsLI] at hl
          have hM := hide (Nat.lt_of_lt_of_eq (Nat.lt_succ_self f) hF.symm)
          have hsz := h.size
          cases hi : seesT x.ts x.fin s1 ⟨#[44]⟩ with
          | false =>
            rw [hi] at hl
            simp only [Bool.false_eq_true, if_false] at hl
            cases hl
            go_wp2_with (first | (go_at_call 104; refine (accept_yes ok _ (by decide) (by first | exact h | exact h.drewN _ | exact h.hold _ | exact (h.hold _).drew | exact (h.hold _).drewN _ | exact h.drew | exact h.alloc _ | exact h.less | exact (h.alloc _).drewN _ | exact (h.less).alloc _) (by assumption)).mono ?_; rintro e w' ⟨rfl, h⟩; have hsz := h.size) | (go_at_call 104; refine (accept_no ok _ (by first | exact h | exact h.drewN _ | exact h.hold _ | exact (h.hold _).drew | exact (h.hold _).drewN _ | exact h.drew | exact h.alloc _ | exact h.less | exact (h.alloc _).drewN _ | exact (h.less).alloc _) (by first | assumption | exact eq_false_of_ne_true (by assumption))).mono ?_; rintro e w' ⟨rfl, h⟩; have hsz := h.size) | (go_at_call 136; refine (G.term (by first | exact h | exact h.drewN _ | exact h.hold _ | exact (h.hold _).drew | exact (h.hold _).drewN _ | exact h.drew | exact h.alloc _ | exact h.less | exact (h.alloc _).drewN _ | exact (h.less).alloc _) (by assumption)).mono ?_; rintro e w' ⟨v, rfl, h⟩; have hsz := h.size; rcases h.top.shp with rfl | ⟨ty, u, rfl⟩) | (at_builtin; refine wpList_append_part rfl _ _ rfl _ _ _ _ h ho (by omega) rfl rfl ?_; intro lv' w2 hL))
            go_ret
            exact ⟨_, rfl, Lst.done ⟨Q', L', h, ho⟩⟩
          | true =>
            rw [hi] at hl
            simp only [if_true] at hl
            split at hl
            · cases hl
            · rename_i q s2 eq
              go_wp2_with (first | (go_at_call 104; refine (accept_yes ok _ (by decide) (by first | exact h | exact h.drewN _ | exact h.hold _ | exact (h.hold _).drew | exact (h.hold _).drewN _ | exact h.drew | exact h.alloc _ | exact h.less | exact (h.alloc _).drewN _ | exact (h.less).alloc _) (by assumption)).mono ?_; rintro e w' ⟨rfl, h⟩; have hsz := h.size) | (go_at_call 104; refine (accept_no ok _ (by first | exact h | exact h.drewN _ | exact h.hold _ | exact (h.hold _).drew | exact (h.hold _).drewN _ | exact h.drew | exact h.alloc _ | exact h.less | exact (h.alloc _).drewN _ | exact (h.less).alloc _) (by first | assumption | exact eq_false_of_ne_true (by assumption))).mono ?_; rintro e w' ⟨rfl, h⟩; have hsz := h.size) | (go_at_call 136; refine (G.term (by first | exact h | exact h.drewN _ | exact h.hold _ | exact (h.hold _).drew | exact (h.hold _).drewN _ | exact h.drew | exact h.alloc _ | exact h.less | exact (h.alloc _).drewN _ | exact (h.less).alloc _) (by assumption)).mono ?_; rintro e w' ⟨v, rfl, h⟩; have hsz := h.size; rcases h.top.shp with rfl | ⟨ty, u, rfl⟩) | (at_builtin; refine wpList_append_part rfl _ _ rfl _ _ _ _ h ho (by omega) rfl rfl ?_; intro lv' w2 hL))
              all_goals go_roundw
              all_goals first | exact ⟨f, _, _, hL, by simp; omega, hl⟩ | ((repeat apply Exists.intro); exact ⟨⟨f, _, _, hL, by simp; omega, hl⟩, rfl⟩) | exact Nat.lt_of_le_of_lt (least_le (show TmI x Q L R ps s' _ _ f from ⟨_, _, hL, by simp; omega, hl⟩)) (unhide hM)
end
end
section
def decTy (k : Int) : Nat := if k = 5 then 199 else if k = 7 then 133 else 132
/-- The name that comes next, and the reader behind it. -/
def nmH (ts : List Tok) (fin : Int) (k : Int) (s : T) : Hd := ⟨k, (tokT ts fin (mustK ts fin s 1)).pos, 0, (tokT ts fin (mustK ts fin s 1)).text⟩
def nmT (ts : List Tok) (fin : Int) (s : T) : T := upT (mustK ts fin s 1)
def nmP (ts : List Tok) (fin : Int) (k : Int) (s : T) : P := .node (decTy k) (nmH ts fin k s) []
def namesLI (ts : List Tok) (fin : Int) (k : Int) : Nat → List P → T → Option (List P × T)
  | 0, _, _ => none
  | f + 1, ps, s => if seesT ts fin s ⟨#[44]⟩ then namesLI ts fin k f (ps ++ [nmP ts fin k (upT s)]) (nmT ts fin (upT s)) else some (ps, s)
def namesI (ts : List Tok) (fin : Int) (k : Int) (s : T) : Option (List P × T) := namesLI ts fin k 1000 [nmP ts fin k s] (nmT ts fin s)
section
variable {x : Cx} {Q : List (Value × P)} {L : List (Nat × Obj)} {s s' : T} {w w' : World} {R : RecI} {ps : List P}
set_option maxHeartbeats 1000000 in
set_option maxRecDepth 100000 in
theorem declared_any (hd : Hd) (h : PT x Q L s w) : Calls Tryz.prog 160 #[hd.val] w fun e w' => e = .returned (.iface (decTy hd.kind) (.agg hd.cells.toArray)) ∧ PT x ((.iface (decTy hd.kind) (.agg hd.cells.toArray), .node (decTy hd.kind) hd []) :: Q) L s w' := by
  have hk := fun (w : World) (h : PT x Q L s w) => h.push (.leaf (decTy hd.kind) hd (by unfold decTy; split; decide; split <;> decide))
  obtain ⟨k, po, nu, na⟩ := hd
  simp only [Hd.val, Hd.cells, decTy] at hk ⊢
  by_cases h5 : k = 5
  · subst h5
    simp only [if_true] at hk ⊢
    go_enter Tryz.func160, Tryz.ntmps160
    go_wp2
    go_ret
    exact ⟨rfl, hk _ (h.alloc _)⟩
  · rw [if_neg h5] at hk ⊢
    by_cases h7 : k = 7
    · subst h7
      simp only [if_true] at hk ⊢
      go_enter Tryz.func160, Tryz.ntmps160
      go_wp2
      go_ret
      exact ⟨rfl, hk _ (h.alloc _)⟩
    · rw [if_neg h7] at hk ⊢
      go_enter Tryz.func160, Tryz.ntmps160
      go_wp2
      go_ret
      exact ⟨rfl, hk _ (h.alloc _)⟩
def NmI (x : Cx) (Q : List (Value × P)) (L : List (Nat × Obj)) (k : Int) (ps : List P) (s' : T) (v : Value) (wr : World) (f : Nat) : Prop := ∃ (qs : List P) (s1 : T), Lst x Q L s1 v qs wr ∧ qs.length + f ≤ 1001 ∧ namesLI x.ts x.fin k f qs s1 = some (ps, s')
set_option maxHeartbeats 4000000 in
set_option maxRecDepth 100000 in
theorem names_walk (ok : x.Ok) (k : Int) (h : PT x Q L s w) (hr : namesI x.ts x.fin k s = some (ps, s')) : Calls Tryz.prog 139 #[.pointer (some ⟨x.B, 0, none⟩), .int .i64 k] w fun e w' => ∃ v, e = .returned v ∧ PT x ((rowV v, rowP ps) :: Q) L s' w' := by
  have hsz := h.size
  unfold namesI at hr
  have hN := fun (w : World) (Q : List (Value × P)) (L : List (Nat × Obj)) (h : PT x Q L s w) => named_any ok k h
  have hP0 : nmP x.ts x.fin k s = .node (decTy (nmH x.ts x.fin k s).kind) (nmH x.ts x.fin k s) [] := rfl
  rw [hP0] at hr
  have hD := fun (w : World) (Q : List (Value × P)) (L : List (Nat × Obj)) (h : PT x Q L (nmT x.ts x.fin s) w) => declared_any (nmH x.ts x.fin k s) h
  change ∀ w Q L, PT x Q L s w → Calls Tryz.prog 106 #[.pointer (some ⟨x.B, 0, none⟩), .int .i64 k] w fun e w' => e = .returned (Hd.val (nmH x.ts x.fin k s)) ∧ PT x Q L (nmT x.ts x.fin s) w' at hN
  clear hP0
  generalize nmH x.ts x.fin k s = hd at *
  generalize nmT x.ts x.fin s = s0 at *
  obtain ⟨hk, hp, hn, hm⟩ := hd
  simp only [Hd.val, Hd.cells] at hN hD hr
  generalize decTy hk = ty0 at *
  go_enter Tryz.func139, Tryz.ntmps139
  go_wp2_with (first | (go_at_call 106; refine (hN _ _ _ h).mono ?_; rintro e w' ⟨rfl, h⟩; have hsz := h.size) | (go_at_call 160; refine (hD _ _ _ h).mono ?_; rintro e w' ⟨rfl, h⟩; have hsz := h.size))
  go_loopw [5] (fun v wr => ∃ f, NmI x Q L k ps s' v wr f) (fun v wr => least (NmI x Q L k ps s' v wr))
  case atStart => exact ⟨1000, _, _, Lst.one h, by simp, hr⟩
  case round =>
    clear h hr hN hD
    have hr := least_is hrel
    generalize hF : least (NmI x Q L k ps s' _ wr) = F at hr
    obtain ⟨qs, s1, ⟨Q', L', h, ho⟩, hlen, hl⟩ := hr
    cases F with
    | zero => simp [namesLI] at hl
    | succ f =>
      rw [namesLI] at hl
      have hM := hide (Nat.lt_of_lt_of_eq (Nat.lt_succ_self f) hF.symm)
      have hsz := h.size
      cases hi : seesT x.ts x.fin s1 ⟨#[44]⟩ with
      | false =>
        rw [hi] at hl
        simp only [Bool.false_eq_true, if_false] at hl
        cases hl
        go_wp2_with (first | (go_at_call 104; refine (accept_yes ok _ (by decide) (by first | exact h | exact h.drewN _ | exact h.hold _ | exact (h.hold _).drew | exact (h.hold _).drewN _ | exact h.drew | exact h.alloc _ | exact h.less | exact (h.alloc _).drewN _ | exact (h.less).alloc _) (by assumption)).mono ?_; rintro e w' ⟨rfl, h⟩; have hsz := h.size) | (go_at_call 104; refine (accept_no ok _ (by first | exact h | exact h.drewN _ | exact h.hold _ | exact (h.hold _).drew | exact (h.hold _).drewN _ | exact h.drew | exact h.alloc _ | exact h.less | exact (h.alloc _).drewN _ | exact (h.less).alloc _) (by first | assumption | exact eq_false_of_ne_true (by assumption))).mono ?_; rintro e w' ⟨rfl, h⟩; have hsz := h.size))
        go_ret
        exact ⟨_, rfl, Lst.done ⟨Q', L', h, ho⟩⟩
      | true =>
        rw [hi] at hl
        simp only [if_true] at hl
        have hN := fun (w : World) (Q : List (Value × P)) (L : List (Nat × Obj)) (h : PT x Q L (upT s1) w) => named_any ok k h
        have hP0 : nmP x.ts x.fin k (upT s1) = .node (decTy (nmH x.ts x.fin k (upT s1)).kind) (nmH x.ts x.fin k (upT s1)) [] := rfl
        rw [hP0] at hl
        have hD := fun (w : World) (Q : List (Value × P)) (L : List (Nat × Obj)) (h : PT x Q L (nmT x.ts x.fin (upT s1)) w) => declared_any (nmH x.ts x.fin k (upT s1)) h
        change ∀ w Q L, PT x Q L (upT s1) w → Calls Tryz.prog 106 #[.pointer (some ⟨x.B, 0, none⟩), .int .i64 k] w fun e w' => e = .returned (Hd.val (nmH x.ts x.fin k (upT s1))) ∧ PT x Q L (nmT x.ts x.fin (upT s1)) w' at hN
        clear hP0
        generalize nmH x.ts x.fin k (upT s1) = hd at *
        generalize nmT x.ts x.fin (upT s1) = s2 at *
        obtain ⟨hk, hp, hn, hm⟩ := hd
        simp only [Hd.val, Hd.cells] at hN hD hl
        generalize decTy hk = ty1 at *
        go_wp2_with (first | (go_at_call 104; refine (accept_yes ok _ (by decide) (by first | exact h | exact h.drewN _ | exact h.hold _ | exact (h.hold _).drew | exact (h.hold _).drewN _ | exact h.drew | exact h.alloc _ | exact h.less | exact (h.alloc _).drewN _ | exact (h.less).alloc _) (by assumption)).mono ?_; rintro e w' ⟨rfl, h⟩; have hsz := h.size) | (go_at_call 104; refine (accept_no ok _ (by first | exact h | exact h.drewN _ | exact h.hold _ | exact (h.hold _).drew | exact (h.hold _).drewN _ | exact h.drew | exact h.alloc _ | exact h.less | exact (h.alloc _).drewN _ | exact (h.less).alloc _) (by first | assumption | exact eq_false_of_ne_true (by assumption))).mono ?_; rintro e w' ⟨rfl, h⟩; have hsz := h.size) | (go_at_call 106; refine (hN _ _ _ h).mono ?_; rintro e w' ⟨rfl, h⟩; have hsz := h.size) | (go_at_call 160; refine (hD _ _ _ h).mono ?_; rintro e w' ⟨rfl, h⟩; have hsz := h.size) | (at_builtin; refine wpList_append_part rfl _ _ rfl _ _ _ _ h ho (by omega) rfl rfl ?_; intro lv' w2 hL))
        all_goals go_roundw
        all_goals first | exact ⟨f, _, _, hL, by simp; omega, hl⟩ | ((repeat apply Exists.intro); exact ⟨⟨f, _, _, hL, by simp; omega, hl⟩, rfl⟩) | exact Nat.lt_of_le_of_lt (least_le (show NmI x Q L k ps s' _ _ f from ⟨_, _, hL, by simp; omega, hl⟩)) (unhide hM)
end
end
section
theorem row_shape {x : Cx} {L : List (Nat × Obj)} {w : World} {v : Value} {ps : List P} (h : IsPart x L w (rowV v) (rowP ps)) : ∃ a c, v = .slice a ps.length c := by
  obtain ⟨vs, hr, _⟩ := row_inv h
  exact row_slice hr.row
/-- 'list = append(list, others...)', at the operation. -/
theorem wpList_append_row {x : Cx} {Q Q' : List (Value × P)} {L L' : List (Nat × Obj)} {s : T} {w : World} {ops : Array Oper} {rest : List Oper} {o : Oper} {a : Act} {K : Exit → Act → World → Prop}
    (hg : o.guard = none) (l y : Operand) (hop : o.op = Op.call { callee := Callee.builtin Builtin.append, args := #[l, y], argTypes := #[42, 42] })
    (lv v2 : Value) (ps qs : List P) (h : PT x ((rowV v2, rowP qs) :: (Q' ++ Q)) (L' ++ L) s w) (ho : Own lv ps Q' L') (hq : 0 < qs.length) (hn : ps.length + qs.length < 1048576)
    (hl : a.eval l = lv) (hy : a.eval y = v2)
    (hK : ∀ lv' w', Lst x Q L s lv' (ps ++ qs) w' → wpList Tryz.prog ops K rest (a.put o.dst lv') w') :
    wpList Tryz.prog ops K (o :: rest) a w := by
  refine wpList_plain hg fun K' hK' => ?_
  obtain ⟨i0, hi, hz0, hz1, hz2⟩ := info_parts info85
  obtain ⟨vs2, hrow2, hel⟩ := row_inv h.top
  have hvl2 : vs2.length = qs.length := by simpa using hrow2.row.1
  rcases hrow2.row.2 with ⟨_, e0⟩ | ⟨g2, cap2, cur2, rfl, hb2, hh2, hc2, hm2, hsz2, hx2⟩
  · omega
  have elem : ∀ (i : Nat) u, vs2[i]? = some u → ∃ p, qs[i]? = some p ∧ IsPart x (L' ++ L) w u p := fun i u hu => by
    have hi : i < qs.length := by rw [← hvl2]; exact (List.getElem?_eq_some_iff.1 hu).1
    exact ⟨_, List.getElem?_eq_getElem hi, hel i u _ hu (List.getElem?_eq_getElem hi)⟩
  have h1 : PT x (vs2.zip qs ++ (Q' ++ Q)) (L' ++ L) s w := ⟨h.le, h.blk, fun u q hm => by
    rcases List.mem_append.1 hm with hm | hm
    · obtain ⟨i, hi⟩ := List.getElem?_of_mem hm
      rw [List.getElem?_zip_eq_some] at hi
      exact hel i u q hi.1 hi.2
    · exact h.q u q (List.mem_cons_of_mem _ hm), h.keep, h.nd, h.bel⟩
  obtain ⟨a0, cap, rfl, ho⟩ := ho
  have hrow : ∃ vs, w.ownsRow (x.B + 1) 85 1 (.slice a0 ps.length cap) ps.length vs ∧ vs.length = ps.length ∧ Q' = vs.zip ps := by
    rcases ho with ⟨rfl, rfl, rfl, rfl, rfl⟩ | ⟨g, cur, vs, rfl, rfl, rfl, hvl, hc, hm, hsz, hx⟩
    · exact ⟨[], ⟨rfl, .inl ⟨rfl, rfl⟩⟩, rfl, rfl⟩
    · have hk := h1.keep g _ (by simp : (g, Obj.cells cur 85) ∈ [(g, Obj.cells cur 85)] ++ L)
      exact ⟨vs, ⟨by simpa using hvl, .inr ⟨g, cap, cur, rfl, hk.1, hk.2, hc, hm, by simpa using hsz, by simpa using hx⟩⟩, hvl, rfl⟩
  obtain ⟨vs, hrow, hvl, hQ⟩ := hrow
  obtain ⟨v', w', hrun, r1, r2, _, r3⟩ := run_append_own_at (P := Tryz.prog) w (x.B + 1) 42 o.type 85 i0 .nilIface 1 16 Tryz.underlying42 hi hz0 hz1 hz2 rfl (by decide) (.slice a0 ps.length cap) ps.length vs hrow ⟨g2, 0, none⟩ qs.length cap2 vs2 (by simpa using hvl2)
    (by
      intro j u hu
      have hj : j < qs.length := by rw [← hvl2]; exact (List.getElem?_eq_some_iff.1 hu).1
      rw [← hx2, List.getElem?_take_of_lt (by omega), Array.getElem?_toList] at hu
      rw [Go.WideShapes.add_plain, Nat.zero_add]
      exact cell_of hh2 hu)
    (by
      intro u hu
      obtain ⟨i, hi⟩ := List.getElem?_of_mem hu
      obtain ⟨p, _, hp⟩ := elem i u hi
      rcases hp.shp with rfl | ⟨ty, z, rfl⟩ <;> rfl)
    (by unfold maxLen; omega) (by omega) (by have := h.size; omega)
  have hfin : Lst x Q L s v' (ps ++ qs) w' := by
    rcases r1.2 with ⟨_, e0⟩ | ⟨g', cap', cur', rfl, hb', hh', hc', hm', hsz', hx'⟩
    · omega
    have hP : PT x (vs2.zip qs ++ (Q' ++ Q)) ((g', .cells cur' 85) :: L) s w' := by
      rcases ho with ⟨rfl, rfl, rfl, rfl, rfl⟩ | ⟨g, cur, vs2, rfl, rfl, rfl, hvl2, hc, hm, hsz, hx⟩
      · exact PT.newrow (L := L) h1 r2 hh' (by rcases r3 with r3 | r3 <;> simp [Value.ownBlock] at r3; exact r3)
      · exact PT.regrow (L := L) h1 r2 hh' (by rcases r3 with r3 | r3 <;> simp [Value.ownBlock] at r3; (· exact .inl r3); (· exact .inr r3))
    refine ⟨(vs ++ vs2).zip (ps ++ qs), [(g', .cells cur' 85)], ?_, _, cap', by simp, .inr ⟨g', cur', vs ++ vs2, rfl, rfl, rfl, by simp [hvl, hvl2], by simpa using hc', hm', by simpa using hsz', by simpa using hx'⟩⟩
    refine ⟨hP.le, hP.blk, fun u q hm2 => hP.q u q ?_, hP.keep, hP.nd, hP.bel⟩
    rw [List.zip_append hvl] at hm2
    subst hQ
    simp only [List.mem_append] at hm2 ⊢
    rcases hm2 with (hm2 | hm2) | hm2
    · exact .inr (.inl hm2)
    · exact .inl hm2
    · exact .inr (.inr hm2)
  unfold Oper.wp
  simp [execOp, hop, resolve, invoke, builtin, hl, hy, hrun, Result.andThen]
  exact hK' _ _ (hK v' w' hfin)
def locK (ts : List Tok) (fin : Int) (s : T) : Int := if (tokT ts fin s).text = ⟨#[114, 101, 102]⟩ then 7 else 6
def localsLI (ts : List Tok) (fin : Int) : Nat → List P → T → Option (List P × T)
  | 0, _, _ => none
  | f + 1, ps, s =>
    if seesT ts fin s ⟨#[118, 97, 114]⟩ || seesT ts fin s ⟨#[114, 101, 102]⟩ then
      match namesI ts fin (locK ts fin s) (upT s) with
      | none => none
      | some (qs, s1) => localsLI ts fin f (ps ++ qs) (upT (mustT ts fin s1 ⟨#[59]⟩))
    else some (ps, s)
def localsI (ts : List Tok) (fin : Int) (s : T) : Option (List P × T) := localsLI ts fin 1000 [] s
theorem namesLI_len {ts : List Tok} {fin k : Int} {f : Nat} {ps qs : List P} {s s' : T} (h : namesLI ts fin k f ps s = some (qs, s')) : ps.length ≤ qs.length ∧ qs.length ≤ ps.length + f := by
  induction f generalizing ps s with
  | zero => simp [namesLI] at h
  | succ f ih =>
    rw [namesLI] at h
    split at h
    · have := ih h
      simp at this
      omega
    · cases h; omega
theorem namesI_len {ts : List Tok} {fin k : Int} {qs : List P} {s s' : T} (h : namesI ts fin k s = some (qs, s')) : 0 < qs.length ∧ qs.length ≤ 1001 := by
  have := namesLI_len h
  simp at this
  omega
section
variable {x : Cx} {Q : List (Value × P)} {L : List (Nat × Obj)} {s s' : T} {w w' : World} {R : RecI} {ps : List P}
def LoI (x : Cx) (Q : List (Value × P)) (L : List (Nat × Obj)) (ps : List P) (s' : T) (v : Value) (wr : World) (f : Nat) : Prop := ∃ (qs : List P) (s1 : T), Lst x Q L s1 v qs wr ∧ f ≤ 1000 ∧ qs.length ≤ (1000 - f) * 1001 ∧ localsLI x.ts x.fin f qs s1 = some (ps, s')
set_option maxHeartbeats 8000000 in
set_option maxRecDepth 100000 in
theorem locals_walk (ok : x.Ok) (h : PT x Q L s w) (hr : localsI x.ts x.fin s = some (ps, s')) : Calls Tryz.prog 140 #[.pointer (some ⟨x.B, 0, none⟩)] w fun e w' => ∃ v, e = .returned v ∧ PT x ((rowV v, rowP ps) :: Q) L s' w' := by
  have hsz := h.size
  unfold localsI at hr
  go_enter Tryz.func140, Tryz.ntmps140
  go_wp2
  go_loopw [3] (fun v wr => ∃ f, LoI x Q L ps s' v wr f) (fun v wr => least (LoI x Q L ps s' v wr))
  case atStart => exact ⟨1000, _, _, Lst.nil h, by omega, by simp, hr⟩
  case round =>
    clear h hr
    have hr := least_is hrel
    generalize hF : least (LoI x Q L ps s' _ wr) = F at hr
    obtain ⟨qs, s1, ⟨Q', L', h, ho⟩, hf1, hlen, hl⟩ := hr
    cases F with
    | zero => simp [localsLI] at hl
    | succ f =>
      rw [localsLI] at hl
      have hM := hide (Nat.lt_of_lt_of_eq (Nat.lt_succ_self f) hF.symm)
      have hsz := h.size
      cases hi : seesT x.ts x.fin s1 ⟨#[118, 97, 114]⟩ with
      | true =>
        rw [hi] at hl
        simp only [Bool.true_or, if_true] at hl
        have hk : locK x.ts x.fin s1 = 6 := by
          unfold seesT at hi
          simp only [locK, of_decide_eq_true hi]
          rfl
        rw [hk] at hl
        split at hl
        · cases hl
        · rename_i ns s2 en
          have hnl := namesI_len en
          have hlt := sees_lt (X := ⟨#[118, 97, 114]⟩) (by decide) (fun hc => (h.le hc).1) hi
          have hP := fun (w : World) (Q : List (Value × P)) (L : List (Nat × Obj)) (h : PT x Q L s1 w) => pass_any ok h (fun _ => hlt.2)
          have hT : (tokT x.ts x.fin s1).val = .agg #[.int .i64 (tokT x.ts x.fin s1).kind, .int .i64 (tokT x.ts x.fin s1).pos, .string ⟨#[118, 97, 114]⟩, .int .i64 (tokT x.ts x.fin s1).num] := by
            unfold seesT at hi
            simp only [Tok.val, of_decide_eq_true hi]
          rw [hT] at hP
          have g2 := fTok2
          generalize (tokT x.ts x.fin s1).kind = tk at *
          generalize (tokT x.ts x.fin s1).pos = tp at *
          generalize (tokT x.ts x.fin s1).num = tn at *
          clear hT
          go_wp2_with (first | (go_at_call 98; refine (sees_yes ok _ (by first | exact h | exact h.drewN _ | exact h.hold _ | exact (h.hold _).drew | exact (h.hold _).drewN _ | exact h.drew | exact h.alloc _ | exact h.less | exact (h.alloc _).drewN _ | exact (h.less).alloc _) (by assumption)).mono ?_; rintro e w' ⟨rfl, h⟩; have hsz := h.size) | (go_at_call 98; refine (sees_no ok _ (by first | exact h | exact h.drewN _ | exact h.hold _ | exact (h.hold _).drew | exact (h.hold _).drewN _ | exact h.drew | exact h.alloc _ | exact h.less | exact (h.alloc _).drewN _ | exact (h.less).alloc _) (by first | assumption | exact eq_false_of_ne_true (by assumption))).mono ?_; rintro e w' ⟨rfl, h⟩; have hsz := h.size) | (go_at_call 100; refine (hP _ _ _ (by first | exact h | exact h.drewN _ | exact h.hold _ | exact (h.hold _).drew | exact (h.hold _).drewN _ | exact h.drew | exact h.alloc _ | exact h.less | exact (h.alloc _).drewN _ | exact (h.less).alloc _)).mono ?_; rintro e w' ⟨rfl, h⟩; have hsz := h.size) | (go_at_call 139; refine (names_walk ok _ (by first | exact h | exact h.drewN _ | exact h.hold _ | exact (h.hold _).drew | exact (h.hold _).drewN _ | exact h.drew | exact h.alloc _ | exact h.less | exact (h.alloc _).drewN _ | exact (h.less).alloc _) en).mono ?_; rintro e w' ⟨v, rfl, h⟩; have hsz := h.size; obtain ⟨va, vc, rfl⟩ := row_shape h.top) | (at_builtin; refine wpList_append_row rfl _ _ rfl _ _ _ _ h ho (by omega) (by omega) rfl rfl ?_; intro lv' w2 hL; clear h; obtain ⟨Q2, L2, h, ho2⟩ := id hL; have hsz := h.size) | (go_at_call 107; refine (must_any ok _ (by decide) h).mono ?_; rintro e w' ⟨rfl, h⟩; have hL : Lst x Q L _ _ _ w' := ⟨Q2, L2, h, ho2⟩; have hsz := h.size))
          all_goals go_roundw
          all_goals first | exact ⟨f, _, _, hL, by omega, by simp; omega, hl⟩ | ((repeat apply Exists.intro); exact ⟨⟨f, _, _, hL, by omega, by simp; omega, hl⟩, rfl⟩) | exact Nat.lt_of_le_of_lt (least_le (show LoI x Q L ps s' _ _ f from ⟨_, _, hL, by omega, by simp; omega, hl⟩)) (unhide hM)
      | false =>
        rw [hi] at hl
        cases hi2 : seesT x.ts x.fin s1 ⟨#[114, 101, 102]⟩ with
        | true =>
          rw [hi2] at hl
          simp only [Bool.or_true, if_true] at hl
          have hk : locK x.ts x.fin s1 = 7 := by
            unfold seesT at hi2
            simp only [locK, of_decide_eq_true hi2]
            rfl
          rw [hk] at hl
          split at hl
          · cases hl
          · rename_i ns s2 en
            have hnl := namesI_len en
            have hlt := sees_lt (X := ⟨#[114, 101, 102]⟩) (by decide) (fun hc => (h.le hc).1) hi2
            have hP := fun (w : World) (Q : List (Value × P)) (L : List (Nat × Obj)) (h : PT x Q L s1 w) => pass_any ok h (fun _ => hlt.2)
            have hT : (tokT x.ts x.fin s1).val = .agg #[.int .i64 (tokT x.ts x.fin s1).kind, .int .i64 (tokT x.ts x.fin s1).pos, .string ⟨#[114, 101, 102]⟩, .int .i64 (tokT x.ts x.fin s1).num] := by
              unfold seesT at hi2
              simp only [Tok.val, of_decide_eq_true hi2]
            rw [hT] at hP
            have g2 := fTok2
            generalize (tokT x.ts x.fin s1).kind = tk at *
            generalize (tokT x.ts x.fin s1).pos = tp at *
            generalize (tokT x.ts x.fin s1).num = tn at *
            clear hT
            go_wp2_with (first | (go_at_call 98; refine (sees_yes ok _ (by first | exact h | exact h.drewN _ | exact h.hold _ | exact (h.hold _).drew | exact (h.hold _).drewN _ | exact h.drew | exact h.alloc _ | exact h.less | exact (h.alloc _).drewN _ | exact (h.less).alloc _) (by assumption)).mono ?_; rintro e w' ⟨rfl, h⟩; have hsz := h.size) | (go_at_call 98; refine (sees_no ok _ (by first | exact h | exact h.drewN _ | exact h.hold _ | exact (h.hold _).drew | exact (h.hold _).drewN _ | exact h.drew | exact h.alloc _ | exact h.less | exact (h.alloc _).drewN _ | exact (h.less).alloc _) (by first | assumption | exact eq_false_of_ne_true (by assumption))).mono ?_; rintro e w' ⟨rfl, h⟩; have hsz := h.size) | (go_at_call 100; refine (hP _ _ _ (by first | exact h | exact h.drewN _ | exact h.hold _ | exact (h.hold _).drew | exact (h.hold _).drewN _ | exact h.drew | exact h.alloc _ | exact h.less | exact (h.alloc _).drewN _ | exact (h.less).alloc _)).mono ?_; rintro e w' ⟨rfl, h⟩; have hsz := h.size) | (go_at_call 139; refine (names_walk ok _ (by first | exact h | exact h.drewN _ | exact h.hold _ | exact (h.hold _).drew | exact (h.hold _).drewN _ | exact h.drew | exact h.alloc _ | exact h.less | exact (h.alloc _).drewN _ | exact (h.less).alloc _) en).mono ?_; rintro e w' ⟨v, rfl, h⟩; have hsz := h.size; obtain ⟨va, vc, rfl⟩ := row_shape h.top) | (at_builtin; refine wpList_append_row rfl _ _ rfl _ _ _ _ h ho (by omega) (by omega) rfl rfl ?_; intro lv' w2 hL; clear h; obtain ⟨Q2, L2, h, ho2⟩ := id hL; have hsz := h.size) | (go_at_call 107; refine (must_any ok _ (by decide) h).mono ?_; rintro e w' ⟨rfl, h⟩; have hL : Lst x Q L _ _ _ w' := ⟨Q2, L2, h, ho2⟩; have hsz := h.size))
            all_goals go_roundw
            all_goals first | exact ⟨f, _, _, hL, by omega, by simp; omega, hl⟩ | ((repeat apply Exists.intro); exact ⟨⟨f, _, _, hL, by omega, by simp; omega, hl⟩, rfl⟩) | exact Nat.lt_of_le_of_lt (least_le (show LoI x Q L ps s' _ _ f from ⟨_, _, hL, by omega, by simp; omega, hl⟩)) (unhide hM)
        | false =>
          rw [hi2] at hl
          simp only [Bool.or_self, Bool.false_eq_true, if_false] at hl
          cases hl
          go_wp2_with (first | (go_at_call 98; refine (sees_yes ok _ (by first | exact h | exact h.drewN _ | exact h.hold _ | exact (h.hold _).drew | exact (h.hold _).drewN _ | exact h.drew | exact h.alloc _ | exact h.less | exact (h.alloc _).drewN _ | exact (h.less).alloc _) (by assumption)).mono ?_; rintro e w' ⟨rfl, h⟩; have hsz := h.size) | (go_at_call 98; refine (sees_no ok _ (by first | exact h | exact h.drewN _ | exact h.hold _ | exact (h.hold _).drew | exact (h.hold _).drewN _ | exact h.drew | exact h.alloc _ | exact h.less | exact (h.alloc _).drewN _ | exact (h.less).alloc _) (by first | assumption | exact eq_false_of_ne_true (by assumption))).mono ?_; rintro e w' ⟨rfl, h⟩; have hsz := h.size) | (go_at_call 100; refine (hP _ _ _ (by first | exact h | exact h.drewN _ | exact h.hold _ | exact (h.hold _).drew | exact (h.hold _).drewN _ | exact h.drew | exact h.alloc _ | exact h.less | exact (h.alloc _).drewN _ | exact (h.less).alloc _)).mono ?_; rintro e w' ⟨rfl, h⟩; have hsz := h.size) | (go_at_call 139; refine (names_walk ok _ (by first | exact h | exact h.drewN _ | exact h.hold _ | exact (h.hold _).drew | exact (h.hold _).drewN _ | exact h.drew | exact h.alloc _ | exact h.less | exact (h.alloc _).drewN _ | exact (h.less).alloc _) en).mono ?_; rintro e w' ⟨v, rfl, h⟩; have hsz := h.size; obtain ⟨va, vc, rfl⟩ := row_shape h.top) | (at_builtin; refine wpList_append_row rfl _ _ rfl _ _ _ _ h ho (by omega) (by omega) rfl rfl ?_; intro lv' w2 hL; clear h; obtain ⟨Q2, L2, h, ho2⟩ := id hL; have hsz := h.size) | (go_at_call 107; refine (must_any ok _ (by decide) h).mono ?_; rintro e w' ⟨rfl, h⟩; have hL : Lst x Q L _ _ _ w' := ⟨Q2, L2, h, ho2⟩; have hsz := h.size))
          go_ret
          exact ⟨_, rfl, Lst.done ⟨Q', L', h, ho⟩⟩
end
end
end Go.Proofs.YtjikjejfobnfnaaGreatDoor.imp
