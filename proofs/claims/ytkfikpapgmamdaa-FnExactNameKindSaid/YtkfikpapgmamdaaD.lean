/-
  Rows copied: what the copies read as.
-/
import Derived.Test.YtkfikpapgmamdaaC
namespace Go.Proofs.Ytkfikpapgmamdaa.nk
open Go.RowKit Go.Proofs.Ytkfikpapgmamdaa.num
set_option linter.unusedVariables false

theorem row_below {w w' : World} {base : Nat} {e : TypeId} {size : Nat} {v : Value} {n : Nat} {xs : List Value} (h : w.ownsRow base e size v n xs) (hb : Below w.heap.size w w') : w'.ownsRow base e size v n xs := by
  obtain ⟨h1, h2⟩ := h
  refine ⟨h1, ?_⟩
  rcases h2 with h2 | ⟨g, cap, cur, hv, hg, hh, r⟩
  · exact .inl h2
  · exact .inr ⟨g, cap, cur, hv, hg, (hb.block g (Array.getElem?_eq_some_iff.1 hh).1).trans hh, r⟩
theorem frozen_of {w : World} {b i : Nat} {cs : Array Value} {t : TypeId} (h : w.heap[b]? = some (.cells cs t)) : w.frozen? ⟨b, i, none⟩ = false := by simp [World.frozen?, h]
theorem at_same {x : World} {b i : Nat} {v : Value} {cs : Array Value} {t : TypeId} {fr : Nat × Nat} (h : x.heap[b]? = some (.cells cs t fr)) : (x.setCell ⟨b, i, none⟩ v).heap[b]? = some (.cells (cs.setIfInBounds i v) t fr) := by
  simp [World.setCell, Array.getElem?_modify, h]
theorem row_put {w : World} {base n cap g o : Nat} {xs : List Value} {e : TypeId} {size : Nat} (h : w.ownsRow base e size (.slice (some ⟨g, 0, none⟩) n cap) n xs) (u : Value) : (w.setCell ⟨g, o, none⟩ u).ownsRow base e size (.slice (some ⟨g, 0, none⟩) n cap) n (xs.set o u) := by
  refine ⟨by simpa using h.1, ?_⟩
  rcases h.2 with ⟨h2, _⟩ | ⟨g', cap', cur, hv, hg, hh, hc, hm, hsz, hx⟩
  · cases h2
  · cases hv
    refine .inr ⟨g, cap, cur.setIfInBounds o u, rfl, hg, at_same hh, hc, hm, by simpa using hsz, ?_⟩
    rw [← hx, Array.toList_setIfInBounds, List.take_set]
theorem row_at {w : World} {base n cap g o : Nat} {xs : List Value} {e : TypeId} {size : Nat} (h : w.ownsRow base e size (.slice (some ⟨g, 0, none⟩) n cap) n xs) (ho : o < n * size) : (∃ u, w.cell? ⟨g, o, none⟩ = some u) ∧ w.frozen? ⟨g, o, none⟩ = false ∧ g < w.heap.size := by
  rcases h.2 with ⟨h2, _⟩ | ⟨g', cap', cur, hv, hg, hh, hc, hm, hsz, hx⟩
  · cases h2
  · cases hv
    have hlt : o < cur.size := by rw [hsz]; exact Nat.lt_of_lt_of_le ho (Nat.mul_le_mul_right _ hc)
    exact ⟨⟨_, cell_of hh (Array.getElem?_eq_getElem hlt)⟩, frozen_of hh, (Array.getElem?_eq_some_iff.1 hh).1⟩
theorem grown_set {w w' : World} {g o : Nat} (h : w.grownBy w' (some g)) (u : Value) : w.grownBy (w'.setCell ⟨g, o, none⟩ u) (some g) :=
  ⟨h.os, h.tape, h.output, by simpa using h.size, fun k hk hne => (Below.heap_setCell w' ⟨g, o, none⟩ u k (fun e => hne (by rw [e]))).trans (h.block k hk hne)⟩

/-- Groups of k cells, one behind the other. -/
theorem flat_len {k : Nat} {css : List (List Value)} (h : ∀ c ∈ css, c.length = k) : css.flatten.length = css.length * k := by
  induction css with
  | nil => simp
  | cons a r ih =>
    rw [List.flatten_cons, List.length_append, ih (fun c hc => h c (List.mem_cons_of_mem _ hc)), h a (by simp), List.length_cons, Nat.succ_mul]
    omega
theorem flat_get {k : Nat} {css : List (List Value)} (h : ∀ c ∈ css, c.length = k) {j i : Nat} {c : List Value} (hj : css[j]? = some c) (hi : i < k) : css.flatten[j * k + i]? = c[i]? := by
  induction css generalizing j with
  | nil => simp at hj
  | cons a r ih =>
    have ha : a.length = k := h a (by simp)
    cases j with
    | zero =>
      simp at hj
      subst hj
      rw [List.flatten_cons, List.getElem?_append_left (by omega)]
      simp
    | succ j =>
      rw [List.flatten_cons, List.getElem?_append_right (by rw [ha, Nat.succ_mul]; omega), ha]
      have e : (j + 1) * k + i - k = j * k + i := by rw [Nat.succ_mul]; omega
      rw [e]
      exact ih (fun c hc => h c (List.mem_cons_of_mem _ hc)) (by simpa using hj)
theorem seq_of_row {α : Type} {k : Nat} {e : TypeId} {E : World → α → List Value → Prop} {base : Nat} {w : World} {v : Value} {l : List α} {css : List (List Value)} (h : w.ownsRow base e k v l.length css.flatten)
    (hcl : css.length = l.length) (hk : ∀ c ∈ css, c.length = k) (hE : ∀ (j : Nat) t c, l[j]? = some t → css[j]? = some c → E w t c) : Seq k E base w v l := by
  rcases h.2 with ⟨rfl, hn⟩ | ⟨g, cap, cur, rfl, hg, hh, hc, hm, hsz, hx⟩
  · exact ⟨none, 0, by rw [hn], by omega, by unfold maxLen; omega, .inl hn⟩
  · refine ⟨_, cap, rfl, hc, hm, .inr ⟨g, 0, rfl, hg, (Array.getElem?_eq_some_iff.1 hh).1, fun j t hj => ?_⟩⟩
    have hl : j < l.length := (List.getElem?_eq_some_iff.1 hj).1
    obtain ⟨c, hcj⟩ : ∃ c, css[j]? = some c := ⟨_, List.getElem?_eq_getElem (by omega)⟩
    have hck := hk c (List.mem_of_getElem? hcj)
    refine ⟨c, hE j t c hj hcj, hck, fun i u hu => ?_⟩
    have hi : i < k := by rw [← hck]; exact (List.getElem?_eq_some_iff.1 hu).1
    have hb : j * k + i < l.length * k := by
      have : j * k + k ≤ l.length * k := by rw [← Nat.succ_mul]; exact Nat.mul_le_mul_right _ hl
      omega
    have := flat_get hk hcj hi
    rw [← hx, List.getElem?_take_of_lt hb, Array.getElem?_toList] at this
    rw [Nat.zero_add]
    exact cell_of hh (this.trans hu)

theorem set1 (L rest : List Value) (n : Nat) (a : Value) (hL : L.length = n) (hr : 1 ≤ rest.length) : (L ++ [a]) ++ rest.drop 1 = (L ++ rest).set n a := by
  subst hL
  match rest, hr with
  | r0 :: rs, _ => simp
theorem set2 (L rest : List Value) (n : Nat) (a b : Value) (hL : L.length = n) (hr : 2 ≤ rest.length) : (L ++ [a, b]) ++ rest.drop 2 = ((L ++ rest).set n a).set (n + 1) b := by
  subst hL
  match rest, hr with
  | r0 :: r1 :: rs, _ => simp
theorem set5 (L rest : List Value) (n : Nat) (a b c d e : Value) (hL : L.length = n) (hr : 5 ≤ rest.length) :
    (L ++ [a, b, c, d, e]) ++ rest.drop 5 = (((((L ++ rest).set n a).set (n + 1) b).set (n + 2) c).set (n + 3) d).set (n + 4) e := by
  subst hL
  match rest, hr with
  | r0 :: r1 :: r2 :: r3 :: r4 :: rs, _ => simp

theorem info9 : (Try.prog.info? 9).map (fun i => (i.zero, i.size, i.bytes)) = some (some (.string ⟨#[]⟩), 1, 16) := by kernel_rfl

variable {base : Nat}
set_option maxHeartbeats 4000000 in
set_option maxRecDepth 100000 in
theorem toStrs_any (l : List ByteArray) (v : Value) (w : World) (h : Strs base w v l) (h20 : l.length ≤ 1048576) :
    Calls Try.prog 16 #[v] w fun e w' => (∃ v', e = .returned v' ∧ Strs w.heap.size w' v' l) ∧ Below w.heap.size w w' := by
  obtain ⟨a, cap, rfl, hc1, hc2, -⟩ := id h
  obtain ⟨i0, hi, hz0, hz1, hz2⟩ := info_parts info9
  have H := hide h
  unfold maxLen at hc2
  clear h
  have hlen : ∃ len, l.length = len := ⟨_, rfl⟩
  obtain ⟨len, hlen⟩ := hlen
  have HL := hide hlen
  rw [hlen] at h20 hc1 ⊢
  clear hlen
  go_enter Try.func16, Try.ntmps16
  go_wp2_with (at_make; refine wpList_make_full _ rfl _ _ 23 rfl w.heap.size 9 i0 _ 1 Try.underlying23 hi hz0 hz1 .i64 .i64 _ _ len rfl rfl rfl rfl (by rw [hz2]; omega) (by unfold maxLen; omega) (Nat.le_refl _) ?_; intro w1 hown hgrow)
  have B1 := hide ((Below.refl _ w).grown hgrow (Nat.le_refl _) (fun k hk => by cases hk))
  have hxl := hown.1
  generalize (madeCells _ _).toList = xs0 at hown hxl
  have R1 := hide hown
  clear hown hgrow
  go_loopw [4] (fun i wr => ∃ (j : Nat) (rest : List Value), j ≤ len ∧ i = .int .i64 j ∧ rest.length = len - j ∧ Hid (wr.ownsRow w.heap.size 9 1 (.slice (some ⟨w.heap.size, 0, none⟩) len len) len (((l.take j).map fun s => [Value.string s]).flatten ++ rest)) ∧ Hid (Below w.heap.size w wr)) (fun i _ => len - (intOf i).toNat)
  case atStart => exact ⟨0, xs0, by omega, rfl, by omega, hide (by simpa using unhide R1), B1⟩
  case round =>
    obtain ⟨j, rest, hj, rfl, hrest, HR, HB⟩ := hrel
    by_cases hlt : j < len
    · have hl := unhide HL
      obtain ⟨t, ht⟩ : ∃ t, l[j]? = some t := ⟨_, List.getElem?_eq_getElem (by omega)⟩
      obtain ⟨b, off, rfl, hb, hc, hsz⟩ := ((unhide H).sbelow (unhide HB)).sget ht
      have HT := hide ht
      obtain ⟨⟨y0, x0⟩, f0, hg2⟩ := row_at (unhide HR) (o := j) (by omega)
      clear ht hl
      go_wp2
      refine ⟨⟨j + 1, rest.drop 1, by omega, by go_num, by simp; omega, hide ?_, hide ?_⟩, by simp [intOf]; omega⟩
      · have e : ((l.take (j + 1)).map fun s => [Value.string s]).flatten = ((l.take j).map fun s => [Value.string s]).flatten ++ [Value.string t] := by
          rw [List.take_add_one, unhide HT]; simp
        have hL : ((l.take j).map fun s => [Value.string s]).flatten.length = j := by
          rw [flat_len (k := 1) (fun c hc => by obtain ⟨s, _, rfl⟩ := List.mem_map.1 hc; rfl)]
          have := unhide HL
          simp; omega
        rw [e, set1 _ rest j _ hL (by omega)]
        exact row_put (unhide HR) _
      · exact (unhide HB).setCell (p := ⟨w.heap.size, j, none⟩) (Nat.le_refl _) _
    · obtain rfl : j = len := by omega
      obtain rfl : rest = [] := List.length_eq_zero_iff.1 (by omega)
      go_wp2
      go_ret
      refine ⟨⟨_, rfl, ?_⟩, unhide HB⟩
      have := unhide HR
      have hz := unhide HL
      rw [List.append_nil, List.take_of_length_le (by omega), ← hz] at this
      rw [← hz]
      exact seq_of_row this (by simp) (by simp) (fun j' t c hj' hc' => by
        rw [List.getElem?_map, hj'] at hc'
        simp at hc'
        obtain ⟨b, off, -, -, -, hsz⟩ := (unhide H).sget (hj')
        exact ⟨hc'.symm, hsz⟩)
end Go.Proofs.Ytkfikpapgmamdaa.nk
