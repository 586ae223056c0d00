/-
  Rows of flat elements: what they read as, and that they stay.
-/
import Derived.Test.YthbbgkpkijlclaaDoorP0
import Derived.Deep.Slices
import Derived.ChangeArms
import Derived.OwnWalk
import Derived.Maps.AppendAt
namespace Go.Proofs.YthbbgkpkijlclaaDoor.rws
open Go.Deep Go.RowKit Go.ChangeShapes Go.WideShapes Go.Proofs.YthbbgkpkijlclaaDoor.num
set_option linter.unusedVariables false

/-- What a row reads as: elements of k cells each, told by their cells. -/
def Seq {α : Type} (k : Nat) (cells : α → List Value) (ok : α → Prop) (base : Nat) (w : World) (v : Value) (l : List α) : Prop :=
  ∃ a cap, v = .slice a l.length cap ∧ l.length ≤ cap ∧ cap ≤ maxLen ∧ (l.length = 0 ∨ ∃ b off, a = some ⟨b, off, none⟩ ∧ base ≤ b ∧ b < w.heap.size ∧
    ∀ j t, l[j]? = some t → ok t ∧ (cells t).length = k ∧ ∀ i u, (cells t)[i]? = some u → w.cell? ⟨b, off + j * k + i, none⟩ = some u)

theorem cell_of {w : World} {b i : Nat} {cs : Array Value} {t : TypeId} {fr : Nat × Nat} {v : Value} (h : w.heap[b]? = some (.cells cs t fr)) (hi : cs[i]? = some v) : w.cell? ⟨b, i, none⟩ = some v := by simp [World.cell?, h, hi]
theorem cell_grown {w w' : World} {row : Option Nat} (hg : w.grownBy w' row) {b o : Nat} (hb : b < w.heap.size) (hr : some b ≠ row) : w'.cell? ⟨b, o, none⟩ = w.cell? ⟨b, o, none⟩ := by
  have := hg.block b hb hr
  simp [World.cell?, this]
theorem grown_of_below {w w' : World} (h : Below w.heap.size w w') : w.grownBy w' none :=
  ⟨h.os, h.tape, h.output, h.size, fun i hi _ => h.block i hi⟩
section
variable {α : Type} {k : Nat} {cells : α → List Value} {ok : α → Prop} {base : Nat} {w w' : World} {v : Value} {l : List α}
theorem Seq.of_block (h : Seq k cells ok base w v l) (hs : w.heap.size ≤ w'.heap.size) (hb : ∀ b, base ≤ b → b < w.heap.size → w'.heap[b]? = w.heap[b]?) : Seq k cells ok base w' v l := by
  obtain ⟨a, cap, h1, h2, h3, h4⟩ := h
  refine ⟨a, cap, h1, h2, h3, ?_⟩
  rcases h4 with h4 | ⟨b, off, ha, hbb, hlt, hc⟩
  · exact .inl h4
  · refine .inr ⟨b, off, ha, hbb, Nat.lt_of_lt_of_le hlt hs, fun j t ht => ?_⟩
    obtain ⟨e1, e2, e3⟩ := hc j t ht
    exact ⟨e1, e2, fun i u hu => by
      have := e3 i u hu
      simp only [World.cell?] at this ⊢
      rw [hb b hbb hlt]
      exact this⟩
theorem Seq.below (h : Seq k cells ok base w v l) (hb : Below w.heap.size w w') : Seq k cells ok base w' v l := h.of_block hb.size (fun b _ hl => hb.block b hl)
theorem Seq.mono {b' : Nat} (h : Seq k cells ok base w v l) (hb : b' ≤ base) : Seq k cells ok b' w v l := by
  obtain ⟨a, cap, h1, h2, h3, h4⟩ := h
  refine ⟨a, cap, h1, h2, h3, h4.imp id ?_⟩
  rintro ⟨b, off, ha, hbb, r⟩
  exact ⟨b, off, ha, Nat.le_trans hb hbb, r⟩
theorem Seq.shape (h : Seq k cells ok base w v l) : ∃ a cap, v = .slice a l.length cap ∧ l.length ≤ cap ∧ cap ≤ maxLen := by
  obtain ⟨a, cap, h1, h2, h3, -⟩ := h
  exact ⟨a, cap, h1, h2, h3⟩
theorem Seq.at {a : Option Addr} {n cap : Nat} (h : Seq k cells ok base w (.slice a n cap) l) {j : Nat} {t : α} (hj : l[j]? = some t) :
    ∃ b off, a = some ⟨b, off, none⟩ ∧ b < w.heap.size ∧ ok t ∧ ∀ i u, (cells t)[i]? = some u → w.cell? ⟨b, off + j * k + i, none⟩ = some u := by
  obtain ⟨a', cap', h1, h2, h3, h4⟩ := h
  have hl : j < l.length := (List.getElem?_eq_some_iff.1 hj).1
  injection h1 with e1 e2 e3
  subst e1
  rcases h4 with h4 | ⟨b, off, ha, hbb, hlt, hc⟩
  · omega
  · obtain ⟨e1, e2, e3⟩ := hc j t hj
    exact ⟨b, off, ha, hlt, e1, e3⟩
theorem Seq.oks (h : Seq k cells ok base w v l) {j : Nat} {t : α} (hj : l[j]? = some t) : ok t := by
  obtain ⟨a, cap, h1, h2, h3, h4⟩ := h
  have hl : j < l.length := (List.getElem?_eq_some_iff.1 hj).1
  rcases h4 with h4 | ⟨b, off, ha, hbb, hlt, hc⟩
  · omega
  · exact (hc j t hj).1
end

theorem row_below {w w' : World} {base : Nat} {e : TypeId} {size : Nat} {v : Value} {n : Nat} {xs : List Value} (h : w.ownsRow base e size v n xs) (hb : ∀ g, v.ownBlock = some g → w'.heap[g]? = w.heap[g]?) : w'.ownsRow base e size v n xs := by
  obtain ⟨h1, h2⟩ := h
  refine ⟨h1, ?_⟩
  rcases h2 with h2 | ⟨g, cap, cur, rfl, hg, hh, r⟩
  · exact .inl h2
  · exact .inr ⟨g, cap, cur, rfl, hg, (hb g rfl).trans hh, r⟩
theorem row_lt {w : World} {base : Nat} {e : TypeId} {size : Nat} {v : Value} {n : Nat} {xs : List Value} (h : w.ownsRow base e size v n xs) (g : Nat) (hg : v.ownBlock = some g) : base ≤ g ∧ g < w.heap.size := h.lt g hg
theorem frozen_of {w : World} {b i : Nat} {cs : Array Value} {t : TypeId} (h : w.heap[b]? = some (.cells cs t)) : w.frozen? ⟨b, i, none⟩ = false := by simp [World.frozen?, h]
theorem at_same {x : World} {b i : Nat} {v : Value} {cs : Array Value} {t : TypeId} {fr : Nat × Nat} (h : x.heap[b]? = some (.cells cs t fr)) : (x.setCell ⟨b, i, none⟩ v).heap[b]? = some (.cells (cs.setIfInBounds i v) t fr) := by
  simp [World.setCell, Array.getElem?_modify, h]
theorem row_put {w : World} {base n cap g o : Nat} {xs : List Value} {e : TypeId} {size : Nat} (h : w.ownsRow base e size (.slice (some ⟨g, 0, none⟩) n cap) n xs) (u : Value) : (w.setCell ⟨g, o, none⟩ u).ownsRow base e size (.slice (some ⟨g, 0, none⟩) n cap) n (xs.set o u) := by
  refine ⟨by simpa using h.1, ?_⟩
  rcases h.2 with ⟨h2, _⟩ | ⟨g', cap', cur, hv, hg, hh, hc, hm, hsz, hx⟩
  · cases h2
  · cases hv
    refine .inr ⟨g, cap, cur.setIfInBounds o u, rfl, hg, at_same hh, hc, hm, by simpa using hsz, ?_⟩
    rw [← hx, Array.toList_setIfInBounds, List.take_set]
theorem row_at {w : World} {base n cap g o : Nat} {xs : List Value} {e : TypeId} {size : Nat} (h : w.ownsRow base e size (.slice (some ⟨g, 0, none⟩) n cap) n xs) (ho : o < n * size) : (∃ u, w.cell? ⟨g, o, none⟩ = some u) ∧ w.frozen? ⟨g, o, none⟩ = false ∧ g < w.heap.size := by
  rcases h.2 with ⟨h2, _⟩ | ⟨g', cap', cur, hv, hg, hh, hc, hm, hsz, hx⟩
  · cases h2
  · cases hv
    have hlt : o < cur.size := by rw [hsz]; exact Nat.lt_of_lt_of_le ho (Nat.mul_le_mul_right _ hc)
    exact ⟨⟨_, cell_of hh (Array.getElem?_eq_getElem hlt)⟩, frozen_of hh, (Array.getElem?_eq_some_iff.1 hh).1⟩
/-- A row that has elements lies at its block's head. -/
theorem row_head {w : World} {base n : Nat} {v : Value} {xs : List Value} {e : TypeId} {size : Nat} (h : w.ownsRow base e size v n xs) : ∃ a cap, v = .slice a n cap ∧ n ≤ cap ∧ cap ≤ maxLen ∧ (0 < n → ∃ g, a = some ⟨g, 0, none⟩) := by
  rcases h.2 with ⟨rfl, hn⟩ | ⟨g, cap, cur, rfl, hg, hh, hc, hm, hsz, hx⟩
  · exact ⟨none, 0, by rw [hn], by omega, by unfold maxLen; omega, fun h => by omega⟩
  · exact ⟨_, cap, rfl, hc, hm, fun _ => ⟨g, rfl⟩⟩

/-- Groups of k cells, one behind the other. -/
theorem flat_len {k : Nat} {css : List (List Value)} (h : ∀ c ∈ css, c.length = k) : css.flatten.length = css.length * k := by
  induction css with
  | nil => simp
  | cons a r ih =>
    rw [List.flatten_cons, List.length_append, ih (fun c hc => h c (List.mem_cons_of_mem _ hc)), h a (by simp), List.length_cons, Nat.succ_mul]
    omega
theorem flat_get {k : Nat} {css : List (List Value)} (h : ∀ c ∈ css, c.length = k) {j i : Nat} {c : List Value} (hj : css[j]? = some c) (hi : i < k) : css.flatten[j * k + i]? = c[i]? := by
  induction css generalizing j with
  | nil => simp at hj
  | cons a r ih =>
    have ha : a.length = k := h a (by simp)
    cases j with
    | zero =>
      simp at hj
      subst hj
      rw [List.flatten_cons, List.getElem?_append_left (by omega)]
      simp
    | succ j =>
      rw [List.flatten_cons, List.getElem?_append_right (by rw [ha, Nat.succ_mul]; omega), ha]
      have e : (j + 1) * k + i - k = j * k + i := by rw [Nat.succ_mul]; omega
      rw [e]
      exact ih (fun c hc => h c (List.mem_cons_of_mem _ hc)) (by simpa using hj)

/-- A row of one's own. -/
def Row {α : Type} (e : TypeId) (k : Nat) (cells : α → List Value) (base : Nat) (w : World) (v : Value) (l : List α) : Prop := w.ownsRow base e k v l.length (l.map cells).flatten
section
variable {α : Type} {e k : Nat} {cells : α → List Value} {ok : α → Prop} {base : Nat} {w w' : World} {v : Value} {l : List α}
theorem map_len (hk : ∀ t, (cells t).length = k) (l : List α) : (l.map cells).flatten.length = l.length * k := by
  rw [flat_len (k := k) (fun c hc => by obtain ⟨s, _, rfl⟩ := List.mem_map.1 hc; exact hk s)]
  simp
theorem Row.seq (h : Row e k cells base w v l) (hk : ∀ t, (cells t).length = k) (hok : ∀ (j : Nat) t, l[j]? = some t → ok t) : Seq k cells ok base w v l := by
  rcases h.2 with ⟨rfl, hn⟩ | ⟨g, cap, cur, rfl, hg, hh, hc, hm, hsz, hx⟩
  · exact ⟨none, 0, by rw [hn], by omega, by unfold maxLen; omega, .inl hn⟩
  · refine ⟨_, cap, rfl, hc, hm, .inr ⟨g, 0, rfl, hg, (Array.getElem?_eq_some_iff.1 hh).1, fun j t hj => ?_⟩⟩
    have hl : j < l.length := (List.getElem?_eq_some_iff.1 hj).1
    refine ⟨hok j t hj, hk t, fun i u hu => ?_⟩
    have hi : i < k := by rw [← hk t]; exact (List.getElem?_eq_some_iff.1 hu).1
    have hb : j * k + i < l.length * k := by
      have : j * k + k ≤ l.length * k := by rw [← Nat.succ_mul]; exact Nat.mul_le_mul_right _ hl
      omega
    have := flat_get (k := k) (css := l.map cells) (fun c hc => by obtain ⟨s, _, rfl⟩ := List.mem_map.1 hc; exact hk s) (j := j) (c := cells t) (by rw [List.getElem?_map, hj]; rfl) hi
    rw [← hx, List.getElem?_take_of_lt hb, Array.getElem?_toList] at this
    rw [Nat.zero_add]
    exact cell_of hh (this.trans hu)
theorem Row.below (h : Row e k cells base w v l) (hb : Below w.heap.size w w') : Row e k cells base w' v l := row_below h (fun g hg => hb.block g (row_lt h g hg).2)
theorem Row.of_block (h : Row e k cells base w v l) (hb : ∀ g, v.ownBlock = some g → w'.heap[g]? = w.heap[g]?) : Row e k cells base w' v l := row_below h hb
/-- One element more has been laid into a row that is being filled. -/
theorem fill_snoc {t : α} {j : Nat} (ht : l[j]? = some t) : ((l.take (j + 1)).map cells).flatten = ((l.take j).map cells).flatten ++ cells t := by
  rw [List.take_add_one, ht]; simp
end

theorem set1 (L rest : List Value) (n : Nat) (a : Value) (hL : L.length = n) (hr : 1 ≤ rest.length) : (L ++ [a]) ++ rest.drop 1 = (L ++ rest).set n a := by
  subst hL
  match rest, hr with
  | r0 :: rs, _ => simp
theorem set2 (L rest : List Value) (n : Nat) (a b : Value) (hL : L.length = n) (hr : 2 ≤ rest.length) : (L ++ [a, b]) ++ rest.drop 2 = ((L ++ rest).set n a).set (n + 1) b := by
  subst hL
  match rest, hr with
  | r0 :: r1 :: rs, _ => simp
theorem set5 (L rest : List Value) (n : Nat) (a b c d e : Value) (hL : L.length = n) (hr : 5 ≤ rest.length) :
    (L ++ [a, b, c, d, e]) ++ rest.drop 5 = (((((L ++ rest).set n a).set (n + 1) b).set (n + 2) c).set (n + 3) d).set (n + 4) e := by
  subst hL
  match rest, hr with
  | r0 :: r1 :: r2 :: r3 :: r4 :: rs, _ => simp

theorem results_cell1 {P : Program} {fn : Func} {p : Tmp} {ty : TypeId} (h : fn.results = #[.cell p ty]) (tmps : Array Value) (w : World) (g : Nat) (t : TypeId) (cs : Array Value) (fr : Nat × Nat) (d : TypeDesc)
    (hp : tmps.getD p undef = .pointer (some ⟨g, 0, none⟩)) (hg : w.heap[g]? = some (.cells cs t fr))
    (hu : P.underlying ty = some d) (hd : (match d with | .struct _ | .array _ _ => true | _ => false) = true) (hi : (P.info? ty).map (·.size) = some cs.size) :
    (results fn tmps).run P w = .ok (.agg cs) w := by
  have hp' : tmps[p]?.getD undef = .pointer (some ⟨g, 0, none⟩) := by simpa using hp
  simp [results, h, hp', asAddr, run_loadVar_row w g t ty cs fr d hg hu hd hi]
theorem size_alloc1 (w : World) (o : Obj) : (w.alloc o).heap.size = w.heap.size + 1 := by simp
theorem at_alloc {w : World} {b : Nat} {o a : Obj} (h : w.heap[b]? = some o) : (w.alloc a).heap[b]? = some o :=
  (Below.heap_alloc w a b (Array.getElem?_eq_some_iff.1 h).1).trans h
theorem at_new (w : World) (a : Obj) : (w.alloc a).heap[w.heap.size]? = some a := (MapKept.heap_alloc w a).1
theorem at_new1 (w : World) (a b : Obj) : ((w.alloc a).alloc b).heap[w.heap.size + 1]? = some b := by rw [← size_alloc1 w a]; exact at_new _ _
theorem at_new2 (w : World) (a b c : Obj) : (((w.alloc a).alloc b).alloc c).heap[w.heap.size + 2]? = some c := by
  have := at_new ((w.alloc a).alloc b) c
  simpa using this
theorem at_below {w w' : World} {b : Nat} {o : Obj} (hb : Below w.heap.size w w') (h : w.heap[b]? = some o) : w'.heap[b]? = some o := (hb.block b (Array.getElem?_eq_some_iff.1 h).1).trans h
theorem at_other {x : World} {b c i : Nat} {v : Value} {o : Obj} (h : x.heap[b]? = some o) (hne : b ≠ c) : (x.setCell ⟨c, i, none⟩ v).heap[b]? = some o := (Below.heap_setCell x ⟨c, i, none⟩ v b hne).trans h
theorem below1 (w : World) (a : Obj) : Below w.heap.size w (w.alloc a) := (Below.refl _ _).alloc (Nat.le_refl _) _
theorem below2 (w : World) (a b : Obj) : Below w.heap.size w ((w.alloc a).alloc b) := ((Below.refl _ _).alloc (Nat.le_refl _) _).alloc (by simp) _
theorem below3 (w : World) (a b c : Obj) : Below w.heap.size w (((w.alloc a).alloc b).alloc c) := (((Below.refl _ _).alloc (Nat.le_refl _) _).alloc (by simp) _).alloc (by simp; omega) _
theorem bel_next {n : Nat} {w wr w1 : World} (h : Hid (Below n w wr)) (hn : n ≤ w.heap.size) (hb : Below wr.heap.size wr w1) : Hid (Below n w w1) := hide ((unhide h).trans (hb.mono (Nat.le_trans hn (unhide h).size)))
theorem bel_drew {n : Nat} {w wr : World} (h : Hid (Below n w wr)) : Hid (Below n w wr.drew) := hide ⟨(unhide h).os, (unhide h).tape, (unhide h).output, (unhide h).size, (unhide h).block⟩

/-- What marks turn: cells of the blocks from lo on, below hi. -/
structure Marked (lo hi : Nat) (w w' : World) : Prop where
  os : w'.os = w.os
  tape : w'.tape = w.tape
  output : w'.output = w.output
  size : w'.heap.size = w.heap.size
  out : ∀ i, (i < lo ∨ hi ≤ i) → w'.heap[i]? = w.heap[i]?
  shape : ∀ (i : Nat) (cs : Array Value) (t : TypeId) (fr : Nat × Nat), w.heap[i]? = some (Obj.cells cs t fr) → ∃ cs' : Array Value, w'.heap[i]? = some (Obj.cells cs' t fr) ∧ cs'.size = cs.size
theorem Marked.refl (lo hi : Nat) (w : World) : Marked lo hi w w := ⟨rfl, rfl, rfl, rfl, fun _ _ => rfl, fun i cs t fr h => ⟨cs, h, rfl⟩⟩
theorem Marked.trans {lo hi : Nat} {w w1 w2 : World} (h : Marked lo hi w w1) (k : Marked lo hi w1 w2) : Marked lo hi w w2 :=
  ⟨k.os.trans h.os, k.tape.trans h.tape, k.output.trans h.output, k.size.trans h.size, fun i hi => (k.out i hi).trans (h.out i hi), fun i cs t fr hc => by
    obtain ⟨c1, h1, s1⟩ := h.shape i cs t fr hc
    obtain ⟨c2, h2, s2⟩ := k.shape i c1 t fr h1
    exact ⟨c2, h2, s2.trans s1⟩⟩
theorem Marked.set {lo hi g o : Nat} {w w1 : World} (h : Marked lo hi w w1) (h1 : lo ≤ g) (h2 : g < hi) (u : Value) : Marked lo hi w (w1.setCell ⟨g, o, none⟩ u) :=
  ⟨h.os, h.tape, h.output, by simpa using h.size, fun i hi => (Below.heap_setCell w1 ⟨g, o, none⟩ u i (by show i ≠ g; omega)).trans (h.out i hi), fun i cs t fr hc => by
    obtain ⟨c1, e1, s1⟩ := h.shape i cs t fr hc
    by_cases hg : i = g
    · subst hg
      exact ⟨_, at_same e1, by simpa using s1⟩
    · exact ⟨c1, at_other e1 hg, s1⟩⟩
theorem Marked.below {lo hi : Nat} {w w' : World} (h : Marked lo hi w w') : Below lo w w' := ⟨h.os, h.tape, h.output, Nat.le_of_eq h.size.symm, fun i hi => h.out i (.inl hi)⟩
/-- A row keeps its shape under marks. -/
theorem row_marked {lo hi : Nat} {w w' : World} {base : Nat} {e : TypeId} {size : Nat} {v : Value} {n : Nat} (h : ∃ xs, w.ownsRow base e size v n xs) (hm : Marked lo hi w w') : ∃ xs, w'.ownsRow base e size v n xs := by
  obtain ⟨xs, h1, h2⟩ := h
  rcases h2 with h2 | ⟨g, cap, cur, rfl, hg, hh, hc, hmx, hsz, hx⟩
  · exact ⟨xs, h1, .inl h2⟩
  · obtain ⟨c1, e1, s1⟩ := hm.shape g cur e _ hh
    refine ⟨c1.toList.take (n * size), ?_, .inr ⟨g, cap, c1, rfl, hg, e1, hc, hmx, by rw [s1]; exact hsz, rfl⟩⟩
    rw [List.length_take, Array.length_toList, s1, hsz]
    exact Nat.min_eq_left (Nat.mul_le_mul_right _ hc)
end Go.Proofs.YthbbgkpkijlclaaDoor.rws
