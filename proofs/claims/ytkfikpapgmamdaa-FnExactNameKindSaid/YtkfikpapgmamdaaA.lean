/-
  Rows of texts and of records that hold rows: what they read as, and that they stay.
-/
import Derived.Test.YtkfikpapgmamdaaP0
import Derived.Deep.Slices
import Derived.ChangeArms
namespace Go.Proofs.Ytkfikpapgmamdaa.nk
open Go.Deep Go.RowKit Go.ChangeShapes Go.WideShapes Go.Proofs.Ytkfikpapgmamdaa.num
set_option linter.unusedVariables false

theorem ba_ne {a b : ByteArray} (h : ¬ a = b) : (a.toList == b.toList) = false := by
  rw [beq_eq_false_iff_ne]
  intro e
  rw [ByteArray.toList_eq, ByteArray.toList_eq] at e
  exact h (by rcases a with ⟨⟨a⟩⟩; rcases b with ⟨⟨b⟩⟩; simp at e; rw [e])

/-- What a row reads as: elements of k cells each, as E tells them. -/
def Seq {α : Type} (k : Nat) (E : World → α → List Value → Prop) (base : Nat) (w : World) (v : Value) (l : List α) : Prop :=
  ∃ a cap, v = .slice a l.length cap ∧ l.length ≤ cap ∧ cap ≤ maxLen ∧ (l.length = 0 ∨ ∃ b off, a = some ⟨b, off, none⟩ ∧ base ≤ b ∧ b < w.heap.size ∧
    ∀ j t, l[j]? = some t → ∃ cs, E w t cs ∧ cs.length = k ∧ ∀ i u, cs[i]? = some u → w.cell? ⟨b, off + j * k + i, none⟩ = some u)

theorem cell_grown {w w' : World} {row : Option Nat} (hg : w.grownBy w' row) {b o : Nat} (hb : b < w.heap.size) (hr : some b ≠ row) : w'.cell? ⟨b, o, none⟩ = w.cell? ⟨b, o, none⟩ := by
  have := hg.block b hb hr
  simp [World.cell?, this]

theorem Seq.kept {α : Type} {k : Nat} {E : World → α → List Value → Prop} {base : Nat} {w w' : World} {v : Value} {l : List α} {row : Option Nat}
    (hE : ∀ t cs, E w t cs → E w' t cs) (h : Seq k E base w v l) (hg : w.grownBy w' row) (hr : ∀ g, row = some g → g < base) : Seq k E base w' v l := by
  obtain ⟨a, cap, h1, h2, h3, h4⟩ := h
  refine ⟨a, cap, h1, h2, h3, ?_⟩
  rcases h4 with h4 | ⟨b, off, ha, hbb, hlt, hc⟩
  · exact .inl h4
  · refine .inr ⟨b, off, ha, hbb, Nat.lt_of_lt_of_le hlt hg.size, fun j t ht => ?_⟩
    obtain ⟨cs, e1, e2, e3⟩ := hc j t ht
    exact ⟨cs, hE _ _ e1, e2, fun i u hu => by
      rw [cell_grown hg hlt (fun e => by have := hr b e.symm; omega)]
      exact e3 i u hu⟩

theorem grown_of_below {w w' : World} (h : Below w.heap.size w w') : w.grownBy w' none :=
  ⟨h.os, h.tape, h.output, h.size, fun i hi _ => h.block i hi⟩

/-- A text's cell. -/
def ES (w : World) (s : ByteArray) (cs : List Value) : Prop := cs = [.string s] ∧ s.size ≤ maxLen
/-- A row of texts. -/
abbrev Strs (base : Nat) (w : World) (v : Value) (l : List ByteArray) : Prop := Seq 1 ES base w v l
/-- An array: its name and its size. -/
structure Ar where
  name : ByteArray
  size : Int
def EA (w : World) (a : Ar) (cs : List Value) : Prop := cs = [.string a.name, .int .i64 a.size] ∧ a.name.size ≤ maxLen
abbrev Arrs (base : Nat) (w : World) (v : Value) (l : List Ar) : Prop := Seq 2 EA base w v l
/-- A function. -/
structure Fu where
  name : ByteArray
  params : Int
  ints : List ByteArray
  refs : List ByteArray
  body : Int
def EF (base : Nat) (w : World) (f : Fu) (cs : List Value) : Prop :=
  ∃ vi vr, cs = [.string f.name, .int .i64 f.params, vi, vr, .int .i64 f.body] ∧ f.name.size ≤ maxLen ∧ Strs base w vi f.ints ∧ Strs base w vr f.refs
abbrev Funs (base : Nat) (w : World) (v : Value) (l : List Fu) : Prop := Seq 5 (EF base) base w v l
/-- What a program declares. -/
structure Tb where
  arrays : List Ar
  globals : List ByteArray
  funcs : List Fu
/-- A table's three rows. -/
structure TbAt (base : Nat) (w : World) (va vg vf : Value) (t : Tb) : Prop where
  arrays : Arrs base w va t.arrays
  globals : Strs base w vg t.globals
  funcs : Funs base w vf t.funcs

section
variable {base : Nat} {w w' : World} {row : Option Nat}
theorem Seq.strs {v : Value} {l : List ByteArray} (h : Strs base w v l) (hg : w.grownBy w' row) (hr : ∀ g, row = some g → g < base) : Strs base w' v l := Seq.kept (w := w) (fun _ _ h => h) h hg hr
theorem Seq.arrs {v : Value} {l : List Ar} (h : Arrs base w v l) (hg : w.grownBy w' row) (hr : ∀ g, row = some g → g < base) : Arrs base w' v l := Seq.kept (w := w) (fun _ _ h => h) h hg hr
theorem EF.kept {f : Fu} {cs : List Value} (h : EF base w f cs) (hg : w.grownBy w' row) (hr : ∀ g, row = some g → g < base) : EF base w' f cs := by
  obtain ⟨vi, vr, h1, h2, h3, h4⟩ := h
  exact ⟨vi, vr, h1, h2, h3.strs hg hr, h4.strs hg hr⟩
theorem Seq.funs {v : Value} {l : List Fu} (h : Funs base w v l) (hg : w.grownBy w' row) (hr : ∀ g, row = some g → g < base) : Funs base w' v l := Seq.kept (fun _ _ h => h.kept hg hr) h hg hr
theorem TbAt.kept {va vg vf : Value} {t : Tb} (h : TbAt base w va vg vf t) (hg : w.grownBy w' row) (hr : ∀ g, row = some g → g < base) : TbAt base w' va vg vf t :=
  ⟨h.arrays.arrs hg hr, h.globals.strs hg hr, h.funcs.funs hg hr⟩
theorem TbAt.below {va vg vf : Value} {t : Tb} (h : TbAt base w va vg vf t) (hb : Below w.heap.size w w') : TbAt base w' va vg vf t := h.kept (grown_of_below hb) (fun g e => by cases e)
theorem Seq.sbelow {v : Value} {l : List ByteArray} (h : Strs base w v l) (hb : Below w.heap.size w w') : Strs base w' v l := h.strs (grown_of_below hb) (fun g e => by cases e)
theorem Seq.abelow {v : Value} {l : List Ar} (h : Arrs base w v l) (hb : Below w.heap.size w w') : Arrs base w' v l := h.arrs (grown_of_below hb) (fun g e => by cases e)
theorem Seq.fbelow {v : Value} {l : List Fu} (h : Funs base w v l) (hb : Below w.heap.size w w') : Funs base w' v l := h.funs (grown_of_below hb) (fun g e => by cases e)

/-- A row of texts at a place. -/
theorem Seq.sget {a : Option Addr} {n cap : Nat} {l : List ByteArray} (h : Strs base w (.slice a n cap) l) {j : Nat} {s : ByteArray} (hj : l[j]? = some s) :
    ∃ b off, a = some ⟨b, off, none⟩ ∧ b < w.heap.size ∧ w.cell? ⟨b, off + j, none⟩ = some (.string s) ∧ s.size ≤ maxLen := by
  obtain ⟨a', cap', h1, h2, h3, h4⟩ := h
  have hl : j < l.length := (List.getElem?_eq_some_iff.1 hj).1
  injection h1 with e1 e2 e3
  subst e1
  rcases h4 with h4 | ⟨b, off, ha, hbb, hlt, hc⟩
  · omega
  · obtain ⟨cs, ⟨rfl, e1⟩, e2, e3⟩ := hc j s hj
    have := e3 0 _ rfl
    rw [Nat.mul_one, Nat.add_zero] at this
    exact ⟨b, off, ha, hlt, this, e1⟩
theorem Seq.aget {a : Option Addr} {n cap : Nat} {l : List Ar} (h : Arrs base w (.slice a n cap) l) {j : Nat} {t : Ar} (hj : l[j]? = some t) :
    ∃ b off, a = some ⟨b, off, none⟩ ∧ b < w.heap.size ∧ w.cell? ⟨b, off + j * 2, none⟩ = some (.string t.name) ∧ w.cell? ⟨b, off + j * 2 + 1, none⟩ = some (.int .i64 t.size) ∧ t.name.size ≤ maxLen := by
  obtain ⟨a', cap', h1, h2, h3, h4⟩ := h
  have hl : j < l.length := (List.getElem?_eq_some_iff.1 hj).1
  injection h1 with e1 e2 e3
  subst e1
  rcases h4 with h4 | ⟨b, off, ha, hbb, hlt, hc⟩
  · omega
  · obtain ⟨cs, ⟨rfl, e1⟩, e2, e3⟩ := hc j t hj
    exact ⟨b, off, ha, hlt, e3 0 _ rfl, e3 1 _ rfl, e1⟩
theorem Seq.fget {a : Option Addr} {n cap : Nat} {l : List Fu} (h : Funs base w (.slice a n cap) l) {j : Nat} {t : Fu} (hj : l[j]? = some t) :
    ∃ b off vi vr, a = some ⟨b, off, none⟩ ∧ b < w.heap.size ∧ w.cell? ⟨b, off + j * 5, none⟩ = some (.string t.name) ∧ w.cell? ⟨b, off + j * 5 + 1, none⟩ = some (.int .i64 t.params) ∧ w.cell? ⟨b, off + j * 5 + 2, none⟩ = some vi ∧ w.cell? ⟨b, off + j * 5 + 3, none⟩ = some vr ∧ w.cell? ⟨b, off + j * 5 + 4, none⟩ = some (.int .i64 t.body) ∧ t.name.size ≤ maxLen ∧ Strs base w vi t.ints ∧ Strs base w vr t.refs := by
  obtain ⟨a', cap', h1, h2, h3, h4⟩ := h
  have hl : j < l.length := (List.getElem?_eq_some_iff.1 hj).1
  injection h1 with e1 e2 e3
  subst e1
  rcases h4 with h4 | ⟨b, off, ha, hbb, hlt, hc⟩
  · omega
  · obtain ⟨cs, ⟨vi, vr, rfl, e1, e4, e5⟩, e2, e3⟩ := hc j t hj
    exact ⟨b, off, vi, vr, ha, hlt, e3 0 _ rfl, e3 1 _ rfl, e3 2 _ rfl, e3 3 _ rfl, e3 4 _ rfl, e1, e4, e5⟩
end
end Go.Proofs.Ytkfikpapgmamdaa.nk
