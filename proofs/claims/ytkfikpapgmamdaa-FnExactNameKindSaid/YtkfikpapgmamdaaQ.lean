/-
  The scope within a function: what it keeps.
-/
import Derived.Test.YtkfikpapgmamdaaL
namespace Go.Proofs.Ytkfikpapgmamdaa.nk
open Go.RowKit Go.Maps Go.Proofs.Ytkfikpapgmamdaa.num
set_option linter.unusedVariables false

/-- Names of one kind, in order. -/
def enum (k : Int) (l : List ByteArray) : List (ByteArray × Int × Int) := l.mapIdx fun i n => (n, k, (i : Int))
theorem enum_snoc (k : Int) (l : List ByteArray) (j : Nat) (s : ByteArray) (h : l[j]? = some s) : enum k (l.take (j + 1)) = enum k (l.take j) ++ [(s, k, (j : Int))] := by
  have hl : j < l.length := (List.getElem?_eq_some_iff.1 h).1
  unfold enum
  rw [List.take_add_one, h]
  simp only [Option.toList_some]
  rw [List.mapIdx_concat]
  simp [Nat.min_eq_left (Nat.le_of_lt hl)]
theorem enum_zero (k : Int) (l : List ByteArray) : enum k (l.take 0) = [] := rfl
/-- How many there are of each kind. -/
def cnt (a g f : Nat) : Nat → Int := fun i => if i = 1 then a else if i = 2 then g else if i = 5 then f else 0
def cnt2 (a r : Nat) : Nat → Int := fun i => if i = 3 then a else if i = 4 then r else 0
theorem bump1 (a g f : Nat) : bump (cnt a g f) 1 = cnt (a + 1) g f := by
  funext i; unfold bump cnt; by_cases h1 : i = 1 <;> simp [h1]
theorem bump2 (a g f : Nat) : bump (cnt a g f) 2 = cnt a (g + 1) f := by
  funext i; unfold bump cnt; by_cases h1 : i = 2
  · subst h1; simp
  · by_cases h2 : i = 1 <;> simp [h1, h2]
theorem bump5 (a g f : Nat) : bump (cnt a g f) 5 = cnt a g (f + 1) := by
  funext i; unfold bump cnt; by_cases h1 : i = 5
  · subst h1; simp
  · by_cases h2 : i = 1 <;> by_cases h3 : i = 2 <;> simp [h1, h2, h3]
theorem bump3 (a r : Nat) : bump (cnt2 a r) 3 = cnt2 (a + 1) r := by
  funext i; unfold bump cnt2; by_cases h1 : i = 3 <;> simp [h1]
theorem bump4 (a r : Nat) : bump (cnt2 a r) 4 = cnt2 a (r + 1) := by
  funext i; unfold bump cnt2; by_cases h1 : i = 4
  · subst h1; simp
  · by_cases h2 : i = 3 <;> simp [h1, h2]

/-- What the program's scope is, with so many names of each kind. -/
noncomputable def MP (t : Tb) (a g f : Nat) : List (ByteArray × Int × Int) :=
  enum 1 ((t.arrays.map (·.name)).take a) ++ enum 2 (t.globals.take g) ++ enum 5 ((t.funcs.map (·.name)).take f)
noncomputable def MF (u : Fu) (a r : Nat) : List (ByteArray × Int × Int) := enum 3 (u.ints.take a) ++ enum 4 (u.refs.take r)

/-- What the walk keeps: boxes of the table and of the function's name, the program's set. -/
structure SW (w : World) (va vg vf : Value) (fn : ByteArray) (g m n : Nat) (M : List (ByteArray × Int × Int)) (c : Nat → Int) (wr : World) : Prop where
  b0 : wr.cell? ⟨w.heap.size, 0, none⟩ = some va
  b1 : wr.cell? ⟨w.heap.size, 1, none⟩ = some vg
  b2 : wr.cell? ⟨w.heap.size, 2, none⟩ = some vf
  b3 : wr.cell? ⟨w.heap.size + 1, 0, none⟩ = some (.string fn)
  lt : w.heap.size + 1 < wr.heap.size
  gB : w.heap.size + 1 < g
  mB : w.heap.size + 1 < m
  ns : NS wr g 0 m n M c
  bel : Below w.heap.size w wr
section
variable {w : World} {va vg vf : Value} {fn : ByteArray} {g m n : Nat} {M : List (ByteArray × Int × Int)} {c : Nat → Int} {wr wx : World}
theorem SW.below (h : SW w va vg vf fn g m n M c wr) (hb : Below wr.heap.size wr wx) : SW w va vg vf fn g m n M c wx := by
  have l0 : w.heap.size < wr.heap.size := by have := h.lt; omega
  exact ⟨by rw [hb.cell (by exact l0)]; exact h.b0, by rw [hb.cell (by exact l0)]; exact h.b1, by rw [hb.cell (by exact l0)]; exact h.b2, by rw [hb.cell (by exact h.lt)]; exact h.b3, Nat.lt_of_lt_of_le h.lt hb.size, h.gB, h.mB, h.ns.below hb, h.bel.trans (hb.mono h.bel.size)⟩
theorem SW.alloc (h : SW w va vg vf fn g m n M c wr) (o : Obj) : SW w va vg vf fn g m n M c (wr.alloc o) := h.below ((Below.refl _ _).alloc (Nat.le_refl _) _)
theorem SW.drew (h : SW w va vg vf fn g m n M c wr) : SW w va vg vf fn g m n M c wr.drew := h.below ⟨rfl, rfl, rfl, Nat.le_refl _, fun _ _ => rfl⟩
theorem Turn.cellO {w w' : World} {g m q b o : Nat} (T : Turn w w' g m q) (h1 : b ≠ g) (h2 : b ≠ m) : w'.cell? ⟨b, o, none⟩ = w.cell? ⟨b, o, none⟩ := by
  have := T.block b h1 h2
  simp [World.cell?, this]
theorem SW.turn {n' : Nat} {M' : List (ByteArray × Int × Int)} {c' : Nat → Int} {q : Nat} (h : SW w va vg vf fn g m n M c wr) (hn : NS wx g 0 m n' M' c') (T : Turn wr wx g m q) : SW w va vg vf fn g m n' M' c' wx := by
  have e1 := h.gB
  have e2 := h.mB
  exact ⟨by rw [T.cellO (by omega) (by omega)]; exact h.b0, by rw [T.cellO (by omega) (by omega)]; exact h.b1, by rw [T.cellO (by omega) (by omega)]; exact h.b2, by rw [T.cellO (by omega) (by omega)]; exact h.b3, by rw [T.size]; exact h.lt, e1, e2, hn,
    ⟨T.os.trans h.bel.os, T.tape.trans h.bel.tape, T.output.trans h.bel.output, by rw [T.size]; exact h.bel.size, fun i hi => (T.block i (by omega) (by omega)).trans (h.bel.block i hi)⟩⟩
theorem NS.other {w w' : World} {g o m n g2 m2 q : Nat} {M : List (ByteArray × Int × Int)} {c : Nat → Int} (h : NS w g o m n M c) (T : Turn w w' g2 m2 q) (h1 : g ≠ g2) (h2 : g ≠ m2) (h3 : m ≠ g2) (h4 : m ≠ m2) : NS w' g o m n M c := by
  obtain ⟨D, ⟨es, cl, hb, r⟩, h2'⟩ := h.own
  refine ⟨by rw [T.cellO h1 h2]; exact h.mp, fun i hi => by rw [T.cellO h1 h2]; exact h.ct i hi, fun i => ?_, ⟨D, ⟨es, cl, (T.block m h3 h4).trans hb, r⟩, h2'⟩, h.gm, by rw [T.size]; exact h.lt⟩
  have := h.fz i
  simp only [World.frozen?] at this ⊢
  rw [T.block g h1 h2]; exact this
/-- .. while a function's set is turned. -/
theorem SW.other {g2 m2 q : Nat} (h : SW w va vg vf fn g m n M c wr) (T : Turn wr wx g2 m2 q) (h1 : g ≠ g2) (h2 : g ≠ m2) (h3 : m ≠ g2) (h4 : m ≠ m2) (e1 : w.heap.size + 1 < g2) (e2 : w.heap.size + 1 < m2) : SW w va vg vf fn g m n M c wx :=
  ⟨by rw [T.cellO (by omega) (by omega)]; exact h.b0, by rw [T.cellO (by omega) (by omega)]; exact h.b1, by rw [T.cellO (by omega) (by omega)]; exact h.b2, by rw [T.cellO (by omega) (by omega)]; exact h.b3, by rw [T.size]; exact h.lt, h.gB, h.mB, h.ns.other T h1 h2 h3 h4,
    ⟨T.os.trans h.bel.os, T.tape.trans h.bel.tape, T.output.trans h.bel.output, by rw [T.size]; exact h.bel.size, fun i hi => (T.block i (by omega) (by omega)).trans (h.bel.block i hi)⟩⟩
end

theorem MP_a {t : Tb} {j : Nat} {u : Ar} (h : t.arrays[j]? = some u) : MP t (j + 1) 0 0 = MP t j 0 0 ++ [(u.name, 1, (j : Int))] := by
  unfold MP
  rw [enum_snoc 1 (t.arrays.map (·.name)) j u.name (by simp [h])]
  simp [enum]
theorem MP_g {t : Tb} {a j : Nat} {s : ByteArray} (h : t.globals[j]? = some s) : MP t a (j + 1) 0 = MP t a j 0 ++ [(s, 2, (j : Int))] := by
  unfold MP
  rw [enum_snoc 2 t.globals j s h]
  simp [enum]
theorem MP_f {t : Tb} {a g j : Nat} {u : Fu} (h : t.funcs[j]? = some u) : MP t a g (j + 1) = MP t a g j ++ [(u.name, 5, (j : Int))] := by
  unfold MP
  rw [enum_snoc 5 (t.funcs.map (·.name)) j u.name (by simp [h])]
  simp
theorem MF_i {u : Fu} {j : Nat} {s : ByteArray} (h : u.ints[j]? = some s) : MF u (j + 1) 0 = MF u j 0 ++ [(s, 3, (j : Int))] := by
  unfold MF
  rw [enum_snoc 3 u.ints j s h]
  simp [enum]
theorem MF_r {u : Fu} {a j : Nat} {s : ByteArray} (h : u.refs[j]? = some s) : MF u a (j + 1) = MF u a j ++ [(s, 4, (j : Int))] := by
  unfold MF
  rw [enum_snoc 4 u.refs j s h]
  simp
end Go.Proofs.Ytkfikpapgmamdaa.nk
