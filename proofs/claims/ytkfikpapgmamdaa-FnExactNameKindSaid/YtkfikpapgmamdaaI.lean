/-
  The program's names: a map of meanings, filled first come, first kept.
-/
import Derived.Test.YtkfikpapgmamdaaH
import Derived.Maps.OwnSet
import Derived.WalkSpells
namespace Go.Proofs.Ytkfikpapgmamdaa.nk
open Go.RowKit Go.Maps Go.WideAt Go.WideShapes Go.ChangeMaps Go.Proofs.Ytkfikpapgmamdaa.num
set_option linter.unusedVariables false

theorem strKey : Keyed Try.prog 9 := string_keyed Try.underlying9
/-- A meaning as a datum. -/
def md (a b c : Int) : DataW Unit := .agg [.lit (.int .i64 a), .lit (.int .i64 b), .lit (.int .i64 c)]
theorem md_inj {a b c a' b' c' : Int} (h : md a b c = md a' b' c') : a = a' ∧ b = b' ∧ c = c' := by
  simpa [md] using h
/-- How an element reads. -/
def meanElem : Value → Option (DataW Unit × List MemPlace)
  | .agg cs => match cs.toList with
    | [.int .i64 a, .int .i64 b, .int .i64 c] => some (md a b c, [])
    | _ => none
  | _ => none
theorem meanElem_mk (a b c : Int) : meanElem (.agg #[.int .i64 a, .int .i64 b, .int .i64 c]) = some (md a b c, []) := rfl
theorem meanElem_inv {v : Value} {z : DataW Unit × List MemPlace} (h : meanElem v = some z) : ∃ a b c, v = .agg #[.int .i64 a, .int .i64 b, .int .i64 c] ∧ z = (md a b c, []) := by
  unfold meanElem at h
  split at h
  · rename_i cs
    split at h
    · rename_i a b c e
      cases h
      refine ⟨a, b, c, ?_, rfl⟩
      rcases cs with ⟨cs⟩
      simp at e
      rw [e]
    · cases h
  · cases h
theorem zeroMean (w : World) : (zeroValue 48).run Try.prog w = .ok (.agg #[.int .i64 0, .int .i64 0, .int .i64 0]) w := by kernel_rfl

/-- 'm[k]' at meanings. -/
theorem wpList_lookup_mean {P : Program} (w : World) {ops : Array Oper} {rest : List Oper} {o : Oper} {a : Act} {Q : Exit → Act → World → Prop}
    (hg : o.guard = none) (m x : Operand) (t : TypeId) (hop : o.op = Op.lookup t m x false)
    (k e : TypeId) (K : Keyed P k) (ht : P.underlying t = some (.map k e)) (hz : (zeroValue e).run P w = .ok (.agg #[.int .i64 0, .int .i64 0, .int .i64 0]) w) (b n : Nat) (D : DataW Unit)
    (hm : a.eval m = .map (some b)) (hown : w.ownsMap P k meanElem b n D) (key : Value) (kl : Lit) (hx : a.eval x = key) (hkey : keyOf P k key = some kl) (u1 u2 u3 : Int) (hat : D.atKey kl (md 0 0 0) = md u1 u2 u3)
    (hK : wpList P ops Q rest (a.put o.dst (.agg #[.int .i64 u1, .int .i64 u2, .int .i64 u3])) w) :
    wpList P ops Q (o :: rest) a w := by
  refine wpList_plain hg fun K' hK' => ?_
  obtain ⟨v, ps, hrun, hv⟩ := hown.lookup K ht hz (meanElem_mk 0 0 0) hkey
  obtain ⟨p, q, r, hve, hz2⟩ := meanElem_inv hv
  subst hve
  have hv1 : D.atKey kl (md 0 0 0) = md p q r := congrArg Prod.fst hz2
  rw [hat] at hv1
  obtain ⟨rfl, rfl, rfl⟩ := md_inj hv1
  unfold Oper.wp
  simp [execOp, hop, hm, hx, hrun, Result.andThen]
  exact hK' _ _ hK

open Classical in
/-- What a name stands for: the first that was taken up. -/
noncomputable def look : List (ByteArray × Int × Int) → ByteArray → Int × Int
  | [], _ => (0, 0)
  | (n, k, p) :: r, s => if n = s then (k, p) else look r s
/-- All kinds are kinds. -/
def Kinds (M : List (ByteArray × Int × Int)) : Prop := ∀ x ∈ M, 0 < x.2.1
theorem look_add_hit {M : List (ByteArray × Int × Int)} {s : ByteArray} (x : ByteArray × Int × Int) (h : (look M s).1 ≠ 0) : look (M ++ [x]) s = look M s := by
  induction M with
  | nil => simp [look] at h
  | cons y r ih =>
    obtain ⟨n, k, p⟩ := y
    simp only [look, List.cons_append] at h ⊢
    split
    · rfl
    · rename_i e; rw [if_neg e] at h; exact ih h
theorem look_add_miss {M : List (ByteArray × Int × Int)} {s : ByteArray} (n : ByteArray) (k p : Int) (hK : Kinds M) (h : (look M s).1 = 0) : look (M ++ [(n, k, p)]) s = look [(n, k, p)] s := by
  induction M with
  | nil => rfl
  | cons y r ih =>
    obtain ⟨n', k', p'⟩ := y
    simp only [look, List.cons_append] at h ⊢
    have hk := hK (n', k', p') (by simp)
    split
    · rename_i e; rw [if_pos e] at h; simp at h hk; omega
    · rename_i e; rw [if_neg e] at h
      have := ih (fun x hx => hK x (List.mem_cons_of_mem _ hx)) h
      simpa [look] using this
theorem look_zero {M : List (ByteArray × Int × Int)} (hK : Kinds M) {s : ByteArray} (h : (look M s).1 = 0) : look M s = (0, 0) := by
  induction M with
  | nil => rfl
  | cons y r ih =>
    obtain ⟨n', k', p'⟩ := y
    simp only [look] at h ⊢
    have hk := hK (n', k', p') (by simp)
    split
    · rename_i e; rw [if_pos e] at h; simp at h hk; omega
    · rename_i e; rw [if_neg e] at h; exact ih (fun x hx => hK x (List.mem_cons_of_mem _ hx)) h
theorem Kinds.add {M : List (ByteArray × Int × Int)} (h : Kinds M) {n : ByteArray} {k p : Int} (hk : 0 < k) : Kinds (M ++ [(n, k, p)]) := by
  intro x hx
  rcases List.mem_append.1 hx with hx | hx
  · exact h x hx
  · simp at hx; subst hx; exact hk

/-- The map reads as what was taken up. -/
def Rep (D : DataW Unit) (M : List (ByteArray × Int × Int)) : Prop := IsMap D ∧ Kinds M ∧ ∀ s : ByteArray, D.atKey (.string s.data.toList) (md 0 0 0) = md (look M s).1 (look M s).2 0
theorem rep_nil : Rep (.map []) [] := ⟨⟨[], rfl⟩, by simp [Kinds], fun s => rfl⟩
theorem ba_ext {a b : ByteArray} (h : a.data.toList = b.data.toList) : a = b := by
  rcases a with ⟨⟨a⟩⟩; rcases b with ⟨⟨b⟩⟩; simp at h; rw [h]
theorem Rep.hit {D : DataW Unit} {M : List (ByteArray × Int × Int)} (h : Rep D M) {n : ByteArray} {k : Int} (p : Int) (hk : 0 < k) (hh : (look M n).1 ≠ 0) : Rep D (M ++ [(n, k, p)]) := by
  refine ⟨h.1, h.2.1.add hk, fun s => ?_⟩
  rw [h.2.2 s]
  by_cases e : (look M s).1 = 0
  · have : ¬ n = s := fun e2 => hh (by rw [e2]; exact e)
    rw [look_add_miss n k p h.2.1 e, look_zero h.2.1 e]
    simp [look, this]
  · rw [look_add_hit _ e]
theorem Rep.miss {D : DataW Unit} {M : List (ByteArray × Int × Int)} (h : Rep D M) {n : ByteArray} {k : Int} (p : Int) (hk : 0 < k) (hh : (look M n).1 = 0) : Rep (D.put (.string n.data.toList) (md k p 0)) (M ++ [(n, k, p)]) := by
  refine ⟨h.1.put _ _, h.2.1.add hk, fun s => ?_⟩
  by_cases e : n = s
  · subst e
    rw [atKey_put_same h.1 (show IsKeyLit (.string n.data.toList) from trivial), look_add_miss n k p h.2.1 hh]
    simp [look]
  · rw [atKey_put_other (fun e2 => e (by injection e2 with e3; exact (ba_ext e3).symm)), h.2.2 s]
    by_cases e2 : (look M s).1 = 0
    · rw [look_add_miss n k p h.2.1 e2, look_zero h.2.1 e2]
      simp [look, e]
    · rw [look_add_hit _ e2]

/-- A set of names in memory: a map and how many there are of each kind. -/
structure NS (w : World) (g o m n : Nat) (M : List (ByteArray × Int × Int)) (c : Nat → Int) : Prop where
  mp : w.cell? ⟨g, o, none⟩ = some (.map (some m))
  ct : ∀ i, i < 6 → w.cell? ⟨g, o + 1 + i, none⟩ = some (.int .i64 (c i))
  fz : ∀ i, w.frozen? ⟨g, i, none⟩ = false
  own : ∃ D, w.ownsMap Try.prog 9 meanElem m n D ∧ Rep D M
  gm : g ≠ m
  lt : g < w.heap.size
/-- What turned: one cell of a block, and a map. -/
structure Turn (w w' : World) (g m q : Nat) : Prop where
  os : w'.os = w.os
  tape : w'.tape = w.tape
  output : w'.output = w.output
  size : w'.heap.size = w.heap.size
  block : ∀ i, i ≠ g → i ≠ m → w'.heap[i]? = w.heap[i]?
  cell : ∀ i, i ≠ q → w'.cell? ⟨g, i, none⟩ = w.cell? ⟨g, i, none⟩
  fz : ∀ i, w'.frozen? ⟨g, i, none⟩ = w.frozen? ⟨g, i, none⟩
def bump (c : Nat → Int) (k : Nat) : Nat → Int := fun i => if i = k then c k + 1 else c i

theorem cell_set_ne {w : World} {g i q : Nat} {u : Value} (h : i ≠ q) : (w.setCell ⟨g, q, none⟩ u).cell? ⟨g, i, none⟩ = w.cell? ⟨g, i, none⟩ := by
  cases hh : w.heap[g]? with
  | none => simp [World.cell?, World.setCell, Array.getElem?_modify, hh]
  | some ob =>
    cases ob <;> simp [World.cell?, World.setCell, Array.getElem?_modify, hh]
    rw [Array.getElem?_setIfInBounds_ne (fun e => h e.symm)]
theorem cell_set_eq {w : World} {g q : Nat} {u v : Value} (h : w.cell? ⟨g, q, none⟩ = some v) : (w.setCell ⟨g, q, none⟩ u).cell? ⟨g, q, none⟩ = some u := by
  cases hh : w.heap[g]? with
  | none => simp [World.cell?, hh] at h
  | some ob =>
    cases ob <;> simp [World.cell?, World.setCell, Array.getElem?_modify, hh] at h ⊢
    rename_i cs _ _
    have := (Array.getElem?_eq_some_iff.1 h).1
    simp [this]
theorem Turn.of {w w1 : World} {g m q : Nat} {u : Value} (ht : w1 = w ∨ w.mapTurned w1 m) (hgm : g ≠ m) : Turn w (w1.setCell ⟨g, q, none⟩ u) g m q := by
  have hg : w.grownBy w1 (some m) := by
    rcases ht with rfl | ht
    · exact World.grownBy.refl _ _
    · exact ht.grown
  have hsz : w1.heap.size = w.heap.size := by
    rcases ht with rfl | ⟨es, cl, es', cl', _, rfl⟩
    · rfl
    · simp [setBlock]
  have hb : ∀ i, i ≠ m → w1.heap[i]? = w.heap[i]? := fun i hi => by
    by_cases hl : i < w.heap.size
    · exact hg.block i hl (fun e => hi (by simpa using e))
    · rw [Array.getElem?_eq_none (by omega), Array.getElem?_eq_none (by omega)]
  refine ⟨hg.os, hg.tape, hg.output, by simpa using hsz, fun i hi him => (Below.heap_setCell w1 ⟨g, q, none⟩ u i hi).trans (hb i him), fun i hi => ?_, fun i => ?_⟩
  · rw [cell_set_ne hi]
    simp [World.cell?, hb g hgm]
  · rw [World.frozen?_setCell]
    simp [World.frozen?, hb g hgm]
end Go.Proofs.Ytkfikpapgmamdaa.nk
