/-
  Rows of numbers and of bools: how much they hold, copies, and that they are the same.
-/
import Derived.Test.YthbbgkpkijlclaaDoorRa
namespace Go.Proofs.YthbbgkpkijlclaaDoor.rws
open Go.RowKit Go.Proofs.YthbbgkpkijlclaaDoor.num
set_option linter.unusedVariables false

/-- A number's cell, a bool's. -/
def ci (x : Int) : List Value := [.int .i64 x]
def cb (x : Bool) : List Value := [.bool x]
abbrev Ints (base : Nat) (w : World) (v : Value) (l : List Int) : Prop := Seq 1 ci (fun x => (Lit.int .i64 x).wf = true) base w v l
abbrev Bools (base : Nat) (w : World) (v : Value) (l : List Bool) : Prop := Seq 1 cb (fun _ => True) base w v l
abbrev RInts (base : Nat) (w : World) (v : Value) (l : List Int) : Prop := Row 3 1 ci base w v l
abbrev RBools (base : Nat) (w : World) (v : Value) (l : List Bool) : Prop := Row 4 1 cb base w v l
theorem Seq.atI {ok : Int → Prop} {base : Nat} {w : World} {a : Option Addr} {n cap : Nat} {l : List Int} (h : Seq 1 ci ok base w (.slice a n cap) l) {j : Nat} {t : Int} (hj : l[j]? = some t) :
    ∃ b off, a = some ⟨b, off, none⟩ ∧ b < w.heap.size ∧ w.cell? ⟨b, off + j, none⟩ = some (.int .i64 t) := by
  obtain ⟨b, off, e1, e2, -, e3⟩ := h.at hj
  have := e3 0 _ rfl
  rw [Nat.mul_one, Nat.add_zero] at this
  exact ⟨b, off, e1, e2, this⟩
theorem Seq.atB {ok : Bool → Prop} {base : Nat} {w : World} {a : Option Addr} {n cap : Nat} {l : List Bool} (h : Seq 1 cb ok base w (.slice a n cap) l) {j : Nat} {t : Bool} (hj : l[j]? = some t) :
    ∃ b off, a = some ⟨b, off, none⟩ ∧ b < w.heap.size ∧ w.cell? ⟨b, off + j, none⟩ = some (.bool t) := by
  obtain ⟨b, off, e1, e2, -, e3⟩ := h.at hj
  have := e3 0 _ rfl
  rw [Nat.mul_one, Nat.add_zero] at this
  exact ⟨b, off, e1, e2, this⟩

set_option maxHeartbeats 4000000 in
set_option maxRecDepth 100000 in
theorem eqI_same {b1 b2 : Nat} (l : List Int) (v1 v2 : Value) (w : World) {ok1 ok2 : Int → Prop} (h1 : Seq 1 ci ok1 b1 w v1 l) (h2 : Seq 1 ci ok2 b2 w v2 l) :
    Calls Tryd.prog 51 #[v1, v2] w fun e w' => e = .returned (.bool true) ∧ Below w.heap.size w w' := by
  obtain ⟨a1, cap1, rfl, hc1, hm1⟩ := h1.shape
  obtain ⟨a2, cap2, rfl, hc2, hm2⟩ := h2.shape
  have H := hide (And.intro h1 h2)
  unfold maxLen at hm1 hm2
  clear h1 h2
  go_enter Tryd.func51, Tryd.ntmps51
  go_wp2
  go_loopw [5] (fun i wr => ∃ j : Nat, j ≤ l.length ∧ i = .int .i64 j ∧ Hid (Below w.heap.size w wr)) (fun i _ => l.length - (intOf i).toNat)
  case atStart => exact ⟨0, by omega, rfl, hide (Below.refl _ _)⟩
  case round =>
    obtain ⟨j, hj, rfl, HB⟩ := hrel
    by_cases hlt : j < l.length
    · obtain ⟨t, ht⟩ : ∃ t, l[j]? = some t := ⟨_, List.getElem?_eq_getElem hlt⟩
      obtain ⟨g1, o1, rfl, hg1, c1⟩ := ((unhide H).1.below (unhide HB)).atI ht
      obtain ⟨g2, o2, rfl, hg2, c2⟩ := ((unhide H).2.below (unhide HB)).atI ht
      clear ht
      go_wp2
      go_region
      all_goals go_wp2
      all_goals go_roundw
      all_goals first
        | exact ⟨j + 1, by omega, by go_num, bel_drew HB⟩
        | (simp [intOf]; omega)
    · go_wp2
      go_ret
      exact ⟨rfl, unhide HB⟩

end Go.Proofs.YthbbgkpkijlclaaDoor.rws
