/-
  The model's look-ups in rows, and what a name stands for, as a plain function of the table.
-/
import Derived.Test.YtkfikpapgmamdaaA
namespace Go.Proofs.Ytkfikpapgmamdaa.nk
open Go.RowKit Go.Proofs.Ytkfikpapgmamdaa.num
set_option linter.unusedVariables false

open Classical in
/-- The first place of a text. -/
noncomputable def pos : List ByteArray → ByteArray → Option Nat
  | [], _ => none
  | a :: r, s => if a = s then some 0 else (pos r s).map (· + 1)
noncomputable def posI (l : List ByteArray) (s : ByteArray) : Int := match pos l s with | some n => n | none => -1
theorem pos_hit {l : List ByteArray} {s : ByteArray} {j : Nat} (h : ∀ i, i < j → l[i]? ≠ some s) (hj : l[j]? = some s) : pos l s = some j := by
  induction l generalizing j with
  | nil => simp at hj
  | cons a r ih =>
    cases j with
    | zero => simp at hj; simp [pos, hj]
    | succ j =>
      have h0 : ¬ a = s := by have := h 0 (by omega); simpa using this
      have := ih (j := j) (fun i hi => by have := h (i + 1) (by omega); simpa using this) (by simpa using hj)
      simp [pos, h0, this]
theorem pos_miss {l : List ByteArray} {s : ByteArray} (h : ∀ i, i < l.length → l[i]? ≠ some s) : pos l s = none := by
  induction l with
  | nil => rfl
  | cons a r ih =>
    have h0 : ¬ a = s := by have := h 0 (by simp); simpa using this
    have := ih (fun i hi => by have := h (i + 1) (by simpa using hi); simpa using this)
    simp [pos, h0, this]
theorem pos_some {l : List ByteArray} {s : ByteArray} {n : Nat} (h : pos l s = some n) : l[n]? = some s := by
  induction l generalizing n with
  | nil => simp [pos] at h
  | cons a r ih =>
    unfold pos at h
    split at h
    · rename_i e; simp at h; subst h; simp [e]
    · cases hp : pos r s with
      | none => simp [hp] at h
      | some m => simp [hp] at h; subst h; simpa using ih hp
theorem posI_some {l : List ByteArray} {s : ByteArray} {n : Nat} (h : pos l s = some n) : posI l s = n := by simp [posI, h]
theorem posI_none {l : List ByteArray} {s : ByteArray} (h : pos l s = none) : posI l s = -1 := by simp [posI, h]

variable {base : Nat}
theorem not_next {l : List ByteArray} {s : ByteArray} {j : Nat} (h : Hid (∀ i, i < j → l[i]? ≠ some s)) {t : ByteArray} (ht : l[j]? = some t) (hn : ¬ t = s) : Hid (∀ i, i < j + 1 → l[i]? ≠ some s) :=
  hide fun i hi => by
    by_cases e : i = j
    · subst e; rw [ht]; simpa using hn
    · exact unhide h i (by omega)

set_option maxHeartbeats 1000000 in
set_option maxRecDepth 100000 in
theorem texts_any (l : List ByteArray) (s : ByteArray) (v : Value) (w : World) (h : Strs base w v l) :
    Calls Try.prog 13 #[v, .string s] w fun e w' => e = .returned (.int .i64 (posI l s)) ∧ w' = w := by
  obtain ⟨a, cap, rfl, hc1, hc2, -⟩ := id h
  have H := hide h
  unfold maxLen at hc2
  clear h
  go_enter Try.func13, Try.ntmps13
  go_wp2
  go_loop [5] (fun i => ∃ j : Nat, j ≤ l.length ∧ i = .int .i64 j ∧ Hid (∀ i, i < j → l[i]? ≠ some s)) (fun i => l.length - (intOf i).toNat)
  case atStart => exact ⟨0, by omega, rfl, hide (fun i hi => by omega)⟩
  case round =>
    obtain ⟨j, hj, rfl, HN⟩ := hrel
    by_cases hlt : j < l.length
    · obtain ⟨t, ht⟩ : ∃ t, l[j]? = some t := ⟨_, List.getElem?_eq_getElem hlt⟩
      obtain ⟨b, off, rfl, hb, hc, hsz⟩ := (unhide H).sget ht
      by_cases e : t = s
      · subst e
        have hp := posI_some (pos_hit (unhide HN) ht)
        clear ht
        go_wp2
        go_ret
        exact ⟨rfl, rfl⟩
      · have hn := ba_ne e
        have HN' := not_next HN ht e
        clear ht
        go_wp2
        go_round
        case rel => exact ⟨j + 1, by omega, by go_num, HN'⟩
        case measure => simp [intOf]; omega
    · obtain rfl : j = l.length := by omega
      have hp := posI_none (pos_miss (unhide HN))
      go_wp2
      go_ret
      exact ⟨rfl, rfl⟩

set_option maxHeartbeats 1000000 in
set_option maxRecDepth 100000 in
theorem array_any (l : List Ar) (s : ByteArray) (va vg vf : Value) (w : World) (h : Arrs base w va l) :
    Calls Try.prog 14 #[.agg #[va, vg, vf], .string s] w fun e w' => e = .returned (.int .i64 (posI (l.map (·.name)) s)) ∧ Below w.heap.size w w' := by
  obtain ⟨a, cap, rfl, hc1, hc2, -⟩ := id h
  have H := hide (h.abelow ((Below.refl w.heap.size w).alloc (Nat.le_refl _) (.cells #[.slice a l.length cap, vg, vf] 33)))
  unfold maxLen at hc2
  clear h
  go_enter Try.func14, Try.ntmps14
  go_wp2
  go_loop [5] (fun i => ∃ j : Nat, j ≤ l.length ∧ i = .int .i64 j ∧ Hid (∀ i, i < j → (l.map (·.name))[i]? ≠ some s)) (fun i => l.length - (intOf i).toNat)
  case atStart => exact ⟨0, by omega, rfl, hide (fun i hi => by omega)⟩
  case round =>
    obtain ⟨j, hj, rfl, HN⟩ := hrel
    by_cases hlt : j < l.length
    · obtain ⟨t, ht⟩ : ∃ t, l[j]? = some t := ⟨_, List.getElem?_eq_getElem hlt⟩
      have ht' : (l.map (·.name))[j]? = some t.name := by simp [ht]
      obtain ⟨b, off, rfl, hb, c0, -, hsz⟩ := (unhide H).aget ht
      clear ht
      by_cases e : t.name = s
      · subst e
        have hp := posI_some (pos_hit (unhide HN) ht')
        clear ht'
        go_wp2
        go_ret
        exact ⟨rfl, (Below.refl _ _).alloc (Nat.le_refl _) _⟩
      · have hn := ba_ne e
        have HN' := not_next HN ht' e
        clear ht'
        go_wp2
        go_round
        case rel => exact ⟨j + 1, by omega, by go_num, HN'⟩
        case measure => simp [intOf]; omega
    · obtain rfl : j = l.length := by omega
      have hp := posI_none (pos_miss (l := l.map (·.name)) (by rw [List.length_map]; exact unhide HN))
      go_wp2
      go_ret
      exact ⟨rfl, (Below.refl _ _).alloc (Nat.le_refl _) _⟩

set_option maxHeartbeats 1000000 in
set_option maxRecDepth 100000 in
theorem func_any (l : List Fu) (s : ByteArray) (va vg vf : Value) (w : World) (h : Funs base w vf l) :
    Calls Try.prog 12 #[.agg #[va, vg, vf], .string s] w fun e w' => e = .returned (.int .i64 (posI (l.map (·.name)) s)) ∧ Below w.heap.size w w' := by
  obtain ⟨a, cap, rfl, hc1, hc2, -⟩ := id h
  have H := hide (h.fbelow ((Below.refl w.heap.size w).alloc (Nat.le_refl _) (.cells #[va, vg, .slice a l.length cap] 33)))
  unfold maxLen at hc2
  clear h
  go_enter Try.func12, Try.ntmps12
  go_wp2
  go_loop [5] (fun i => ∃ j : Nat, j ≤ l.length ∧ i = .int .i64 j ∧ Hid (∀ i, i < j → (l.map (·.name))[i]? ≠ some s)) (fun i => l.length - (intOf i).toNat)
  case atStart => exact ⟨0, by omega, rfl, hide (fun i hi => by omega)⟩
  case round =>
    obtain ⟨j, hj, rfl, HN⟩ := hrel
    by_cases hlt : j < l.length
    · obtain ⟨t, ht⟩ : ∃ t, l[j]? = some t := ⟨_, List.getElem?_eq_getElem hlt⟩
      have ht' : (l.map (·.name))[j]? = some t.name := by simp [ht]
      obtain ⟨b, off, vi, vr, rfl, hb, c0, -, -, -, -, hsz, -, -⟩ := (unhide H).fget ht
      clear ht
      by_cases e : t.name = s
      · subst e
        have hp := posI_some (pos_hit (unhide HN) ht')
        clear ht'
        go_wp2
        go_ret
        exact ⟨rfl, (Below.refl _ _).alloc (Nat.le_refl _) _⟩
      · have hn := ba_ne e
        have HN' := not_next HN ht' e
        clear ht'
        go_wp2
        go_round
        case rel => exact ⟨j + 1, by omega, by go_num, HN'⟩
        case measure => simp [intOf]; omega
    · obtain rfl : j = l.length := by omega
      have hp := posI_none (pos_miss (l := l.map (·.name)) (by rw [List.length_map]; exact unhide HN))
      go_wp2
      go_ret
      exact ⟨rfl, (Below.refl _ _).alloc (Nat.le_refl _) _⟩
end Go.Proofs.Ytkfikpapgmamdaa.nk
