/-
  The first function of a name.
-/
import Derived.Test.YtkfikpapgmamdaaJ
import Derived.Laws.EntriesVeiled
namespace Go.Proofs.Ytkfikpapgmamdaa.nk
open Go.RowKit Go.Proofs.Ytkfikpapgmamdaa.num
set_option linter.unusedVariables false

variable {base : Nat}
set_option maxHeartbeats 4000000 in
set_option maxRecDepth 100000 in
theorem sameName_yes (u : Fu) (vi vr : Value) (p : Nat) (w : World) (hp : p < w.heap.size) (h : w.cell? ⟨p, 0, none⟩ = some (.string u.name)) :
    Calls Try.prog 29 #[.agg #[.string u.name, .int .i64 u.params, vi, vr, .int .i64 u.body], .pointer (some ⟨p, 0, none⟩)] w fun e w' => e = .returned (.bool true) ∧ Below w.heap.size w w' := by
  go_enter Try.func29, Try.ntmps29
  go_wp2
  go_ret
  exact ⟨rfl, (Below.refl _ _).alloc (Nat.le_refl _) _⟩
set_option maxHeartbeats 4000000 in
set_option maxRecDepth 100000 in
theorem sameName_no (u : Fu) (fn : ByteArray) (vi vr : Value) (p : Nat) (w : World) (hp : p < w.heap.size) (h : w.cell? ⟨p, 0, none⟩ = some (.string fn)) (hne : ¬ u.name = fn) :
    Calls Try.prog 29 #[.agg #[.string u.name, .int .i64 u.params, vi, vr, .int .i64 u.body], .pointer (some ⟨p, 0, none⟩)] w fun e w' => e = .returned (.bool false) ∧ Below w.heap.size w w' := by
  have hn := ba_ne hne
  go_enter Try.func29, Try.ntmps29
  go_wp2
  go_ret
  exact ⟨rfl, (Below.refl _ _).alloc (Nat.le_refl _) _⟩

set_option maxHeartbeats 4000000 in
set_option maxRecDepth 100000 in
theorem indexFunc_any (l : List Fu) (fn : ByteArray) (v : Value) (p : Nat) (w : World) (h : Funs base w v l) (hp : p < w.heap.size) (hf : w.cell? ⟨p, 0, none⟩ = some (.string fn)) :
    Calls Try.prog 28 #[v, .func (.func 29) #[] #[.pointer (some ⟨p, 0, none⟩)]] w fun e w' => e = .returned (.int .i64 (posI (l.map (·.name)) fn)) ∧ Below w.heap.size w w' := by
  obtain ⟨a, cap, rfl, hc1, hc2, -⟩ := id h
  have H := hide (And.intro h hf)
  unfold maxLen at hc2
  clear h hf
  go_enter Try.func28, Try.ntmps28
  go_wp2
  go_loopw [8] (fun i wr => ∃ j : Nat, j ≤ l.length ∧ i = .int .i64 j ∧ Hid (∀ i, i < j → (l.map (·.name))[i]? ≠ some fn) ∧ Hid (Below w.heap.size w wr)) (fun i _ => l.length - (intOf i).toNat)
  case atStart => exact ⟨0, by omega, rfl, hide (fun i hi => by omega), hide (Below.refl _ _)⟩
  case round =>
    obtain ⟨j, hj, rfl, HN, HB⟩ := hrel
    by_cases hlt : j < l.length
    · obtain ⟨t, ht⟩ : ∃ t, l[j]? = some t := ⟨_, List.getElem?_eq_getElem hlt⟩
      have ht' : (l.map (·.name))[j]? = some t.name := by simp [ht]
      obtain ⟨b, off, vi, vr, rfl, hb, c0, c1, c2, c3, c4, hsz, -, -⟩ := ((unhide H).1.fbelow (unhide HB)).fget ht
      have hf' : wr.cell? ⟨p, 0, none⟩ = some (.string fn) := by rw [(unhide HB).cell (by exact hp)]; exact (unhide H).2
      have hp' : p < wr.heap.size := Nat.lt_of_lt_of_le hp (unhide HB).size
      clear ht
      by_cases e : t.name = fn
      · subst e
        have hps := posI_some (pos_hit (unhide HN) ht')
        have hy := sameName_yes t vi vr p wr hp' hf'
        clear ht'
        go_wp2_with (go_at_call 29; refine hy.mono ?_; rintro e w1 ⟨rfl, hb1⟩)
        go_ret
        exact ⟨ret_int hps.symm, unhide (bel_next HB hb1)⟩
      · have HN' := not_next HN ht' e
        have hy := sameName_no t fn vi vr p wr hp' hf' e
        clear ht'
        go_wp2_with (go_at_call 29; refine hy.mono ?_; rintro e w1 ⟨rfl, hb1⟩)
        go_roundw
        case rel => exact ⟨j + 1, by omega, by go_num, HN', bel_next HB hb1⟩
        case measure => simp [intOf]; omega
    · obtain rfl : j = l.length := by omega
      have hps := posI_none (pos_miss (l := l.map (·.name)) (by rw [List.length_map]; exact unhide HN))
      go_wp2
      go_ret
      exact ⟨ret_int hps.symm, unhide HB⟩
end Go.Proofs.Ytkfikpapgmamdaa.nk
