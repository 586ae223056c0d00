/-
  The program's rests: the greatest common divisor of some numbers.
-/
import Derived.Test.YthbbgkpkijlclaaDoorUa
namespace Go.Proofs.YthbbgkpkijlclaaDoor.num
open Go.ChangeShapes Go.WideShapes Go.ChangeAt Go.RowKit
set_option linter.unusedVariables false

/-- A block's cells are these numbers. -/
def GR (w : World) (b : Nat) (l : List Int) : Prop := b < w.heap.size ∧ ∀ (j : Nat) t, l[j]? = some t → w.cell? ⟨b, j, none⟩ = some (.int .i64 t)
/-- The greatest common divisor of some numbers. -/
def gcdL (l : List Int) : Int := l.foldl gcd9 0
theorem gcdL_two (a b : Int) : gcdL [a, b] = gcd9 a b := by
  show gcd9 (gcd9 0 a) b = _
  rw [zero_gcd9, gcd9_abs_left]
theorem gcdL_three (a b c : Int) : gcdL [a, b, c] = gcd9 (gcd9 a b) c := by
  show gcd9 (gcd9 (gcd9 0 a) b) c = _
  rw [zero_gcd9, gcd9_abs_left]
theorem gcdL_pos (l : List Int) : 0 ≤ gcdL l := by
  unfold gcdL
  suffices h : ∀ (l : List Int) (s : Int), 0 ≤ s → 0 ≤ l.foldl gcd9 s from h l 0 (by omega)
  intro l
  induction l with
  | nil => intro s h; simpa using h
  | cons t l ih => intro s h; exact ih _ (gcd9_pos _ _)
theorem gcdL_bd (l : List Int) (n : Int) (hn : 0 ≤ n) (h : ∀ t ∈ l, -n ≤ t ∧ t ≤ n) : gcdL l ≤ n := by
  unfold gcdL
  suffices h : ∀ (l : List Int) (s : Int), (∀ t ∈ l, -n ≤ t ∧ t ≤ n) → 0 ≤ s → s ≤ n → l.foldl gcd9 s ≤ n from h l 0 ‹_› (by omega) hn
  intro l
  induction l with
  | nil => intro s _ h0 h; simpa using h
  | cons t l ih =>
    intro s hl h0 h1
    exact ih _ (fun t ht => hl t (List.mem_cons_of_mem _ ht)) (gcd9_pos _ _) (gcd9_bd _ _ _ (by omega) (hl t (List.mem_cons_self)))
theorem gsnoc {f : Int → Int → Int} {l : List Int} {j : Nat} {t o : Int} (ht : l[j]? = some t) : (l.take (j + 1)).foldl f o = f ((l.take j).foldl f o) t := by
  rw [List.take_add_one, ht]; simp
theorem GR.below {w w' : World} {b : Nat} {l : List Int} (h : GR w b l) (hb : Below w.heap.size w w') : GR w' b l :=
  ⟨Nat.lt_of_lt_of_le h.1 hb.size, fun j t hj => by rw [hb.cell (p := ⟨b, j, none⟩) h.1]; exact h.2 j t hj⟩
theorem bel_drew {n : Nat} {w wr : World} (h : Hid (Below n w wr)) : Hid (Below n w wr.drew) := hide ⟨(unhide h).os, (unhide h).tape, (unhide h).output, (unhide h).size, (unhide h).block⟩
set_option maxRecDepth 100000 in
set_option maxHeartbeats 4000000 in
theorem iGcd_any (b : Nat) (l : List Int) (w : World) (h : GR w b l) (hl : l.length ≤ 8) (hb : ∀ t ∈ l, -9223372036854775807 ≤ t ∧ t ≤ 9223372036854775807) :
    Calls Tryd.prog 148 #[.slice (some ⟨b, 0, none⟩) l.length l.length] w fun e w' => e = .returned (.int .i64 (gcdL l)) ∧ Below w.heap.size w w' := by
  have H := hide h
  have HB := hide hb
  clear h hb
  unfold gcdL
  go_enter Tryd.func148, Tryd.ntmps148
  go_wp2
  go_loopw [3, 8] (fun c i wr => ∃ (j : Nat) (p : Int), j ≤ l.length ∧ i = .int .i64 j ∧ c = .int .i64 p ∧ (-9223372036854775807 ≤ p ∧ p ≤ 9223372036854775807) ∧ (p.natAbs : Int) = (l.take j).foldl gcd9 0 ∧ Hid (Below w.heap.size w wr)) (fun _ i _ => l.length - (intOf i).toNat)
  case atStart => exact ⟨0, 0, by omega, rfl, rfl, by omega, by simp, hide (Below.refl _ _)⟩
  case round =>
    obtain ⟨j, p, hj, rfl, rfl, hp, hG, hB⟩ := hrel
    by_cases hlt : j < l.length
    · obtain ⟨t, ht⟩ : ∃ t, l[j]? = some t := ⟨_, List.getElem?_eq_getElem hlt⟩
      have hs := gsnoc (f := gcd9) (o := 0) ht
      obtain ⟨ht1, ht2⟩ := unhide HB t (List.mem_of_getElem? ht)
      obtain ⟨hlb, hc'⟩ := (unhide H).below (unhide hB)
      have hc := hc' j t ht
      clear hc' ht
      rw [← hG, gcd9_abs_left] at hs
      have HS := hide hs
      clear hs hG
      go_wp2
      go_loopw [3, 5] (fun c n wi => ∃ p' q' : Int, c = .int .i64 p' ∧ n = .int .i64 q' ∧ (-9223372036854775807 ≤ p' ∧ p' ≤ 9223372036854775807) ∧ (-9223372036854775807 ≤ q' ∧ q' ≤ 9223372036854775807) ∧ gcd9 p' q' = gcd9 p t ∧ Hid (Below w.heap.size w wi)) (fun _ n _ => (intOf n).natAbs)
      case atStart => exact ⟨p, t, rfl, rfl, hp, ⟨ht1, ht2⟩, rfl, hB⟩
      case round =>
        obtain ⟨p', q', rfl, rfl, hp', hq', hg, hB2⟩ := hrel
        by_cases hq : q' = 0
        · subst hq
          rw [gcd9_zero] at hg
          go_wp2
          go_roundw
          case rel => exact ⟨j + 1, p', by omega, by go_num, rfl, hp', by rw [unhide HS, hg], hB2⟩
          case measure => simp [intOf]; omega
        · have r1 : (p'.tmod q').natAbs < q'.natAbs := by rw [Int.natAbs_tmod]; exact Nat.mod_lt _ (by omega)
          have hr : -9223372036854775807 ≤ p'.tmod q' ∧ p'.tmod q' ≤ 9223372036854775807 := by omega
          have R1 := hide r1
          clear r1
          go_wp2
          go_region
          all_goals go_wp2
          all_goals go_roundw
          all_goals first
            | exact ⟨q', p'.tmod q', rfl, rfl, hq', hr, by rw [gcd9_step, hg], bel_drew hB2⟩
            | (have r1 := unhide R1; simp only [intOf]; exact r1)
    · obtain rfl : j = l.length := by omega
      rw [List.take_length] at hG
      go_wp2
      all_goals go_ret
      all_goals exact ⟨ret_int (by rw [← hG]; omega), unhide hB⟩
theorem iGcd_two (b : Nat) (x y : Int) (w : World) (hb : b < w.heap.size) (c0 : w.cell? ⟨b, 0, none⟩ = some (.int .i64 x)) (c1 : w.cell? ⟨b, 1, none⟩ = some (.int .i64 y))
    (hx : -9223372036854775807 ≤ x ∧ x ≤ 9223372036854775807) (hy : -9223372036854775807 ≤ y ∧ y ≤ 9223372036854775807) :
    Calls Tryd.prog 148 #[.slice (some ⟨b, 0, none⟩) 2 2] w fun e w' => e = .returned (.int .i64 (gcd9 x y)) ∧ Below w.heap.size w w' := by
  rw [← gcdL_two]
  exact iGcd_any b [x, y] w ⟨hb, fun j t hj => by
    match j, hj with
    | 0, hj => simp at hj; subst hj; exact c0
    | 1, hj => simp at hj; subst hj; exact c1
    | n + 2, hj => simp at hj⟩ (by simp) (fun t ht => by simp at ht; rcases ht with rfl | rfl <;> assumption)
theorem iGcd_three (b : Nat) (x y z : Int) (w : World) (hb : b < w.heap.size) (c0 : w.cell? ⟨b, 0, none⟩ = some (.int .i64 x)) (c1 : w.cell? ⟨b, 1, none⟩ = some (.int .i64 y)) (c2 : w.cell? ⟨b, 2, none⟩ = some (.int .i64 z))
    (hx : -9223372036854775807 ≤ x ∧ x ≤ 9223372036854775807) (hy : -9223372036854775807 ≤ y ∧ y ≤ 9223372036854775807) (hz : -9223372036854775807 ≤ z ∧ z ≤ 9223372036854775807) :
    Calls Tryd.prog 148 #[.slice (some ⟨b, 0, none⟩) 3 3] w fun e w' => e = .returned (.int .i64 (gcd9 (gcd9 x y) z)) ∧ Below w.heap.size w w' := by
  rw [← gcdL_three]
  exact iGcd_any b [x, y, z] w ⟨hb, fun j t hj => by
    match j, hj with
    | 0, hj => simp at hj; subst hj; exact c0
    | 1, hj => simp at hj; subst hj; exact c1
    | 2, hj => simp at hj; subst hj; exact c2
    | n + 3, hj => simp at hj⟩ (by simp) (fun t ht => by simp at ht; rcases ht with rfl | rfl | rfl <;> assumption)
end Go.Proofs.YthbbgkpkijlclaaDoor.num
