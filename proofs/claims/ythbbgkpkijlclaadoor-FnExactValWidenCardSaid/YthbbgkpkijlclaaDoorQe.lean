/-
  Wider ranges tell no less; widening comes to rest; what a comparison leaves.
-/
import Derived.Test.YthbbgkpkijlclaaDoorQd
namespace Go.Proofs.YthbbgkpkijlclaaDoor.num
open Go.RowKit
set_option linter.unusedVariables false

theorem rIn_of_has {x y : R8} (hx : rOk x = true) (hy : rOk y = true) (h : ∀ v, rHas x v = true → rHas y v = true) : rIn x y = true := by
  rw [rIn_iff]
  refine ⟨hx, hy, ?_⟩
  by_cases n : isN x = true
  · exact .inl ((isN_iff _).1 n)
  · have k := ok_some hx n
    have h1 := h x.1 (by rw [rHas_iff]; omega)
    have h2 := h x.2 (by rw [rHas_iff]; omega)
    rw [rHas_iff] at h1 h2
    exact .inr (by omega)
theorem rIn_none {y : R8} (hy : rOk y = true) : rIn none8 y = true := by rw [rIn_iff]; exact ⟨rOk_none, hy, .inl ⟨rfl, rfl⟩⟩
theorem rIn_ends {x y : R8} (hx : rOk x = true) (hy : rOk y = true) (h1 : y.1 ≤ x.1) (h2 : x.2 ≤ y.2) : rIn x y = true := by rw [rIn_iff]; exact ⟨hx, hy, .inr ⟨h1, h2⟩⟩
theorem cut8_mono {lo hi lo' hi' : Int} (h1 : lo' ≤ lo) (h2 : hi ≤ hi') : rIn (cut8 lo hi) (cut8 lo' hi') = true :=
  rIn_of_has (cut8_ok _ _) (cut8_ok _ _) (fun v h => by rw [cut8_has] at *; omega)
/-- Corners of lesser ranges lie within those of greater ones. -/
theorem corners_mono {op : Int} {a b a' b' : R8} (hop : op = 1 ∨ op = 2 ∨ op = 3 ∨ op = 9 ∨ op = 10 ∨ op = 11 ∨ op = 12 ∨ op = 13 ∨ op = 4 ∧ (0 < b'.1 ∨ b'.2 < 0))
    (ha : a'.1 ≤ a.1 ∧ a.1 ≤ a.2 ∧ a.2 ≤ a'.2) (hb : b'.1 ≤ b.1 ∧ b.1 ≤ b.2 ∧ b.2 ≤ b'.2) (hs : op = 9 ∨ op = 10 → 0 ≤ b'.1) : cLo op a' b' ≤ cLo op a b ∧ cHi op a b ≤ cHi op a' b' := by
  have k1 := corners_btw (a := a') (b := b') (u := a.1) (v := b.1) hop ⟨by omega, by omega⟩ ⟨by omega, by omega⟩ hs
  have k2 := corners_btw (a := a') (b := b') (u := a.1) (v := b.2) hop ⟨by omega, by omega⟩ ⟨by omega, by omega⟩ hs
  have k3 := corners_btw (a := a') (b := b') (u := a.2) (v := b.1) hop ⟨by omega, by omega⟩ ⟨by omega, by omega⟩ hs
  have k4 := corners_btw (a := a') (b := b') (u := a.2) (v := b.2) hop ⟨by omega, by omega⟩ ⟨by omega, by omega⟩ hs
  generalize cLo op a' b' = L at *
  generalize cHi op a' b' = H at *
  unfold cLo cHi
  generalize exactV op a.1 b.1 = p1 at *
  generalize exactV op a.1 b.2 = p2 at *
  generalize exactV op a.2 b.1 = p3 at *
  generalize exactV op a.2 b.2 = p4 at *
  omega
theorem corners_mono_div {a b a' b' : R8} (h : 0 < b'.1 ∨ b'.2 < 0) (ha : a'.1 ≤ a.1 ∧ a.1 ≤ a.2 ∧ a.2 ≤ a'.2) (hb : b'.1 ≤ b.1 ∧ b.1 ≤ b.2 ∧ b.2 ≤ b'.2) : cLo 4 a' b' ≤ cLo 4 a b ∧ cHi 4 a b ≤ cHi 4 a' b' :=
  corners_mono (.inr (.inr (.inr (.inr (.inr (.inr (.inr (.inr ⟨rfl, h⟩)))))))) ha hb (fun h => by rcases h with h | h <;> cases h)
/-- Two ranges, one within the other, neither none. -/
def Wi (a a' : R8) : Prop := -2147483648 ≤ a'.1 ∧ a'.2 ≤ 2147483647 ∧ a'.1 ≤ a.1 ∧ a.1 ≤ a.2 ∧ a.2 ≤ a'.2
theorem Wi.ok {a a' : R8} (h : Wi a a') : rOk a = true ∧ ¬ isN a = true ∧ rOk a' = true ∧ ¬ isN a' = true := by
  obtain ⟨h1, h2, h3, h4, h5⟩ := h
  exact ⟨some_ok (by omega), by rw [isN_iff]; omega, some_ok (by omega), by rw [isN_iff]; omega⟩
theorem divQ_mono {a b a' b' : R8} (ha : Wi a a') (hb : Wi b b') : rIn (divQ a b) (divQ a' b') = true := by
  obtain ⟨ob, nb, ob', nb'⟩ := hb.ok
  have ka := ha
  have kb := hb
  unfold Wi at ka kb
  have kd := divQ_ok a' b'
  unfold divQ at kd ⊢
  rw [neg8_eq ob' nb', pos8_eq ob' nb'] at kd ⊢
  rw [neg8_eq ob nb, pos8_eq ob nb]
  by_cases n : b.1 ≤ -1
  · have n' : b'.1 ≤ -1 := by omega
    have x1 : ¬ isN ((b.1, min b.2 (-1)) : R8) = true := by rw [isN_iff]; simp only; omega
    have x2 : ¬ isN ((b'.1, min b'.2 (-1)) : R8) = true := by rw [isN_iff]; simp only; omega
    have m1 := corners_mono_div (a := a) (a' := a') (b := (b.1, min b.2 (-1))) (b' := (b'.1, min b'.2 (-1))) (by simp only; omega) (by omega) (by simp only; omega)
    rw [if_pos n, if_neg x1]
    rw [if_pos n', if_neg x2] at kd ⊢
    by_cases p : 1 ≤ b.2
    · have p' : 1 ≤ b'.2 := by omega
      have x3 : ¬ isN ((max b.1 1, b.2) : R8) = true := by rw [isN_iff]; simp only; omega
      have x4 : ¬ isN ((max b'.1 1, b'.2) : R8) = true := by rw [isN_iff]; simp only; omega
      have m2 := corners_mono_div (a := a) (a' := a') (b := (max b.1 1, b.2)) (b' := (max b'.1 1, b'.2)) (by simp only; omega) (by omega) (by simp only; omega)
      rw [if_pos p, if_neg x3, if_pos p', if_neg x4]
      exact cut8_mono (by omega) (by omega)
    · rw [if_neg p, if_pos isN_none]
      by_cases p' : 1 ≤ b'.2
      · have x4 : ¬ isN ((max b'.1 1, b'.2) : R8) = true := by rw [isN_iff]; simp only; omega
        rw [if_pos p', if_neg x4]
        exact cut8_mono (by omega) (by omega)
      · rw [if_neg p', if_pos isN_none]
        exact cut8_mono (by omega) (by omega)
  · rw [if_neg n, if_pos isN_none]
    by_cases p : 1 ≤ b.2
    · have p' : 1 ≤ b'.2 := by omega
      have x3 : ¬ isN ((max b.1 1, b.2) : R8) = true := by rw [isN_iff]; simp only; omega
      have x4 : ¬ isN ((max b'.1 1, b'.2) : R8) = true := by rw [isN_iff]; simp only; omega
      have m2 := corners_mono_div (a := a) (a' := a') (b := (max b.1 1, b.2)) (b' := (max b'.1 1, b'.2)) (by simp only; omega) (by omega) (by simp only; omega)
      rw [if_pos p, if_neg x3, if_pos p', if_neg x4]
      by_cases n' : b'.1 ≤ -1
      · have x2 : ¬ isN ((b'.1, min b'.2 (-1)) : R8) = true := by rw [isN_iff]; simp only; omega
        rw [if_pos n', if_neg x2, if_neg x4]
        exact cut8_mono (by omega) (by omega)
      · rw [if_neg n', if_pos isN_none]
        exact cut8_mono (by omega) (by omega)
    · rw [if_neg p, if_pos isN_none]
      exact rIn_none kd
theorem rem8_mono {a a' : R8} {l h l' h' : Int} (ha : Wi a a') (h1 : 1 ≤ l') (h2 : l' ≤ l) (h3 : l ≤ h) (h4 : h ≤ h') : (rem8 a' l' h').1 ≤ (rem8 a l h).1 ∧ (rem8 a l h).2 ≤ (rem8 a' l' h').2 := by
  unfold Wi at ha
  unfold rem8
  by_cases c' : -l' < a'.1 ∧ a'.2 < l'
  · rw [if_pos c', if_pos (by omega)]
    omega
  · rw [if_neg c']
    by_cases c : -l < a.1 ∧ a.2 < l
    · rw [if_pos c]
      constructor
      · simp only; split <;> omega
      · simp only; split <;> omega
    · rw [if_neg c]
      constructor
      · simp only; split <;> split <;> omega
      · simp only; split <;> split <;> omega
theorem divR_mono {a b a' b' : R8} (ha : Wi a a') (hb : Wi b b') : rIn (divR a b) (divR a' b') = true := by
  obtain ⟨ob, nb, ob', nb'⟩ := hb.ok
  obtain ⟨oa, na, oa', na'⟩ := ha.ok
  have ka := ha
  have kb := hb
  unfold Wi at ka kb
  by_cases s : a.1 = a.2 ∧ b.1 = b.2 ∧ ¬ b.1 = 0
  · have e : divR a b = (a.1.tmod b.1, a.1.tmod b.1) := by unfold divR; rw [if_pos s]
    have m := divR_bd (u := a.1) (v := b.1) oa' na' ob' nb' (by omega) (by omega) s.2.2
    rw [e]
    have m' := (rHas_iff _ _).1 m
    exact rIn_ends (one_ok (has_okB m)) (rHas_ok m) (by simp only; omega) (by simp only; omega)
  · have kd := divR_ok oa na ob nb
    have kd' := divR_ok oa' na' ob' nb'
    unfold divR at kd kd' ⊢
    rw [if_neg s] at kd ⊢
    rw [neg8_eq ob nb, pos8_eq ob nb] at kd ⊢
    rw [neg8_eq ob' nb', pos8_eq ob' nb'] at kd' ⊢
    by_cases s' : a'.1 = a'.2 ∧ b'.1 = b'.2 ∧ ¬ b'.1 = 0
    · exact absurd ⟨by omega, by omega, by omega⟩ s
    · rw [if_neg s'] at kd' ⊢
      by_cases n : b.1 ≤ -1
      · have n' : b'.1 ≤ -1 := by omega
        have x1 : ¬ isN ((b.1, min b.2 (-1)) : R8) = true := by rw [isN_iff]; simp only; omega
        have x2 : ¬ isN ((b'.1, min b'.2 (-1)) : R8) = true := by rw [isN_iff]; simp only; omega
        have m1 := rem8_mono (l := -(min b.2 (-1))) (h := -b.1) (l' := -(min b'.2 (-1))) (h' := -b'.1) ha (by omega) (by omega) (by omega) (by omega)
        have o1 := rem8_ok (a := a) (l := -(min b.2 (-1))) (h := -b.1) (by omega) (by omega) (by omega)
        have o1' := rem8_ok (a := a') (l := -(min b'.2 (-1))) (h := -b'.1) (by omega) (by omega) (by omega)
        rw [if_pos n, if_neg x1] at kd ⊢
        rw [if_pos n', if_neg x2] at kd' ⊢
        by_cases p : 1 ≤ b.2
        · have p' : 1 ≤ b'.2 := by omega
          have x3 : ¬ isN ((max b.1 1, b.2) : R8) = true := by rw [isN_iff]; simp only; omega
          have x4 : ¬ isN ((max b'.1 1, b'.2) : R8) = true := by rw [isN_iff]; simp only; omega
          have m2 := rem8_mono (l := max b.1 1) (h := b.2) (l' := max b'.1 1) (h' := b'.2) ha (by omega) (by omega) (by omega) (by omega)
          have o2 := rem8_ok (a := a) (l := max b.1 1) (h := b.2) (by omega) (by omega) (by omega)
          have o2' := rem8_ok (a := a') (l := max b'.1 1) (h := b'.2) (by omega) (by omega) (by omega)
          rw [if_pos p, if_neg x3] at kd ⊢
          rw [if_pos p', if_neg x4] at kd' ⊢
          refine rIn_ends kd kd' ?_ ?_
          · rw [join8_eq o1.2.2 o2.2.2 (some_ok o1) (some_ok o2), join8_eq o1'.2.2 o2'.2.2 (some_ok o1') (some_ok o2')]
            simp only; omega
          · rw [join8_eq o1.2.2 o2.2.2 (some_ok o1) (some_ok o2), join8_eq o1'.2.2 o2'.2.2 (some_ok o1') (some_ok o2')]
            simp only; omega
        · rw [if_neg p, if_pos isN_none] at kd ⊢
          by_cases p' : 1 ≤ b'.2
          · have x4 : ¬ isN ((max b'.1 1, b'.2) : R8) = true := by rw [isN_iff]; simp only; omega
            have o2' := rem8_ok (a := a') (l := max b'.1 1) (h := b'.2) (by omega) (by omega) (by omega)
            rw [if_pos p', if_neg x4] at kd' ⊢
            refine rIn_ends kd kd' ?_ ?_
            · (try simp only)
              rw [join8_eq o1'.2.2 o2'.2.2 (some_ok o1') (some_ok o2')]
              omega
            · (try simp only)
              rw [join8_eq o1'.2.2 o2'.2.2 (some_ok o1') (some_ok o2')]
              omega
          · rw [if_neg p', if_pos isN_none] at kd' ⊢
            exact rIn_ends kd kd' m1.1 m1.2
      · rw [if_neg n, if_pos isN_none] at kd ⊢
        by_cases p : 1 ≤ b.2
        · have p' : 1 ≤ b'.2 := by omega
          have x3 : ¬ isN ((max b.1 1, b.2) : R8) = true := by rw [isN_iff]; simp only; omega
          have x4 : ¬ isN ((max b'.1 1, b'.2) : R8) = true := by rw [isN_iff]; simp only; omega
          have m2 := rem8_mono (l := max b.1 1) (h := b.2) (l' := max b'.1 1) (h' := b'.2) ha (by omega) (by omega) (by omega) (by omega)
          have o2 := rem8_ok (a := a) (l := max b.1 1) (h := b.2) (by omega) (by omega) (by omega)
          have o2' := rem8_ok (a := a') (l := max b'.1 1) (h := b'.2) (by omega) (by omega) (by omega)
          rw [if_pos p, if_neg x3] at kd ⊢
          rw [if_pos p', if_neg x4] at kd' ⊢
          by_cases n' : b'.1 ≤ -1
          · have x2 : ¬ isN ((b'.1, min b'.2 (-1)) : R8) = true := by rw [isN_iff]; simp only; omega
            have o1' := rem8_ok (a := a') (l := -(min b'.2 (-1))) (h := -b'.1) (by omega) (by omega) (by omega)
            rw [if_pos n', if_neg x2, if_neg x4] at kd' ⊢
            refine rIn_ends kd kd' ?_ ?_
            · (try simp only)
              rw [join8_eq o1'.2.2 o2'.2.2 (some_ok o1') (some_ok o2')]
              omega
            · (try simp only)
              rw [join8_eq o1'.2.2 o2'.2.2 (some_ok o1') (some_ok o2')]
              omega
          · rw [if_neg n', if_pos isN_none] at kd' ⊢
            exact rIn_ends kd kd' m2.1 m2.2
        · rw [if_neg p, if_pos isN_none] at kd ⊢
          exact rIn_none kd'
theorem bits8_mono {op : Int} {a b a' b' : R8} (hop : op = 6 ∨ op = 7 ∨ op = 8) (ha : Wi a a') (hb : Wi b b') : rIn (bits8 op a b) (bits8 op a' b') = true := by
  obtain ⟨ob, nb, ob', nb'⟩ := hb.ok
  obtain ⟨oa, na, oa', na'⟩ := ha.ok
  have kd := bits8_ok hop oa na ob nb
  have kd' := bits8_ok hop oa' na' ob' nb'
  unfold Wi at ha hb
  by_cases s : a.1 = a.2 ∧ b.1 = b.2
  · have e : bits8 op a b = (exactV op a.1 b.1, exactV op a.1 b.1) := by unfold bits8; rw [if_pos s]
    have m := bits8_has (a := a') (b := b') (u := a.1) (v := b.1) hop (by omega) (by omega) (by omega) (by omega)
    refine rIn_ends kd kd' ?_ ?_
    · rw [e]; exact m.1
    · rw [e]; exact m.2.1
  · have s' : ¬ (a'.1 = a'.2 ∧ b'.1 = b'.2) := by omega
    have mm := mask8_mono (v := max a.2 b.2) (v' := max a'.2 b'.2) (by omega) (by omega)
    have mb := mask8_bd (max a.2 b.2) (by omega)
    have mb' := mask8_bd (max a'.2 b'.2) (by omega)
    have g1 : (bits8 op a' b').1 ≤ (bits8 op a b).1 ∧ (bits8 op a b).2 ≤ (bits8 op a' b').2 := by
      unfold bits8
      rw [if_neg s, if_neg s']
      generalize mask8 (max a.2 b.2) = M at *
      generalize mask8 (max a'.2 b'.2) = M' at *
      clear kd kd'
      rcases hop with rfl | rfl | rfl
      · by_cases p : 0 ≤ a'.1
        · by_cases q : 0 ≤ b'.1
          · rw [if_pos (by omega), if_pos (by omega)]; first | omega | (simp only; omega)
          · rw [if_neg (c := 6 = 6 ∧ 0 ≤ a'.1 ∧ 0 ≤ b'.1) (by omega), if_pos (c := 6 = 6 ∧ 0 ≤ a'.1) (by omega)]
            by_cases q2 : 0 ≤ b.1
            · rw [if_pos (by omega)]; first | omega | (simp only; omega)
            · rw [if_neg (by omega), if_pos (by omega)]; first | omega | (simp only; omega)
        · rw [if_neg (c := 6 = 6 ∧ 0 ≤ a'.1 ∧ 0 ≤ b'.1) (by omega), if_neg (c := 6 = 6 ∧ 0 ≤ a'.1) (by omega)]
          by_cases q : 0 ≤ b'.1
          · rw [if_pos (c := 6 = 6 ∧ 0 ≤ b'.1) (by omega)]
            by_cases q2 : 0 ≤ a.1
            · rw [if_pos (by omega)]; first | omega | (simp only; omega)
            · rw [if_neg (by omega), if_neg (by omega), if_pos (by omega)]; first | omega | (simp only; omega)
          · rw [if_neg (c := 6 = 6 ∧ 0 ≤ b'.1) (by omega), if_neg (c := (6 : Int) = 7 ∧ 0 ≤ a'.1 ∧ 0 ≤ b'.1) (by omega), if_neg (c := (6 : Int) = 8 ∧ 0 ≤ a'.1 ∧ 0 ≤ b'.1) (by omega)]
            (repeat' split) <;> first | omega | (simp only; omega)
      · rw [if_neg (c := (7 : Int) = 6 ∧ 0 ≤ a'.1 ∧ 0 ≤ b'.1) (by omega), if_neg (c := (7 : Int) = 6 ∧ 0 ≤ a'.1) (by omega), if_neg (c := (7 : Int) = 6 ∧ 0 ≤ b'.1) (by omega)]
        by_cases p : 0 ≤ a'.1 ∧ 0 ≤ b'.1
        · rw [if_pos (c := (7 : Int) = 7 ∧ 0 ≤ a'.1 ∧ 0 ≤ b'.1) (by omega), if_neg (by omega), if_neg (by omega), if_neg (by omega), if_pos (by omega)]
          first | omega | (simp only; omega)
        · rw [if_neg (c := (7 : Int) = 7 ∧ 0 ≤ a'.1 ∧ 0 ≤ b'.1) (by omega), if_neg (c := (7 : Int) = 8 ∧ 0 ≤ a'.1 ∧ 0 ≤ b'.1) (by omega)]
          (repeat' split) <;> first | omega | (simp only; omega)
      · rw [if_neg (c := (8 : Int) = 6 ∧ 0 ≤ a'.1 ∧ 0 ≤ b'.1) (by omega), if_neg (c := (8 : Int) = 6 ∧ 0 ≤ a'.1) (by omega), if_neg (c := (8 : Int) = 6 ∧ 0 ≤ b'.1) (by omega), if_neg (c := (8 : Int) = 7 ∧ 0 ≤ a'.1 ∧ 0 ≤ b'.1) (by omega)]
        by_cases p : 0 ≤ a'.1 ∧ 0 ≤ b'.1
        · rw [if_pos (c := (8 : Int) = 8 ∧ 0 ≤ a'.1 ∧ 0 ≤ b'.1) (by omega), if_neg (by omega), if_neg (by omega), if_neg (by omega), if_neg (by omega), if_pos (by omega)]
          first | omega | (simp only; omega)
        · rw [if_neg (c := (8 : Int) = 8 ∧ 0 ≤ a'.1 ∧ 0 ≤ b'.1) (by omega)]
          (repeat' split) <;> first | omega | (simp only; omega)
    exact rIn_ends kd kd' g1.1 g1.2
theorem wrapped8_mono {lo hi lo' hi' : Int} (h : lo ≤ hi) (h1 : lo' ≤ lo) (h2 : hi ≤ hi') : rIn (wrapped8 lo hi) (wrapped8 lo' hi') = true := by
  have a1 := w32_lo lo
  have a2 := w32_hi hi
  refine rIn_ends (wrapped8_ok _ _) (wrapped8_ok _ _) ?_ ?_
  · unfold wrapped8
    split
    · split
      · simp only; omega
      · simp only; unfold wrap32 at *; omega
    · split
      · simp only; unfold wrap32 at *; omega
      · simp only; unfold wrap32 at *; omega
  · unfold wrapped8
    split
    · split
      · simp only; omega
      · simp only; unfold wrap32 at *; omega
    · split
      · simp only; unfold wrap32 at *; omega
      · simp only; unfold wrap32 at *; omega
theorem cLo_le_cHi (op : Int) (a b : R8) : cLo op a b ≤ cHi op a b := by unfold cLo cHi; omega
/-- Knowing less never tells less. -/
theorem rangeDo_more {op : Int} {a b a' b' : R8} (hi : rIn a a' = true) (hj : rIn b b' = true) :
    rIn (rangeDo op a b).1 (rangeDo op a' b').1 = true ∧ ∀ f, f ∈ (rangeDo op a b).2 → f ∈ (rangeDo op a' b').2 := by
  refine ⟨?_, fun f hf => ?_⟩
  · by_cases hout : inB op 1 13 = false ∨ rOk a = false ∨ rOk b = false ∨ isN a = true ∨ isN b = true
    · rw [rangeDo_out hout]
      exact rIn_none (rangeDo_ok _ _ _)
    · simp only [not_or, Bool.not_eq_false] at hout
      obtain ⟨ho, ha, hb, na, nb⟩ := hout
      have ka := ok_some ha na
      have kb := ok_some hb nb
      have wa : Wi a a' := by
        rw [rIn_iff, rOk_iff, rOk_iff] at hi
        rw [isN_iff] at na
        unfold Wi
        omega
      have wb : Wi b b' := by
        rw [rIn_iff, rOk_iff, rOk_iff] at hj
        rw [isN_iff] at nb
        unfold Wi
        omega
      obtain ⟨-, -, ha', na'⟩ := wa.ok
      obtain ⟨-, -, hb', nb'⟩ := wb.ok
      have hop := (inB_iff _ _ _).1 ho
      rw [rangeDo_eq ho ha na hb nb, rangeDo_eq ho ha' na' hb' nb']
      by_cases h4 : op = 4
      · rw [if_pos h4, if_pos h4]; exact divQ_mono wa wb
      · rw [if_neg h4, if_neg h4]
        by_cases h5 : op = 5
        · rw [if_pos h5, if_pos h5]; exact divR_mono wa wb
        · rw [if_neg h5, if_neg h5]
          by_cases h6 : 6 ≤ op ∧ op ≤ 8
          · rw [if_pos h6, if_pos h6]; exact bits8_mono (by omega) wa wb
          · rw [if_neg h6, if_neg h6]
            have wa2 := wa
            have wb2 := wb
            unfold Wi at wa2 wb2
            by_cases h11 : 11 ≤ op
            · rw [if_pos h11, if_pos h11]
              have m := corners_mono (op := op) (a := a) (b := b) (a' := a') (b' := b') (by omega) (by omega) (by omega) (fun h => by omega)
              exact wrapped8_mono (cLo_le_cHi _ _ _) m.1 m.2
            · rw [if_neg h11, if_neg h11]
              by_cases hs : op = 9 ∨ op = 10
              · have e8 : by8 op b = sh8 b := by unfold by8; rw [if_pos hs]
                have e8' : by8 op b' = sh8 b' := by unfold by8; rw [if_pos hs]
                rw [e8, e8', sh8_eq hb nb, sh8_eq hb' nb']
                by_cases hc : b.1 ≤ 31 ∧ 0 ≤ b.2
                · have hc' : b'.1 ≤ 31 ∧ 0 ≤ b'.2 := by omega
                  rw [if_pos hc, if_pos hc', if_neg (by rw [isN_iff]; simp only; omega), if_neg (by rw [isN_iff]; simp only; omega)]
                  have m := corners_mono (op := op) (a := a) (b := (max b.1 0, min b.2 31)) (a' := a') (b' := (max b'.1 0, min b'.2 31)) (by omega) (by omega) (by simp only; omega) (fun h => by simp only; omega)
                  exact cut8_mono m.1 m.2
                · rw [if_neg hc, if_pos isN_none]
                  refine rIn_none ?_
                  by_cases hc' : b'.1 ≤ 31 ∧ 0 ≤ b'.2
                  · rw [if_pos hc', if_neg (by rw [isN_iff]; simp only; omega)]
                    exact cut8_ok _ _
                  · rw [if_neg hc', if_pos isN_none]
                    exact rOk_none
              · have e8 : by8 op b = b := by unfold by8; rw [if_neg hs]
                have e8' : by8 op b' = b' := by unfold by8; rw [if_neg hs]
                rw [e8, e8', if_neg nb, if_neg nb']
                have m := corners_mono (op := op) (a := a) (b := b) (a' := a') (b' := b') (by omega) (by omega) (by omega) (fun h => by omega)
                exact cut8_mono m.1 m.2
  · obtain ⟨x, y, -, -, hx, hy, e, f0⟩ := rangeDo_fault hf
    have ho : inB op 1 13 = true := by
      cases h : inB op 1 13
      · rw [rangeDo_out (.inl h)] at hf; simp at hf
      · rfl
    have := (rangeDo_has ho (rIn_has hi hx) (rIn_has hj hy)).2
    rw [e] at this
    exact this f0

/-! ### Widening comes to rest -/
def below8 (s : List Int) (x : Int) : Nat := s.countP (fun t => decide (t < x))
def above8 (s : List Int) (x : Int) : Nat := s.countP (fun t => decide (x < t))
theorem below8_le (s : List Int) (x : Int) : below8 s x ≤ s.length := List.countP_le_length
theorem above8_le (s : List Int) (x : Int) : above8 s x ≤ s.length := List.countP_le_length
theorem below8_mono (s : List Int) {x y : Int} (h : x ≤ y) : below8 s x ≤ below8 s y := List.countP_mono_left (fun t _ ht => by simp at *; omega)
theorem above8_mono (s : List Int) {x y : Int} (h : x ≤ y) : above8 s y ≤ above8 s x := List.countP_mono_left (fun t _ ht => by simp at *; omega)
theorem below8_lt {s : List Int} {x y : Int} (h : x < y) (hm : x ∈ s) : below8 s x + 1 ≤ below8 s y := by
  induction s with
  | nil => simp at hm
  | cons t s ih =>
    have e1 : below8 (t :: s) x = below8 s x + if t < x then 1 else 0 := by unfold below8; rw [List.countP_cons]; simp
    have e2 : below8 (t :: s) y = below8 s y + if t < y then 1 else 0 := by unfold below8; rw [List.countP_cons]; simp
    have m := below8_mono s (show x ≤ y by omega)
    rcases List.mem_cons.1 hm with rfl | hm
    · rw [e1, e2, if_neg (by omega), if_pos h]; omega
    · have := ih hm
      rw [e1, e2]
      split <;> split <;> omega
theorem above8_lt {s : List Int} {x y : Int} (h : x < y) (hm : y ∈ s) : above8 s y + 1 ≤ above8 s x := by
  induction s with
  | nil => simp at hm
  | cons t s ih =>
    have e1 : above8 (t :: s) x = above8 s x + if x < t then 1 else 0 := by unfold above8; rw [List.countP_cons]; simp
    have e2 : above8 (t :: s) y = above8 s y + if y < t then 1 else 0 := by unfold above8; rw [List.countP_cons]; simp
    have m := above8_mono s (show x ≤ y by omega)
    rcases List.mem_cons.1 hm with rfl | hm
    · rw [e1, e2, if_pos h, if_neg (by omega)]; omega
    · have := ih hm
      rw [e1, e2]
      split <;> split <;> omega
/-- How often a range may still change. -/
def pot8 (s : List Int) (a : R8) : Nat :=
  if isN a = true then 2 * s.length + 3
  else (below8 s a.1 + if -2147483648 < a.1 then 1 else 0) + (above8 s a.2 + if a.2 < 2147483647 then 1 else 0)
theorem pot8_le (s : List Int) (a : R8) : pot8 s a ≤ 2 * s.length + 3 := by
  unfold pot8
  have := below8_le s a.1
  have := above8_le s a.2
  split
  · omega
  · split <;> split <;> omega
theorem pot8_some (s : List Int) (a : R8) (h : ¬ isN a = true) : pot8 s a ≤ 2 * s.length + 2 := by
  unfold pot8
  have := below8_le s a.1
  have := above8_le s a.2
  rw [if_neg h]
  split <;> split <;> omega
theorem widen8_rest {s : List Int} {a : R8} {v : Int} (ha : rOk a = true) (hv : okB v = true) :
    rOk (widen8 a (v, v) s) = true ∧ rIn a (widen8 a (v, v) s) = true ∧ (widen8 a (v, v) s = a ∨ pot8 s (widen8 a (v, v) s) + 1 ≤ pot8 s a) := by
  have hb := one_ok hv
  have nb := one_not v
  have w := widen8_ok a (v, v) s
  refine ⟨w.1, rIn_trans (join8_in_l ha hb) (w.2 ha hb), ?_⟩
  by_cases na : isN a = true
  · have e : widen8 a (v, v) s = (v, v) := by
      rw [widen8_join s (.inl na)]
      unfold join8
      rw [if_neg (by simp [ha, hb]), if_pos na]
    have := pot8_some s (v, v) nb
    rw [e]
    refine .inr ?_
    have e2 : pot8 s a = 2 * s.length + 3 := by unfold pot8; rw [if_pos na]
    omega
  · have ka := ok_some ha na
    have kv := (okB_iff _).1 hv
    have d := down8_bd s v kv.1
    have u := up8_bd s v kv.2
    rw [widen8_eq s ha hb na nb]
    simp only
    by_cases c1 : v < a.1
    · have c2 : ¬ a.2 < v := by omega
      rw [if_pos c1, if_neg c2]
      refine .inr ?_
      unfold pot8
      rw [if_neg (by rw [isN_iff]; simp only; omega), if_neg na]
      simp only
      rcases d.2.2 with h | h
      · have := below8_mono s (show down8 s v ≤ a.1 by omega)
        rw [if_neg (c := -2147483648 < down8 s v) (by omega), if_pos (c := -2147483648 < a.1) (by omega)]
        omega
      · have := below8_lt (show down8 s v < a.1 by omega) h
        rw [if_pos (c := -2147483648 < a.1) (by omega)]
        split <;> omega
    · by_cases c2 : a.2 < v
      · rw [if_neg c1, if_pos c2]
        refine .inr ?_
        unfold pot8
        rw [if_neg (by rw [isN_iff]; simp only; omega), if_neg na]
        simp only
        rcases u.2.2 with h | h
        · have := above8_mono s (show a.2 ≤ up8 s v by omega)
          rw [if_neg (c := up8 s v < 2147483647) (by omega), if_pos (c := a.2 < 2147483647) (by omega)]
          omega
        · have := above8_lt (show a.2 < up8 s v by omega) h
          rw [if_pos (c := a.2 < 2147483647) (by omega)]
          have e : (if up8 s v < 2147483647 then 1 else 0) ≤ 1 := by split <;> omega
          omega
      · rw [if_neg c1, if_neg c2]
        exact .inl rfl

/-! ### What a comparison leaves -/
def ne8 (a b : R8) : R8 := if ¬ b.1 = b.2 then a else if a.1 = b.1 then cut8 (a.1 + 1) a.2 else if a.2 = b.1 then cut8 a.1 (a.2 - 1) else a
def lt8 (a b : R8) : R8 × R8 := (cut8 a.1 (min a.2 (b.2 - 1)), cut8 (max b.1 (a.1 + 1)) b.2)
def le8 (a b : R8) : R8 × R8 := (cut8 a.1 (min a.2 b.2), cut8 (max b.1 a.1) b.2)
def raw8 (c : Int) (a b : R8) : R8 × R8 :=
  if c = 1 then (meet8 a b, meet8 a b) else if c = 2 then (ne8 a b, ne8 b a) else if c = 3 then lt8 a b else if c = 4 then le8 a b
  else if c = 5 then ((lt8 b a).2, (lt8 b a).1) else if c = 6 then ((le8 b a).2, (le8 b a).1) else (none8, none8)
/-- What RangeCmp leaves of two ranges. -/
def rangeCmp (c : Int) (a b : R8) : R8 × R8 :=
  if rOk a = false ∨ rOk b = false ∨ isN a = true ∨ isN b = true then (none8, none8)
  else if isN (raw8 c a b).1 = true ∨ isN (raw8 c a b).2 = true then (none8, none8) else raw8 c a b
def cmpP (c a b : Int) : Prop := (c = 1 ∧ a = b) ∨ (c = 2 ∧ a ≠ b) ∨ (c = 3 ∧ a < b) ∨ (c = 4 ∧ a ≤ b) ∨ (c = 5 ∧ b < a) ∨ (c = 6 ∧ b ≤ a)
theorem cut8_in {lo hi : Int} {a : R8} (ha : rOk a = true) (h1 : a.1 ≤ lo) (h2 : hi ≤ a.2) : rIn (cut8 lo hi) a = true := by
  by_cases n : isN a = true
  · have e := isN_eq n
    subst e
    have : cut8 lo hi = none8 := cut8_none (by simp only [none8] at *; omega)
    rw [this]
    exact rIn_none rOk_none
  · have k := ok_some ha n
    exact rIn_of_has (cut8_ok _ _) ha (fun v h => by rw [cut8_has] at h; rw [rHas_iff]; omega)
theorem rIn_refl {a : R8} (ha : rOk a = true) : rIn a a = true := rIn_ends ha ha (Int.le_refl _) (Int.le_refl _)
theorem ne8_in {a b : R8} (ha : rOk a = true) : rIn (ne8 a b) a = true := by
  unfold ne8
  split
  · exact rIn_refl ha
  · split
    · exact cut8_in ha (by omega) (Int.le_refl _)
    · split
      · exact cut8_in ha (Int.le_refl _) (by omega)
      · exact rIn_refl ha
theorem raw8_in {c : Int} {a b : R8} (ha : rOk a = true) (hb : rOk b = true) : rIn (raw8 c a b).1 a = true ∧ rIn (raw8 c a b).2 b = true := by
  unfold raw8 lt8 le8
  split
  · exact ⟨meet8_in_l ha hb, meet8_in_r ha hb⟩
  · split
    · exact ⟨ne8_in ha, ne8_in hb⟩
    · split
      · exact ⟨cut8_in ha (by omega) (by omega), cut8_in hb (by omega) (by omega)⟩
      · split
        · exact ⟨cut8_in ha (by omega) (by omega), cut8_in hb (by omega) (by omega)⟩
        · split
          · exact ⟨cut8_in ha (by omega) (by omega), cut8_in hb (by omega) (by omega)⟩
          · split
            · exact ⟨cut8_in ha (by omega) (by omega), cut8_in hb (by omega) (by omega)⟩
            · exact ⟨rIn_none ha, rIn_none hb⟩
theorem rangeCmp_in {c : Int} {a b : R8} (ha : rOk a = true) (hb : rOk b = true) : rIn (rangeCmp c a b).1 a = true ∧ rIn (rangeCmp c a b).2 b = true ∧ (isN (rangeCmp c a b).1 = isN (rangeCmp c a b).2) := by
  unfold rangeCmp
  split
  · exact ⟨rIn_none ha, rIn_none hb, rfl⟩
  · split
    · exact ⟨rIn_none ha, rIn_none hb, rfl⟩
    · rename_i h
      simp only [not_or] at h
      refine ⟨(raw8_in ha hb).1, (raw8_in ha hb).2, ?_⟩
      have h1 := h.1
      have h2 := h.2
      simp only [Bool.not_eq_true] at h1 h2
      rw [h1, h2]
theorem ne8_has {a b : R8} {p q : Int} (hp : rHas a p = true) (hq : rHas b q = true) (h : ¬ p = q) : rHas (ne8 a b) p = true := by
  rw [rHas_iff] at hp hq
  unfold ne8
  split
  · rw [rHas_iff]; omega
  · split
    · rw [cut8_has]; omega
    · split
      · rw [cut8_has]; omega
      · rw [rHas_iff]; omega
theorem raw8_has {c : Int} {a b : R8} {p q : Int} (hp : rHas a p = true) (hq : rHas b q = true) (h : cmpP c p q) : rHas (raw8 c a b).1 p = true ∧ rHas (raw8 c a b).2 q = true := by
  have oa := rHas_ok hp
  have ob := rHas_ok hq
  have kp := (rHas_iff _ _).1 hp
  have kq := (rHas_iff _ _).1 hq
  unfold raw8 lt8 le8
  rcases h with ⟨rfl, e⟩ | ⟨rfl, e⟩ | ⟨rfl, e⟩ | ⟨rfl, e⟩ | ⟨rfl, e⟩ | ⟨rfl, e⟩
  · subst e
    rw [if_pos rfl]
    simp only
    rw [meet8_has oa ob, hp, hq]
    exact ⟨rfl, rfl⟩
  · rw [if_neg (by omega), if_pos rfl]
    exact ⟨ne8_has hp hq e, ne8_has hq hp (fun h => e h.symm)⟩
  · rw [if_neg (by omega), if_neg (by omega), if_pos rfl]
    simp only
    rw [cut8_has, cut8_has]; omega
  · rw [if_neg (by omega), if_neg (by omega), if_neg (by omega), if_pos rfl]
    simp only
    rw [cut8_has, cut8_has]; omega
  · rw [if_neg (by omega), if_neg (by omega), if_neg (by omega), if_neg (by omega), if_pos rfl]
    simp only
    rw [cut8_has, cut8_has]; omega
  · rw [if_neg (by omega), if_neg (by omega), if_neg (by omega), if_neg (by omega), if_neg (by omega), if_pos rfl]
    simp only
    rw [cut8_has, cut8_has]; omega
theorem rangeCmp_has {c : Int} {a b : R8} {p q : Int} (hp : rHas a p = true) (hq : rHas b q = true) (h : cmpP c p q) : rHas (rangeCmp c a b).1 p = true ∧ rHas (rangeCmp c a b).2 q = true := by
  have oa := rHas_ok hp
  have ob := rHas_ok hq
  have kp := (rHas_iff _ _).1 hp
  have kq := (rHas_iff _ _).1 hq
  have r := raw8_has hp hq h
  have r1 := (rHas_iff _ _).1 r.1
  have r2 := (rHas_iff _ _).1 r.2
  unfold rangeCmp
  rw [if_neg (by simp only [oa, ob, isN_iff, Bool.true_eq_false, false_or]; omega), if_neg (by simp only [isN_iff]; omega)]
  exact r
end Go.Proofs.YthbbgkpkijlclaaDoor.num
