/-
  What an operator makes of two ranges, in plain terms; where the numbers lie that it makes of theirs.
-/
import Derived.Test.YthbbgkpkijlclaaDoorQa
namespace Go.Proofs.YthbbgkpkijlclaaDoor.num
open Go.RowKit
set_option linter.unusedVariables false

def cLo (op : Int) (a b : R8) : Int := min (min (exactV op a.1 b.1) (exactV op a.1 b.2)) (min (exactV op a.2 b.1) (exactV op a.2 b.2))
def cHi (op : Int) (a b : R8) : Int := max (max (exactV op a.1 b.1) (exactV op a.1 b.2)) (max (exactV op a.2 b.1) (exactV op a.2 b.2))
def wrapped8 (lo hi : Int) : R8 := if 4294967295 < hi - lo ∨ wrap32 hi < wrap32 lo then (-2147483648, 2147483647) else (wrap32 lo, wrap32 hi)
def rem8 (a : R8) (lo hi : Int) : R8 :=
  if -lo < a.1 ∧ a.2 < lo then a else (if a.1 < 0 then max a.1 (1 - hi) else 0, if 0 < a.2 then min a.2 (hi - 1) else 0)
def maskF : Nat → Int → Int → Int
  | 0, m, _ => m
  | n + 1, m, v => if m < v then maskF n (2 * m + 1) v else m
/-- The least number of ones, in bits, that is at least v. -/
def mask8 (v : Int) : Int := maskF 32 0 v
def bits8 (op : Int) (a b : R8) : R8 :=
  if a.1 = a.2 ∧ b.1 = b.2 then (exactV op a.1 b.1, exactV op a.1 b.1)
  else if op = 6 ∧ 0 ≤ a.1 ∧ 0 ≤ b.1 then (0, min a.2 b.2)
  else if op = 6 ∧ 0 ≤ a.1 then (0, a.2)
  else if op = 6 ∧ 0 ≤ b.1 then (0, b.2)
  else if op = 7 ∧ 0 ≤ a.1 ∧ 0 ≤ b.1 then (max a.1 b.1, mask8 (max a.2 b.2))
  else if op = 8 ∧ 0 ≤ a.1 ∧ 0 ≤ b.1 then (0, mask8 (max a.2 b.2))
  else (-2147483648, 2147483647)
def neg8 (b : R8) : R8 := meet8 b (-2147483648, -1)
def pos8 (b : R8) : R8 := meet8 b (1, 2147483647)
def sh8 (b : R8) : R8 := meet8 b (0, 31)
def divF (op : Int) (a b : R8) : List Int :=
  (if op = 4 ∧ a.1 = -2147483648 ∧ rHas b (-1) = true then [1] else []) ++ (if rHas b 0 = true then [2] else [])
def divQ (a b : R8) : R8 :=
  if isN (neg8 b) = true then (if isN (pos8 b) = true then none8 else cut8 (cLo 4 a (pos8 b)) (cHi 4 a (pos8 b)))
  else if isN (pos8 b) = true then cut8 (cLo 4 a (neg8 b)) (cHi 4 a (neg8 b))
  else cut8 (min (cLo 4 a (neg8 b)) (cLo 4 a (pos8 b))) (max (cHi 4 a (neg8 b)) (cHi 4 a (pos8 b)))
def divR (a b : R8) : R8 :=
  if a.1 = a.2 ∧ b.1 = b.2 ∧ ¬ b.1 = 0 then (a.1.tmod b.1, a.1.tmod b.1)
  else if isN (neg8 b) = true then (if isN (pos8 b) = true then none8 else rem8 a (pos8 b).1 (pos8 b).2)
  else if isN (pos8 b) = true then rem8 a (-(neg8 b).2) (-(neg8 b).1)
  else join8 (rem8 a (-(neg8 b).2) (-(neg8 b).1)) (rem8 a (pos8 b).1 (pos8 b).2)
/-- What a shift is by: what of b lies from 0 to 31. -/
def by8 (op : Int) (b : R8) : R8 := if op = 9 ∨ op = 10 then sh8 b else b
def overF (op : Int) (a c : R8) : List Int := if cLo op a c < -2147483648 ∨ 2147483647 < cHi op a c then [1] else []
def shiftF (b c : R8) : List Int := if c = b then [] else [3]
/-- What RangeDo tells: the range and the faults. -/
def rangeDo (op : Int) (a b : R8) : R8 × List Int :=
  if inB op 1 13 = false ∨ rOk a = false ∨ rOk b = false ∨ isN a = true ∨ isN b = true then (none8, [])
  else if op = 4 then (divQ a b, divF op a b)
  else if op = 5 then (divR a b, divF op a b)
  else if 6 ≤ op ∧ op ≤ 8 then (bits8 op a b, [])
  else if 11 ≤ op then (wrapped8 (cLo op a b) (cHi op a b), [])
  else if isN (by8 op b) = true then (none8, shiftF b (by8 op b))
  else (cut8 (cLo op a (by8 op b)) (cHi op a (by8 op b)), overF op a (by8 op b) ++ shiftF b (by8 op b))

/-! ### Corners -/
theorem corner_btw {f : Int → Int → Int} {a1 a2 b1 b2 u v : Int} (hu : min (f a1 v) (f a2 v) ≤ f u v ∧ f u v ≤ max (f a1 v) (f a2 v))
    (h1 : min (f a1 b1) (f a1 b2) ≤ f a1 v ∧ f a1 v ≤ max (f a1 b1) (f a1 b2)) (h2 : min (f a2 b1) (f a2 b2) ≤ f a2 v ∧ f a2 v ≤ max (f a2 b1) (f a2 b2)) :
    min (min (f a1 b1) (f a1 b2)) (min (f a2 b1) (f a2 b2)) ≤ f u v ∧ f u v ≤ max (max (f a1 b1) (f a1 b2)) (max (f a2 b1) (f a2 b2)) := by
  generalize f a1 v = p1 at *
  generalize f a2 v = p2 at *
  generalize f u v = p at *
  generalize f a1 b1 = q1 at *
  generalize f a1 b2 = q2 at *
  generalize f a2 b1 = q3 at *
  generalize f a2 b2 = q4 at *
  omega
theorem mul_btw_l {x y u : Int} (v : Int) (h1 : x ≤ u) (h2 : u ≤ y) : min (x * v) (y * v) ≤ u * v ∧ u * v ≤ max (x * v) (y * v) := by
  rcases Int.le_total 0 v with h | h
  · have k1 := Int.mul_le_mul_of_nonneg_right h1 h
    have k2 := Int.mul_le_mul_of_nonneg_right h2 h
    omega
  · have k1 := Int.mul_le_mul_of_nonpos_right h1 h
    have k2 := Int.mul_le_mul_of_nonpos_right h2 h
    omega
theorem mul_btw_r {x y v : Int} (u : Int) (h1 : x ≤ v) (h2 : v ≤ y) : min (u * x) (u * y) ≤ u * v ∧ u * v ≤ max (u * x) (u * y) := by
  rw [Int.mul_comm u x, Int.mul_comm u y, Int.mul_comm u v]
  exact mul_btw_l u h1 h2
theorem tdiv_btw_l {x y u v : Int} (hv : v ≠ 0) (h1 : x ≤ u) (h2 : u ≤ y) : min (x.tdiv v) (y.tdiv v) ≤ u.tdiv v ∧ u.tdiv v ≤ max (x.tdiv v) (y.tdiv v) := by
  by_cases h : 0 < v
  · have k1 := Int.tdiv_le_tdiv h h1
    have k2 := Int.tdiv_le_tdiv h h2
    omega
  · have h' : 0 < -v := by omega
    have k1 := Int.tdiv_le_tdiv h' h1
    have k2 := Int.tdiv_le_tdiv h' h2
    rw [Int.tdiv_neg, Int.tdiv_neg] at k1 k2
    omega
theorem tdiv_anti {u x v : Int} (hu : 0 ≤ u) (hx : 0 < x) (h : x ≤ v) : u.tdiv v ≤ u.tdiv x := by
  obtain ⟨U, rfl⟩ := Int.eq_ofNat_of_zero_le hu
  obtain ⟨X, rfl⟩ := Int.eq_ofNat_of_zero_le (show 0 ≤ x by omega)
  obtain ⟨V, rfl⟩ := Int.eq_ofNat_of_zero_le (show 0 ≤ v by omega)
  have := Nat.div_le_div_left (show X ≤ V by omega) (show 0 < X by omega) (a := U)
  rw [← Int.ofNat_tdiv, ← Int.ofNat_tdiv]
  exact_mod_cast this
theorem tdiv_btw_pos {x y v : Int} (u : Int) (hx : 0 < x) (h1 : x ≤ v) (h2 : v ≤ y) : min (u.tdiv x) (u.tdiv y) ≤ u.tdiv v ∧ u.tdiv v ≤ max (u.tdiv x) (u.tdiv y) := by
  by_cases hu : 0 ≤ u
  · have k1 := tdiv_anti hu hx h1
    have k2 := tdiv_anti hu (show 0 < v by omega) h2
    omega
  · have k1 := tdiv_anti (show 0 ≤ -u by omega) hx h1
    have k2 := tdiv_anti (show 0 ≤ -u by omega) (show 0 < v by omega) h2
    rw [Int.neg_tdiv, Int.neg_tdiv] at k1 k2
    omega
theorem tdiv_btw_neg {x y v : Int} (u : Int) (hy : y < 0) (h1 : x ≤ v) (h2 : v ≤ y) : min (u.tdiv x) (u.tdiv y) ≤ u.tdiv v ∧ u.tdiv v ≤ max (u.tdiv x) (u.tdiv y) := by
  have := tdiv_btw_pos u (show 0 < -y by omega) (show -y ≤ -v by omega) (show -v ≤ -x by omega)
  rw [Int.tdiv_neg, Int.tdiv_neg, Int.tdiv_neg] at this
  omega
theorem pow_mono {x y : Int} (h0 : 0 ≤ x) (h : x ≤ y) : (2 : Int) ^ x.toNat ≤ 2 ^ y.toNat := two_pow_le _ _ (by omega)
theorem ediv_anti {u x v : Int} (hu : 0 ≤ u) (hx : 0 < x) (h : x ≤ v) : u / v ≤ u / x := by
  have := tdiv_anti hu hx h
  rwa [Int.tdiv_eq_ediv_of_nonneg hu, Int.tdiv_eq_ediv_of_nonneg hu] at this
theorem ediv_mono_neg {u x v : Int} (hu : u < 0) (hx : 0 < x) (h : x ≤ v) : u / x ≤ u / v := by
  have hv : 0 < v := by omega
  rw [Int.le_ediv_iff_mul_le hv]
  have h0 : u / x < 0 := Int.ediv_neg_of_neg_of_pos hu hx
  have h1 : u / x * v ≤ u / x * x := Int.mul_le_mul_of_nonpos_left (by omega) h
  have h2 : u / x * x ≤ u := Int.ediv_mul_le u (by omega)
  omega
theorem ediv_btw_l {x y u m : Int} (hm : 0 < m) (h1 : x ≤ u) (h2 : u ≤ y) : min (x / m) (y / m) ≤ u / m ∧ u / m ≤ max (x / m) (y / m) := by
  have k1 := Int.ediv_le_ediv hm h1
  have k2 := Int.ediv_le_ediv hm h2
  omega
theorem ediv_btw_r {x y m : Int} (u : Int) (hx : 0 < x) (h1 : x ≤ m) (h2 : m ≤ y) : min (u / x) (u / y) ≤ u / m ∧ u / m ≤ max (u / x) (u / y) := by
  by_cases hu : 0 ≤ u
  · have k1 := ediv_anti hu hx h1
    have k2 := ediv_anti hu (show 0 < m by omega) h2
    omega
  · have k1 := ediv_mono_neg (show u < 0 by omega) hx h1
    have k2 := ediv_mono_neg (show u < 0 by omega) (show 0 < m by omega) h2
    omega
/-- What an operator makes of two numbers lies between the corners. -/
theorem corners_btw {op : Int} {a b : R8} {u v : Int} (hop : op = 1 ∨ op = 2 ∨ op = 3 ∨ op = 9 ∨ op = 10 ∨ op = 11 ∨ op = 12 ∨ op = 13 ∨ op = 4 ∧ (0 < b.1 ∨ b.2 < 0))
    (hu : a.1 ≤ u ∧ u ≤ a.2) (hv : b.1 ≤ v ∧ v ≤ b.2) (hs : op = 9 ∨ op = 10 → 0 ≤ b.1) : cLo op a b ≤ exactV op u v ∧ exactV op u v ≤ cHi op a b := by
  obtain ⟨a1, a2⟩ := a
  obtain ⟨b1, b2⟩ := b
  simp only at hu hv hs hop
  unfold cLo cHi
  simp only
  refine corner_btw (f := exactV op) ?_ ?_ ?_
  all_goals rcases hop with rfl | rfl | rfl | rfl | rfl | rfl | rfl | rfl | ⟨rfl, h4⟩
  all_goals simp only [exactV_1, exactV_2, exactV_3, exactV_4, exactV_9, exactV_10, exactV_11, exactV_12, exactV_13]
  all_goals first
    | omega
    | exact mul_btw_l _ hu.1 hu.2
    | exact mul_btw_r _ hv.1 hv.2
    | exact mul_btw_r _ (pow_mono (hs (.inl rfl)) hv.1) (pow_mono (Int.le_trans (hs (.inl rfl)) hv.1) hv.2)
    | exact ediv_btw_l (two_pow_pos _) hu.1 hu.2
    | exact ediv_btw_r _ (two_pow_pos _) (pow_mono (hs (.inr rfl)) hv.1) (pow_mono (Int.le_trans (hs (.inr rfl)) hv.1) hv.2)
    | exact tdiv_btw_l (by omega) hu.1 hu.2
    | (rcases h4 with h4 | h4
       · exact tdiv_btw_pos _ h4 hv.1 hv.2
       · exact tdiv_btw_neg _ h4 hv.1 hv.2)

/-! ### Masks and bits -/
theorem maskF_bd (n : Nat) : ∀ (j : Nat) (v : Int), (∃ k, j ≤ k ∧ k ≤ j + n ∧ maskF n (2 ^ j - 1) v = 2 ^ k - 1) ∧ (v ≤ 2 ^ (j + n) - 1 → v ≤ maskF n (2 ^ j - 1) v) ∧
    ∀ i, j ≤ i → v ≤ 2 ^ i - 1 → maskF n (2 ^ j - 1) v ≤ 2 ^ i - 1 := by
  induction n with
  | zero =>
    intro j v
    refine ⟨⟨j, by omega, by omega, rfl⟩, fun h => h, fun i hi _ => ?_⟩
    have := two_pow_le j i hi
    show (2 : Int) ^ j - 1 ≤ 2 ^ i - 1
    omega
  | succ n ih =>
    intro j v
    unfold maskF
    by_cases h : (2 : Int) ^ j - 1 < v
    · rw [if_pos h]
      have e : 2 * ((2 : Int) ^ j - 1) + 1 = 2 ^ (j + 1) - 1 := by rw [Int.pow_succ]; omega
      rw [e]
      obtain ⟨⟨k, k1, k2, k3⟩, h2, h3⟩ := ih (j + 1) v
      refine ⟨⟨k, by omega, by omega, k3⟩, fun hv => h2 (by rw [show j + 1 + n = j + (n + 1) by omega]; exact hv), fun i hi hv => ?_⟩
      rcases Nat.lt_or_ge j i with hlt | hge
      · exact h3 i hlt hv
      · obtain rfl : i = j := by omega
        omega
    · rw [if_neg h]
      refine ⟨⟨j, by omega, by omega, rfl⟩, fun _ => by omega, fun i hi _ => ?_⟩
      have := two_pow_le j i hi
      omega
theorem mask8_bd (v : Int) (h : v ≤ 2147483647) : v ≤ mask8 v ∧ 0 ≤ mask8 v ∧ mask8 v ≤ 2147483647 ∧ (∃ k, k ≤ 31 ∧ mask8 v = 2 ^ k - 1) ∧ ∀ i, v ≤ 2 ^ i - 1 → mask8 v ≤ 2 ^ i - 1 := by
  obtain ⟨⟨k, k1, k2, k3⟩, h2, h3⟩ := maskF_bd 32 0 v
  have e0 : (2 : Int) ^ 0 - 1 = 0 := by decide
  rw [e0] at k3 h2 h3
  have e31 : (2 : Int) ^ 31 = 2147483648 := by decide
  have e32 : (2 : Int) ^ (0 + 32) = 4294967296 := by decide
  have m1 : mask8 v ≤ 2147483647 := by
    have := h3 31 (by omega) (by omega)
    show maskF 32 0 v ≤ _
    omega
  have p0 := two_pow_pos k
  have hk : k ≤ 31 := by
    rcases Nat.lt_or_ge 31 k with hlt | hge
    · have := two_pow_le 32 k hlt
      have e : (2 : Int) ^ 32 = 4294967296 := by decide
      have : mask8 v = 2 ^ k - 1 := k3
      omega
    · exact hge
  exact ⟨h2 (by omega), by show 0 ≤ maskF 32 0 v; omega, m1, ⟨k, hk, k3⟩, fun i hv => h3 i (by omega) hv⟩
theorem mask8_mono {v v' : Int} (h' : v' ≤ 2147483647) (h : v ≤ v') : mask8 v ≤ mask8 v' := by
  obtain ⟨h1, -, -, ⟨k, -, hk⟩, -⟩ := mask8_bd v' h'
  obtain ⟨-, -, -, -, h3⟩ := mask8_bd v (by omega)
  rw [hk]
  exact h3 k (by omega)
theorem low_nn {u : Int} (h0 : 0 ≤ u) (h1 : u ≤ 2147483647) : low u = u.toNat := by unfold low; rw [Int.emod_eq_of_lt h0 (by omega)]
theorem w32_nn {n : Nat} (h : (n : Int) ≤ 2147483647) : wrap32 (n : Int) = n := by unfold wrap32; omega
theorem bitsN_6 (A B : Nat) : bitsN 6 A B = A &&& B := by unfold bitsN; simp
/-- Bits of two numbers that are not below 0. -/
theorem bits_nn {u v : Int} (hu : 0 ≤ u) (hu2 : u ≤ 2147483647) (hv : 0 ≤ v) (hv2 : v ≤ 2147483647) :
    (0 ≤ exactV 6 u v ∧ exactV 6 u v ≤ min u v) ∧ (max u v ≤ exactV 7 u v ∧ exactV 7 u v ≤ mask8 (max u v)) ∧ (0 ≤ exactV 8 u v ∧ exactV 8 u v ≤ mask8 (max u v)) := by
  obtain ⟨h1, h0, h2, ⟨k, hk, hm⟩, -⟩ := mask8_bd (max u v) (by omega)
  have hA : u.toNat < 2 ^ k := by
    have : ((u.toNat : Nat) : Int) < ((2 ^ k : Nat) : Int) := by push_cast; omega
    exact_mod_cast this
  have hB : v.toNat < 2 ^ k := by
    have : ((v.toNat : Nat) : Int) < ((2 ^ k : Nat) : Int) := by push_cast; omega
    exact_mod_cast this
  rw [exactV_6, exactV_7, exactV_8, low_nn hu hu2, low_nn hv hv2, bitsN_6, bitsN_or, bitsN_xor]
  have a1 := Nat.and_le_left (n := u.toNat) (m := v.toNat)
  have a2 := Nat.and_le_right (n := u.toNat) (m := v.toNat)
  have o1 := Nat.left_le_or (n := u.toNat) (m := v.toNat)
  have o2 := Nat.right_le_or (n := u.toNat) (m := v.toNat)
  have o3 := Nat.or_lt_two_pow hA hB
  have x3 := Nat.xor_lt_two_pow hA hB
  have hp : ((2 ^ k : Nat) : Int) = 2 ^ k := by push_cast; rfl
  rw [w32_nn (by omega), w32_nn (by omega), w32_nn (by omega)]
  omega
theorem and_l {u v : Int} (hu : 0 ≤ u) (hu2 : u ≤ 2147483647) : 0 ≤ exactV 6 u v ∧ exactV 6 u v ≤ u := by
  rw [exactV_6, low_nn hu hu2, bitsN_6]
  have a1 := Nat.and_le_left (n := u.toNat) (m := low v)
  rw [w32_nn (by omega)]
  omega
theorem and_r {u v : Int} (hv : 0 ≤ v) (hv2 : v ≤ 2147483647) : 0 ≤ exactV 6 u v ∧ exactV 6 u v ≤ v := by
  rw [exactV_6, low_nn hv hv2, bitsN_6]
  have a1 := Nat.and_le_right (n := low u) (m := v.toNat)
  rw [w32_nn (by omega)]
  omega
theorem bits_bd {op u v : Int} (h : op = 6 ∨ op = 7 ∨ op = 8) : -2147483648 ≤ exactV op u v ∧ exactV op u v ≤ 2147483647 := by
  rcases h with rfl | rfl | rfl
  · rw [exactV_6]; exact ⟨w32_lo _, w32_hi _⟩
  · rw [exactV_7]; exact ⟨w32_lo _, w32_hi _⟩
  · rw [exactV_8]; exact ⟨w32_lo _, w32_hi _⟩
set_option maxHeartbeats 2000000 in
theorem bits8_has {op : Int} {a b : R8} {u v : Int} (hop : op = 6 ∨ op = 7 ∨ op = 8) (ha : -2147483648 ≤ a.1 ∧ a.2 ≤ 2147483647) (hb : -2147483648 ≤ b.1 ∧ b.2 ≤ 2147483647)
    (hu : a.1 ≤ u ∧ u ≤ a.2) (hv : b.1 ≤ v ∧ v ≤ b.2) : (bits8 op a b).1 ≤ exactV op u v ∧ exactV op u v ≤ (bits8 op a b).2 ∧ -2147483648 ≤ (bits8 op a b).1 ∧ (bits8 op a b).2 ≤ 2147483647 := by
  unfold bits8
  have bd := bits_bd (u := u) (v := v) hop
  split
  · rename_i h
    obtain rfl : u = a.1 := by omega
    obtain rfl : v = b.1 := by omega
    generalize exactV op a.1 b.1 = z at *
    simp only; omega
  · split
    · rename_i h
      obtain ⟨e, h1, h2⟩ := h
      have := (bits_nn (u := u) (v := v) (by omega) (by omega) (by omega) (by omega)).1
      rw [← e] at this
      generalize exactV op u v = z at *
      simp only; omega
    · split
      · rename_i h
        obtain ⟨e, h1⟩ := h
        have := and_l (u := u) (v := v) (by omega) (by omega)
        rw [← e] at this
        generalize exactV op u v = z at *
        simp only; omega
      · split
        · rename_i h
          obtain ⟨e, h1⟩ := h
          have := and_r (u := u) (v := v) (by omega) (by omega)
          rw [← e] at this
          generalize exactV op u v = z at *
          simp only; omega
        · have m := mask8_bd (max a.2 b.2) (by omega)
          have mm := mask8_mono (v := max u v) (v' := max a.2 b.2) (by omega) (by omega)
          split
          · rename_i h
            obtain ⟨e, h1, h2⟩ := h
            have := (bits_nn (u := u) (v := v) (by omega) (by omega) (by omega) (by omega)).2.1
            rw [← e] at this
            generalize exactV op u v = z at *
            simp only; omega
          · split
            · rename_i h
              obtain ⟨e, h1, h2⟩ := h
              have := (bits_nn (u := u) (v := v) (by omega) (by omega) (by omega) (by omega)).2.2
              rw [← e] at this
              generalize exactV op u v = z at *
              simp only; omega
            · (generalize exactV op u v = z at *; simp only; omega)
end Go.Proofs.YthbbgkpkijlclaaDoor.num
