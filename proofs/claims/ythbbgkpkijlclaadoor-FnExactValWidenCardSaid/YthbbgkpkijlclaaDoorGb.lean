/-
  What two rests have together, and what operators make of rests, in plain terms.
-/
import Derived.Test.YthbbgkpkijlclaaDoorGa
namespace Go.Proofs.YthbbgkpkijlclaaDoor.num
open Go.RowKit
set_option linter.unusedVariables false

theorem bezoutN : ∀ (n m : Nat), ∃ x y : Int, (Nat.gcd n m : Int) = n * x + m * y := by
  intro n
  induction n using Nat.strongRecOn with
  | _ n ih =>
    intro m
    by_cases h : n = 0
    · subst h
      exact ⟨0, 1, by simp⟩
    · obtain ⟨x, y, e⟩ := ih (m % n) (Nat.mod_lt _ (by omega)) n
      rw [Nat.gcd_rec, e]
      refine ⟨y - (m / n : Nat) * x, x, ?_⟩
      have k : (m : Int) = n * (m / n : Nat) + (m % n : Nat) := by exact_mod_cast (Nat.div_add_mod m n).symm
      generalize ((m / n : Nat) : Int) = q at *
      generalize ((m % n : Nat) : Int) = r at *
      rw [k, Int.mul_sub, Int.add_mul, Int.mul_assoc]
      omega
theorem bezout9 (a b : Int) : ∃ x y : Int, gcd9 a b = a * x + b * y := by
  obtain ⟨x, y, e⟩ := bezoutN a.natAbs b.natAbs
  unfold gcd9 Int.gcd
  rw [e]
  have hA : (a.natAbs : Int) = a ∨ (a.natAbs : Int) = -a := by omega
  have hB : (b.natAbs : Int) = b ∨ (b.natAbs : Int) = -b := by omega
  rcases hA with h | h <;> rcases hB with h2 | h2 <;> rw [h, h2]
  · exact ⟨x, y, rfl⟩
  · exact ⟨x, -y, by rw [Int.neg_mul, Int.mul_neg]⟩
  · exact ⟨-x, y, by rw [Int.neg_mul, Int.mul_neg]⟩
  · exact ⟨-x, -y, by rw [Int.neg_mul, Int.mul_neg, Int.neg_mul, Int.mul_neg]⟩
theorem least9 {P : Nat → Prop} : ∀ n, P n → ∃ k, k ≤ n ∧ P k ∧ ∀ j, j < k → ¬ P j := by
  intro n
  induction n using Nat.strongRecOn with
  | _ n ih =>
    intro hn
    by_cases h : ∃ j, j < n ∧ P j
    · obtain ⟨j, hj, hp⟩ := h
      obtain ⟨k, h1, h2, h3⟩ := ih j hj hp
      exact ⟨k, by omega, h2, h3⟩
    · exact ⟨n, Nat.le_refl _, hn, fun j hj hp => h ⟨j, hj, hp⟩⟩
/-- Steps of m from s on come upon a number that leaves r: the least number of steps, where s and r may meet at all. -/
theorem steps9 {s m n r : Int} (hm : 0 < m) (hn : 0 < n) (h0 : 0 ≤ r) (h1 : r < n) (hd : gcd9 m n ∣ s - r) :
    ∃ k : Nat, (k : Int) < n / gcd9 m n ∧ (s + m * k) % n = r ∧ ∀ j : Nat, j < k → (s + m * j) % n ≠ r := by
  obtain ⟨x, y, e⟩ := bezout9 m n
  obtain ⟨c, hc⟩ := hd
  have g0 : 0 < gcd9 m n := gcd9_gt (.inl (by omega))
  have gn : gcd9 m n * (n / gcd9 m n) = n := Int.mul_ediv_cancel' (gcd9_right m n)
  have q0 : 0 < n / gcd9 m n := Int.ediv_pos_of_pos_of_dvd hn (by omega) (gcd9_right m n)
  obtain ⟨m', hm'⟩ : gcd9 m n ∣ m := gcd9_left m n
  generalize hq : n / gcd9 m n = q at *
  generalize gcd9 m n = g at *
  have k1 := Int.emod_nonneg (-(x * c)) (show q ≠ 0 by omega)
  have k2 := Int.emod_lt_of_pos (-(x * c)) q0
  have hP : (s + m * (((-(x * c)) % q).toNat : Nat)) % n = r := by
    rw [emod_is h0 h1, Int.toNat_of_nonneg k1]
    obtain ⟨t, ht⟩ : q ∣ -(x * c) - (-(x * c)) % q := Int.dvd_self_sub_emod
    have e2 : (-(x * c)) % q = -(x * c) - q * t := by omega
    rw [e2]
    refine ⟨y * c - m' * t, ?_⟩
    have e3 : m * (-(x * c) - q * t) = -(m * x * c) - m * (q * t) := by rw [Int.mul_sub, Int.mul_neg, Int.mul_assoc]
    have e4 : m * (q * t) = n * (m' * t) := by
      rw [hm', ← gn, Int.mul_assoc, Int.mul_assoc]
      congr 1
      rw [← Int.mul_assoc, ← Int.mul_assoc, Int.mul_comm m' q]
    have e6 : n * (y * c - m' * t) = n * y * c - n * (m' * t) := by rw [Int.mul_sub, Int.mul_assoc]
    have e7 : g * c = m * x * c + n * y * c := by rw [e, Int.add_mul]
    rw [e3, e4, e6]
    omega
  obtain ⟨k, h2, h3, h4⟩ := least9 (P := fun k => (s + m * k) % n = r) _ hP
  exact ⟨k, by omega, h3, h4⟩
/-- The first of some steps that leaves r. -/
def walk9 (m n r : Int) : Nat → Int → Int
  | 0, s => s
  | f + 1, s => if s % n = r then s else walk9 m n r f (s + m)
theorem walk9_is {m n r : Int} : ∀ (k f : Nat) (s : Int), k ≤ f → (s + m * k) % n = r → (∀ j : Nat, j < k → (s + m * j) % n ≠ r) → walk9 m n r f s = s + m * k := by
  intro k
  induction k with
  | zero =>
    intro f s _ h _
    simp at h
    cases f <;> simp [walk9, h]
  | succ k ih =>
    intro f s hf h hj
    obtain ⟨f, rfl⟩ : ∃ f', f = f' + 1 := ⟨f - 1, by omega⟩
    have h0 := hj 0 (by omega)
    simp at h0
    rw [walk9, if_neg h0, ih f (s + m) (by omega) (by rw [← h]; congr 1; simp [Int.mul_add]; omega) (fun j hjk => by
      have := hj (j + 1) (by omega)
      intro e
      apply this
      rw [← e]; congr 1; simp [Int.mul_add]; omega)]
    simp [Int.mul_add]; omega
/-- What two rests have together: their product's rest. -/
def crt9 (a b : T9) : Int := walk9 a.1 b.1 b.2 65536 a.2
def lcm9 (a b : T9) : Int := a.1 / gcd9 a.1 b.1 * b.1
def meet9 (a b : T9) : T9 × Bool :=
  if qOk a = false ∨ qOk b = false then ((0, 0), false)
  else if a.1 = 0 then (if qHas b a.2 = true then (a, true) else ((0, 0), false))
  else if b.1 = 0 then (if qHas a b.2 = true then (b, true) else ((0, 0), false))
  else if ¬ (a.2 - b.2) % gcd9 a.1 b.1 = 0 then ((0, 0), false)
  else if 65536 < lcm9 a b then (if a.1 < b.1 then (b, true) else (a, true))
  else ((lcm9 a b, crt9 a b), true)
theorem lcm9_dvd_left (a b : T9) : a.1 ∣ lcm9 a b := by
  unfold lcm9
  have h : a.1 / gcd9 a.1 b.1 * b.1 = a.1 * (b.1 / gcd9 a.1 b.1) := by
    rw [← Int.mul_ediv_assoc _ (gcd9_right _ _), Int.mul_comm a.1 b.1, Int.mul_ediv_assoc _ (gcd9_left _ _), Int.mul_comm]
  rw [h]
  exact Int.dvd_mul_right _ _
theorem lcm9_dvd_right (a b : T9) : b.1 ∣ lcm9 a b := by
  unfold lcm9
  exact Int.dvd_mul_left _ _
theorem lcm9_comm (a b : T9) : lcm9 a b = lcm9 b a := by
  unfold lcm9
  rw [gcd9_comm b.1 a.1, Int.mul_comm (b.1 / _) a.1, ← Int.mul_ediv_assoc _ (gcd9_right a.1 b.1), Int.mul_comm a.1 b.1, Int.mul_ediv_assoc _ (gcd9_left _ _), Int.mul_comm]
theorem lcm9_dvd {a b : T9} (h : gcd9 a.1 b.1 ≠ 0) {x : Int} (h1 : a.1 ∣ x) (h2 : b.1 ∣ x) : lcm9 a b ∣ x := by
  obtain ⟨u, v, e⟩ := bezout9 a.1 b.1
  obtain ⟨s, rfl⟩ := h1
  obtain ⟨t, ht⟩ := h2
  obtain ⟨a', ha⟩ : gcd9 a.1 b.1 ∣ a.1 := gcd9_left _ _
  obtain ⟨b', hb⟩ : gcd9 a.1 b.1 ∣ b.1 := gcd9_right _ _
  generalize hg : gcd9 a.1 b.1 = g at *
  have el : lcm9 a b = a' * b.1 := by
    unfold lcm9; rw [hg, ha, Int.mul_ediv_cancel_left _ h]
  rw [el]
  refine ⟨u * t + v * s, ?_⟩
  have h3 : g * (a.1 * s) = g * (a' * b.1 * (u * t + v * s)) := by
    have k1 : g * (a.1 * s) = a.1 * u * (a.1 * s) + b.1 * v * (a.1 * s) := by rw [e, Int.add_mul]
    have k2 : a.1 * u * (a.1 * s) = a.1 * b.1 * (u * t) := by
      rw [ht]
      simp only [Int.mul_assoc, Int.mul_left_comm]
    have k3 : b.1 * v * (a.1 * s) = a.1 * b.1 * (v * s) := by
      simp only [Int.mul_left_comm, Int.mul_comm]
    have k4 : g * (a' * b.1 * (u * t + v * s)) = a.1 * b.1 * (u * t + v * s) := by
      rw [← Int.mul_assoc, ← Int.mul_assoc, ← ha]
    rw [k1, k2, k3, k4, Int.mul_add]
  exact Int.eq_of_mul_eq_mul_left h h3
/-- Where two rests may meet: the number that both have. -/
theorem crt9_is {a b : T9} (ha : qOk a = true) (hb : qOk b = true) (h1 : a.1 ≠ 0) (h2 : b.1 ≠ 0) (hd : (a.2 - b.2) % gcd9 a.1 b.1 = 0) :
    0 ≤ crt9 a b ∧ crt9 a b < lcm9 a b ∧ a.1 ∣ crt9 a b - a.2 ∧ b.1 ∣ crt9 a b - b.2 := by
  rw [qOk_iff] at ha hb
  obtain ⟨k, k1, k2, k3⟩ := steps9 (s := a.2) (m := a.1) (n := b.1) (r := b.2) (by omega) (by omega) (by omega) (by omega) (Int.dvd_of_emod_eq_zero hd)
  have g0 : 0 < gcd9 a.1 b.1 := gcd9_gt (.inl h1)
  have gb : gcd9 a.1 b.1 * (b.1 / gcd9 a.1 b.1) = b.1 := Int.mul_ediv_cancel' (gcd9_right a.1 b.1)
  have hk : (k : Int) < b.1 := by
    have : b.1 / gcd9 a.1 b.1 ≤ b.1 := Int.ediv_le_self _ (by omega)
    omega
  have e : crt9 a b = a.2 + a.1 * k := walk9_is k 65536 a.2 (by omega) k2 k3
  have el : lcm9 a b = a.1 * (b.1 / gcd9 a.1 b.1) := by
    unfold lcm9
    rw [← Int.mul_ediv_assoc _ (gcd9_right _ _), Int.mul_comm a.1 b.1, Int.mul_ediv_assoc _ (gcd9_left _ _), Int.mul_comm]
  rw [e, el]
  have p0 : 0 ≤ a.1 * (k : Int) := Int.mul_nonneg (by omega) (by omega)
  have p1 : a.1 * (k + 1 : Int) ≤ a.1 * (b.1 / gcd9 a.1 b.1) := Int.mul_le_mul_of_nonneg_left (by omega) (by omega)
  rw [Int.mul_add] at p1
  refine ⟨by omega, by omega, ⟨k, by omega⟩, (emod_is (by omega) (by omega)).1 k2⟩
theorem crt9_comm {a b : T9} (ha : qOk a = true) (hb : qOk b = true) (h1 : a.1 ≠ 0) (h2 : b.1 ≠ 0) (hd : (a.2 - b.2) % gcd9 a.1 b.1 = 0) : crt9 a b = crt9 b a := by
  obtain ⟨p1, p2, p3, p4⟩ := crt9_is ha hb h1 h2 hd
  have hd' : (b.2 - a.2) % gcd9 b.1 a.1 = 0 := by
    rw [gcd9_comm, ← dvd_iff_emod, ← Int.dvd_neg]
    rw [show -(b.2 - a.2) = a.2 - b.2 by omega]
    exact Int.dvd_of_emod_eq_zero hd
  obtain ⟨q1, q2, q3, q4⟩ := crt9_is hb ha h2 h1 hd'
  rw [lcm9_comm b a] at q2
  have g0 : gcd9 a.1 b.1 ≠ 0 := by have := gcd9_gt (a := a.1) (b := b.1) (.inl h1); omega
  have hl : lcm9 a b ∣ crt9 a b - crt9 b a := lcm9_dvd g0 (by
      have e : crt9 a b - crt9 b a = (crt9 a b - a.2) - (crt9 b a - a.2) := by omega
      rw [e]; exact Int.dvd_sub p3 q4) (by
      have e : crt9 a b - crt9 b a = (crt9 a b - b.2) - (crt9 b a - b.2) := by omega
      rw [e]; exact Int.dvd_sub p4 q3)
  rw [← emod_eq_iff, Int.emod_eq_of_lt p1 p2, Int.emod_eq_of_lt q1 q2] at hl
  exact hl
/-- RestMeet's number of steps: how the program and the model come upon it. -/
theorem crt9_steps {a b : T9} (ha : qOk a = true) (hb : qOk b = true) (h1 : a.1 ≠ 0) (h2 : b.1 ≠ 0) (hd : (a.2 - b.2) % gcd9 a.1 b.1 = 0) :
    ∃ k : Nat, k < 65536 ∧ crt9 a b = a.2 + a.1 * k ∧ (a.2 + a.1 * k) % b.1 = b.2 ∧ ∀ j : Nat, j < k → (a.2 + a.1 * j) % b.1 ≠ b.2 := by
  rw [qOk_iff] at ha hb
  obtain ⟨k, k1, k2, k3⟩ := steps9 (s := a.2) (m := a.1) (n := b.1) (r := b.2) (by omega) (by omega) (by omega) (by omega) (Int.dvd_of_emod_eq_zero hd)
  have hk : (k : Int) < b.1 := by
    have : b.1 / gcd9 a.1 b.1 ≤ b.1 := Int.ediv_le_self _ (by omega)
    omega
  exact ⟨k, by omega, walk9_is k 65536 a.2 (by omega) k2 k3, k2, k3⟩
theorem meet9_ok {a b : T9} (h : (meet9 a b).2 = true) : qOk (meet9 a b).1 = true := by
  revert h
  unfold meet9
  split
  · simp
  · rename_i hk
    have ha : qOk a = true := by simpa using (fun e => hk (.inl e))
    have hb : qOk b = true := by simpa using (fun e => hk (.inr e))
    split
    · split
      · intro _; exact ha
      · simp
    · rename_i z1
      split
      · split
        · intro _; exact hb
        · simp
      · rename_i z2
        split
        · simp
        · rename_i hd
          split
          · split
            · intro _; exact hb
            · intro _; exact ha
          · rename_i hl
            intro _
            obtain ⟨p1, p2, p3, p4⟩ := crt9_is ha hb z1 z2 (by omega)
            rw [qOk_iff]
            right
            simp only
            omega
/-- What both have the meet has; with no meet there is no such number. -/
theorem meet9_has {a b : T9} {v : Int} (ha : qHas a v = true) (hb : qHas b v = true) : (meet9 a b).2 = true ∧ qHas (meet9 a b).1 v = true := by
  have ha' := ha
  have hb' := hb
  rw [qHas_iff] at ha hb
  obtain ⟨oa, va, da⟩ := ha
  obtain ⟨ob, vb, db⟩ := hb
  unfold meet9
  rw [if_neg (by simp [oa, ob])]
  split
  · rename_i z
    rw [z, Int.zero_dvd] at da
    have e : a.2 = v := by omega
    rw [e, if_pos hb']
    exact ⟨rfl, ha'⟩
  · rename_i z1
    split
    · rename_i z
      rw [z, Int.zero_dvd] at db
      have e : b.2 = v := by omega
      rw [e, if_pos ha']
      exact ⟨rfl, hb'⟩
    · rename_i z2
      have hd : (a.2 - b.2) % gcd9 a.1 b.1 = 0 := by
        rw [← dvd_iff_emod, show a.2 - b.2 = (v - b.2) - (v - a.2) by omega]
        exact Int.dvd_sub (Int.dvd_trans (gcd9_right _ _) db) (Int.dvd_trans (gcd9_left _ _) da)
      rw [if_neg (by simp [hd])]
      split
      · split
        · exact ⟨rfl, hb'⟩
        · exact ⟨rfl, ha'⟩
      · rename_i hl
        obtain ⟨p1, p2, p3, p4⟩ := crt9_is oa ob z1 z2 hd
        have g0 : gcd9 a.1 b.1 ≠ 0 := by have := gcd9_gt (a := a.1) (b := b.1) (.inl z1); omega
        refine ⟨rfl, ?_⟩
        rw [qHas_iff]
        refine ⟨?_, va, ?_⟩
        · rw [qOk_iff]; right; simp only; omega
        · simp only
          refine lcm9_dvd g0 ?_ ?_
          · rw [show v - crt9 a b = (v - a.2) - (crt9 a b - a.2) by omega]; exact Int.dvd_sub da p3
          · rw [show v - crt9 a b = (v - b.2) - (crt9 a b - b.2) by omega]; exact Int.dvd_sub db p4
end Go.Proofs.YthbbgkpkijlclaaDoor.num
