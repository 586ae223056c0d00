/-
  What operators make of rests, in plain terms.
-/
import Derived.Test.YthbbgkpkijlclaaDoorGb
namespace Go.Proofs.YthbbgkpkijlclaaDoor.num
open Go.RowKit
set_option linter.unusedVariables false

def word9 (op : Int) : Int := if 11 ≤ op then 4294967296 else 0
def apart9 (a b : T9) : Int := gcd9 (gcd9 (a.1 * b.1) (a.1 * b.2)) (b.1 * a.2)
/-- What RestDo tells. -/
def do9 (op : Int) (a b : T9) : T9 :=
  if inB op 1 13 = false ∨ qOk a = false ∨ qOk b = false then all9
  else if a.1 = 0 ∧ b.1 = 0 then (if (numDo op a.2 b.2).2 = 0 then (0, (numDo op a.2 b.2).1) else all9)
  else if op = 1 ∨ op = 11 then make9 (gcd9 (gcd9 a.1 b.1) (word9 op)) (a.2 + b.2)
  else if op = 2 ∨ op = 12 then make9 (gcd9 (gcd9 a.1 b.1) (word9 op)) (a.2 - b.2)
  else if op = 9 ∧ b.1 = 0 ∧ inB b.2 0 31 = true then make9 (a.1 * 2 ^ b.2.toNat) (a.2 * 2 ^ b.2.toNat)
  else if op = 3 ∨ op = 13 then (if apart9 a b = 0 then (0, 0) else make9 (gcd9 (apart9 a b) (word9 op)) (a.2 * b.2))
  else if op = 5 then make9 (gcd9 a.1 (gcd9 b.1 b.2)) a.2
  else all9
theorem all9_ok : qOk all9 = true := by decide
theorem all9_has {v : Int} (h : -2147483648 ≤ v ∧ v ≤ 2147483647) : qHas all9 v = true := by
  rw [qHas_iff]
  exact ⟨all9_ok, h, Int.one_dvd _⟩
theorem numDo_ok {op a b : Int} : -2147483648 ≤ (numDo op a b).1 ∧ (numDo op a b).1 ≤ 2147483647 := by
  unfold numDo
  split
  · simp
  · split
    · simp
    · split
      · simp
      · split
        · exact ⟨w32_lo _, w32_hi _⟩
        · split
          · simp
          · rename_i h
            have h' : okB (exactV op a b) = true := by simpa using h
            rw [okB_iff] at h'
            exact h'
theorem apart9_zero {a b : T9} (h : apart9 a b = 0) (hab : ¬ (a.1 = 0 ∧ b.1 = 0)) : (a.1 = 0 ∧ a.2 = 0) ∨ (b.1 = 0 ∧ b.2 = 0) := by
  obtain ⟨h1, h2⟩ := gcd9_eq_zero h
  obtain ⟨h3, h4⟩ := gcd9_eq_zero h1
  rw [Int.mul_eq_zero] at h2 h3 h4
  omega
theorem do9_ok (op : Int) (a b : T9) : qOk (do9 op a b) = true := by
  unfold do9
  split
  · exact all9_ok
  · rename_i hk
    split
    · split
      · rw [qOk_iff]
        exact .inl ⟨rfl, numDo_ok⟩
      · exact all9_ok
    · rename_i hab
      have g1 : ∀ x, gcd9 (gcd9 a.1 b.1) x ≠ 0 := fun x e => hab (by
        have := gcd9_eq_zero e
        exact gcd9_eq_zero this.1)
      split
      · exact make9_ok (gcd9_pos _ _) (fun e => absurd e (g1 _))
      · split
        · exact make9_ok (gcd9_pos _ _) (fun e => absurd e (g1 _))
        · split
          · rename_i h
            have ha : qOk a = true := by simpa using (fun e => hk (.inr (.inl e)))
            rw [qOk_iff] at ha
            have hp := two_pow_pos b.2.toNat
            refine make9_ok (Int.mul_nonneg (by omega) (by omega)) (fun e => ?_)
            rw [Int.mul_eq_zero] at e
            omega
          · split
            · split
              · decide
              · rename_i hz
                refine make9_ok (gcd9_pos _ _) (fun e => absurd (gcd9_eq_zero e).1 hz)
            · split
              · refine make9_ok (gcd9_pos _ _) (fun e => ?_)
                obtain ⟨e1, e2⟩ := gcd9_eq_zero e
                have e3 := gcd9_eq_zero e2
                omega
              · exact all9_ok
theorem wrap_dvd (x : Int) : (4294967296 : Int) ∣ wrap32 x - x := by
  unfold wrap32
  exact ⟨(x + 2147483648 - (x + 2147483648) % 4294967296) / 4294967296 * -1, by omega⟩
theorem tmod_split (u v : Int) : u = v * u.tdiv v + u.tmod v := (Int.mul_tdiv_add_tmod u v).symm
/-- Without a fault and without wrapping the number is what is reckoned. -/
theorem numDo_exact {op u v : Int} (h : inB op 1 13 = true) (hu : okB u = true) (hv : okB v = true) (hf : (numDo op u v).2 = 0) (hw : ¬ 11 ≤ op) : (numDo op u v).1 = exactV op u v := by
  revert hf
  unfold numDo
  rw [if_neg (by simp [h, hu, hv])]
  split
  · simp
  · split
    · simp
    · split
      · simp
      · simp
theorem numDo_word {op u v : Int} (h : inB op 1 13 = true) (hu : okB u = true) (hv : okB v = true) (hw : 11 ≤ op) : (numDo op u v).1 = wrap32 (exactV op u v) := by
  unfold numDo
  rw [if_neg (by simp [h, hu, hv]), if_neg (by omega), if_neg (by omega), if_pos hw]
/-- What NumDo tells, against a sum that it is for the word that it is wrapped by. -/
theorem word9_dvd {op u v : Int} (h : inB op 1 13 = true) (hu : okB u = true) (hv : okB v = true) (hf : (numDo op u v).2 = 0) : word9 op ∣ (numDo op u v).1 - exactV op u v := by
  unfold word9
  by_cases hw : 11 ≤ op
  · rw [if_pos hw, numDo_word h hu hv hw]
    exact wrap_dvd _
  · rw [if_neg hw, numDo_exact h hu hv hf hw, Int.sub_self]
    exact Int.dvd_refl _
theorem do9_has {op : Int} {a b : T9} {u v : Int} (hop : inB op 1 13 = true) (ha : qHas a u = true) (hb : qHas b v = true) (hf : (numDo op u v).2 = 0) : qHas (do9 op a b) (numDo op u v).1 = true := by
  have hn := numDo_ok (op := op) (a := u) (b := v)
  rw [qHas_iff] at ha hb
  obtain ⟨oa, va, da⟩ := ha
  obtain ⟨ob, vb, db⟩ := hb
  have oa' := oa
  have ob' := ob
  rw [qOk_iff] at oa' ob'
  have ou : okB u = true := by rw [okB_iff]; exact va
  have ov : okB v = true := by rw [okB_iff]; exact vb
  have hw := word9_dvd hop ou ov hf
  have hw2 := fun h => numDo_exact hop ou ov hf h
  unfold do9
  rw [if_neg (by simp [hop, oa, ob])]
  split
  · rename_i z
    rw [z.1, Int.zero_dvd] at da
    rw [z.2, Int.zero_dvd] at db
    rw [show a.2 = u by omega, show b.2 = v by omega, if_pos hf, qHas_iff]
    refine ⟨?_, hn, ?_⟩
    · rw [qOk_iff]; exact .inl ⟨rfl, hn⟩
    · simp only
      rw [Int.zero_dvd]; omega
  · rename_i hab
    generalize numDo op u v = n at *
    split
    · rename_i e
      have ex : exactV op u v = u + v := by rcases e with rfl | rfl <;> simp [exactV]
      rw [ex] at hw
      refine make9_has (gcd9_pos _ _) hn ?_
      rw [show n.1 - (a.2 + b.2) = (n.1 - (u + v)) + ((u - a.2) + (v - b.2)) by omega]
      exact Int.dvd_add (Int.dvd_trans (gcd9_right _ _) hw) (Int.dvd_trans (gcd9_left _ _) (Int.dvd_add (Int.dvd_trans (gcd9_left _ _) da) (Int.dvd_trans (gcd9_right _ _) db)))
    · split
      · rename_i e
        have ex : exactV op u v = u - v := by rcases e with rfl | rfl <;> simp [exactV]
        rw [ex] at hw
        refine make9_has (gcd9_pos _ _) hn ?_
        rw [show n.1 - (a.2 - b.2) = (n.1 - (u - v)) + ((u - a.2) - (v - b.2)) by omega]
        exact Int.dvd_add (Int.dvd_trans (gcd9_right _ _) hw) (Int.dvd_trans (gcd9_left _ _) (Int.dvd_sub (Int.dvd_trans (gcd9_left _ _) da) (Int.dvd_trans (gcd9_right _ _) db)))
      · split
        · rename_i e
          obtain ⟨rfl, z, hs⟩ := e
          rw [z, Int.zero_dvd] at db
          have eb : v = b.2 := by omega
          have e9 := hw2 (by omega)
          have hp := two_pow_pos b.2.toNat
          refine make9_has (Int.mul_nonneg (by omega) (by omega)) hn ?_
          rw [e9, exactV_9, eb, ← Int.sub_mul]
          exact Int.mul_dvd_mul da (Int.dvd_refl _)
        · split
          · rename_i e
            have ex : exactV op u v = u * v := by rcases e with rfl | rfl <;> simp [exactV]
            rw [ex] at hw
            have hd : apart9 a b ∣ u * v - a.2 * b.2 := by
              obtain ⟨s, hs⟩ := da
              obtain ⟨t, ht⟩ := db
              have eu : u = a.2 + a.1 * s := by omega
              have ev : v = b.2 + b.1 * t := by omega
              have e2 : u * v - a.2 * b.2 = (a.1 * b.1) * (s * t) + (a.1 * b.2) * s + (b.1 * a.2) * t := by
                rw [eu, ev, Int.add_mul, Int.mul_add, Int.mul_add]
                have k1 : a.2 * (b.1 * t) = b.1 * a.2 * t := by simp only [Int.mul_left_comm, Int.mul_comm]
                have k2 : a.1 * s * b.2 = a.1 * b.2 * s := by simp only [Int.mul_left_comm, Int.mul_comm]
                have k3 : a.1 * s * (b.1 * t) = a.1 * b.1 * (s * t) := by simp only [Int.mul_assoc, Int.mul_left_comm]
                rw [k1, k2, k3]; omega
              rw [e2]
              unfold apart9
              refine Int.dvd_add (Int.dvd_add ?_ ?_) ?_
              · exact Int.dvd_trans (Int.dvd_trans (gcd9_left _ _) (gcd9_left _ _)) (Int.dvd_mul_right _ _)
              · exact Int.dvd_trans (Int.dvd_trans (gcd9_left _ _) (gcd9_right _ _)) (Int.dvd_mul_right _ _)
              · exact Int.dvd_trans (gcd9_right _ _) (Int.dvd_mul_right _ _)
            split
            · rename_i hz
              have hz0 := apart9_zero hz hab
              rw [hz, Int.zero_dvd] at hd
              have e0 : u * v = 0 := by
                have : a.2 * b.2 = 0 := by rw [Int.mul_eq_zero]; omega
                omega
              have hn0 : n.1 = 0 := by
                rw [e0, Int.sub_zero] at hw
                unfold word9 at hw
                split at hw
                · obtain ⟨k, hk⟩ := hw; omega
                · rw [Int.zero_dvd] at hw; exact hw
              rw [hn0]
              decide
            · refine make9_has (gcd9_pos _ _) hn ?_
              rw [show n.1 - a.2 * b.2 = (n.1 - u * v) + (u * v - a.2 * b.2) by omega]
              exact Int.dvd_add (Int.dvd_trans (gcd9_right _ _) hw) (Int.dvd_trans (gcd9_left _ _) hd)
          · split
            · rename_i e
              subst e
              have e5 := hw2 (by omega)
              refine make9_has (gcd9_pos _ _) hn ?_
              rw [e5, exactV_5]
              have es := tmod_split u v
              have hv : gcd9 a.1 (gcd9 b.1 b.2) ∣ v := by
                rw [show v = (v - b.2) + b.2 by omega]
                exact Int.dvd_add (Int.dvd_trans (gcd9_right _ _) (Int.dvd_trans (gcd9_left _ _) db)) (Int.dvd_trans (gcd9_right _ _) (gcd9_right _ _))
              rw [show u.tmod v - a.2 = (u - a.2) - v * u.tdiv v by omega]
              exact Int.dvd_sub (Int.dvd_trans (gcd9_left _ _) da) (Int.dvd_trans hv (Int.dvd_mul_right _ _))
            · exact all9_has hn
end Go.Proofs.YthbbgkpkijlclaaDoor.num
