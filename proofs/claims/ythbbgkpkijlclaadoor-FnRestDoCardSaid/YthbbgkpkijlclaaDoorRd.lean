/-
  The reader of a code (the model's l1Rd): what it holds; that each pick tells a number from 0 to n-1 and turns nothing but the reader's own place.
-/
import Derived.Test.YthbbgkpkijlclaaDoorPow
import Derived.Deep.QuietTactic
import Derived.BigQuiet
namespace Go.Proofs.YthbbgkpkijlclaaDoor.num
open Go.ChangeShapes Go.WideShapes Go.ChangeAt Go.RowKit
set_option linter.unusedVariables false
/-- Of all blocks that were there only block r may have turned; none has gone; the streams are as they were. -/
structure Kept (r : Nat) (w w' : World) : Prop where
  os : w'.os = w.os
  tape : w'.tape = w.tape
  output : w'.output = w.output
  size : w.heap.size ≤ w'.heap.size
  block : ∀ k, k < w.heap.size → k ≠ r → w'.heap[k]? = w.heap[k]?
  head : r < w.heap.size → w'.cell? ⟨r, 0, none⟩ = w.cell? ⟨r, 0, none⟩
theorem Kept.refl (r : Nat) (w : World) : Kept r w w := ⟨rfl, rfl, rfl, Nat.le_refl _, fun _ _ _ => rfl, fun _ => rfl⟩
theorem Kept.trans {r : Nat} {a b c : World} (h : Kept r a b) (k : Kept r b c) : Kept r a c :=
  ⟨k.os.trans h.os, k.tape.trans h.tape, k.output.trans h.output, Nat.le_trans h.size k.size, fun i hi hr => (k.block i (Nat.lt_of_lt_of_le hi h.size) hr).trans (h.block i hi hr), fun hr => (k.head (Nat.lt_of_lt_of_le hr h.size)).trans (h.head hr)⟩
theorem Kept.of_below {r : Nat} {w w' : World} (h : Below w.heap.size w w') : Kept r w w' := ⟨h.os, h.tape, h.output, h.size, fun k hk _ => h.block k hk, fun hr => h.cell hr⟩
theorem Kept.below {r B : Nat} {w w' : World} (h : Kept r w w') (hB : B ≤ r) (hs : B ≤ w.heap.size) : Below B w w' :=
  ⟨h.os, h.tape, h.output, h.size, fun k hk => h.block k (Nat.lt_of_lt_of_le hk hs) (by omega)⟩
theorem Kept.drewN {r : Nat} {a w : World} (h : Kept r a w) (n : Nat) : Kept r a (w.drewN n) := ⟨h.os, h.tape, h.output, h.size, h.block, h.head⟩
theorem Kept.mark (r : Nat) (w : World) (u : Value) : Kept r w (w.setCell ⟨r, 1, none⟩ u) :=
  ⟨rfl, rfl, rfl, by simp, fun k hk hr => Below.heap_setCell w ⟨r, 1, none⟩ u k hr, fun _ => by rw [World.cell?_setCell_other _ _ _ _ (by simp)]⟩
theorem Kept.cell {r : Nat} {w w' : World} (h : Kept r w w') {p : Addr} (hp : p.block < w.heap.size) (hr : p.block ≠ r) : w'.cell? p = w.cell? p := World.cell?_of_block (w := w) (h.block p.block hp hr)
/-- Block r holds a reader: its code (at most 2000 bytes) lies elsewhere, it has picked k times. -/
def Rd (w : World) (r k : Nat) : Prop := r < w.heap.size ∧ ∃ (a : Option Addr) (len cap : Nat), w.cell? ⟨r, 0, none⟩ = some (.slice a len cap) ∧ w.cell? ⟨r, 1, none⟩ = some (.int .i64 k) ∧
  w.frozen? ⟨r, 1, none⟩ = false ∧ len ≤ 2000 ∧ (len = 0 ∨ ∃ b off, a = some ⟨b, off, none⟩ ∧ b ≠ r ∧ b < w.heap.size ∧ ∀ i, i < len → ∃ z : Int, 0 ≤ z ∧ z ≤ 255 ∧ w.cell? ⟨b, off + i, none⟩ = some (.int .u8 z))
theorem Rd.below {w w' : World} {r k : Nat} (h : Rd w r k) (hb : Below w.heap.size w w') : Rd w' r k := by
  obtain ⟨hr, a, len, cap, c0, c1, f1, hl, hc⟩ := h
  refine ⟨Nat.lt_of_lt_of_le hr hb.size, a, len, cap, by rw [hb.cell (p := ⟨r, 0, none⟩) hr]; exact c0, by rw [hb.cell (p := ⟨r, 1, none⟩) hr]; exact c1, by rw [hb.frozen (p := ⟨r, 1, none⟩) hr]; exact f1, hl, ?_⟩
  rcases hc with h0 | ⟨b, off, ha, hbr, hbs, hz⟩
  · exact .inl h0
  · refine .inr ⟨b, off, ha, hbr, Nat.lt_of_lt_of_le hbs hb.size, fun i hi => ?_⟩
    obtain ⟨z, z0, z1, zc⟩ := hz i hi
    exact ⟨z, z0, z1, by rw [hb.cell (p := ⟨b, off + i, none⟩) hbs]; exact zc⟩
theorem Rd.next {w w' : World} {r k : Nat} (h : Rd w r k) (hw : w' = w.setCell ⟨r, 1, none⟩ (.int .i64 ((k : Int) + 1)) ∨ ∃ n, w' = (w.setCell ⟨r, 1, none⟩ (.int .i64 ((k : Int) + 1))).drewN n) : Rd w' r (k + 1) := by
  obtain ⟨hr, a, len, cap, c0, c1, f1, hl, hc⟩ := h
  have key : Rd (w.setCell ⟨r, 1, none⟩ (.int .i64 ((k : Int) + 1))) r (k + 1) := by
    refine ⟨by simpa using hr, a, len, cap, ?_, ?_, ?_, hl, ?_⟩
    · rw [World.cell?_setCell_other _ _ _ _ (by simp)]; exact c0
    · rw [World.cell?_setCell_same _ _ _ (by rw [c1])]; simp
    · simpa using f1
    · rcases hc with h0 | ⟨b, off, ha, hbr, hbs, hz⟩
      · exact .inl h0
      · refine .inr ⟨b, off, ha, hbr, by simpa using hbs, fun i hi => ?_⟩
        obtain ⟨z, z0, z1, zc⟩ := hz i hi
        exact ⟨z, z0, z1, by rw [World.cell?_setCell_other _ _ _ _ (by simp)]; exact zc⟩
  rcases hw with rfl | ⟨n, rfl⟩
  · exact key
  · exact key
theorem xor_nonneg (a b : Int) (ha : 0 ≤ a) (ha2 : a < 4611686018427387904) (hb : 0 ≤ b) (hb2 : b < 4611686018427387904) : 0 ≤ bits .xor .i64 a b := by
  obtain ⟨A, rfl⟩ := Int.eq_ofNat_of_zero_le ha
  obtain ⟨B, rfl⟩ := Int.eq_ofNat_of_zero_le hb
  have e : bits .xor .i64 (A : Int) (B : Int) = IntKind.i64.wrap (((BitVec.ofInt 64 (A : Int)) ^^^ (BitVec.ofInt 64 (B : Int))).toNat : Int) := rfl
  have hx : A ^^^ B < 2 ^ 62 := Nat.xor_lt_two_pow (by omega) (by omega)
  rw [e, BitVec.ofInt_natCast, BitVec.ofInt_natCast, BitVec.toNat_xor, BitVec.toNat_ofNat, BitVec.toNat_ofNat, Nat.mod_eq_of_lt (by omega), Nat.mod_eq_of_lt (by omega), IntKind.wrap_i64]
  omega
theorem mix_nonneg (z y : Int) (k len : Nat) (hk : k ≤ 1099511627776) (h1 : 0 < len) (hz0 : 0 ≤ z) (hz1 : z ≤ 255) (hy0 : 0 ≤ y) (hy1 : y ≤ 255) :
    0 ≤ bits BinOp.xor IntKind.i64 (wrap64 (z * 131 + y * 1117 + (k : Int) * 29 + wrap64 (wrap64 ((k : Int) / (len : Int)) * 53))) (wrap64 ((wrap64 (z * 131 + y * 1117 + (k : Int) * 29 + wrap64 (wrap64 ((k : Int) / (len : Int)) * 53))).tdiv 64)) := by
  have q0 : 0 ≤ (k : Int) / (len : Int) := Int.ediv_nonneg (by omega) (by omega)
  have q1 : (k : Int) / (len : Int) ≤ k := Int.ediv_le_self _ (by omega)
  generalize (k : Int) / (len : Int) = q at *
  rw [w64_id (v := q) (by omega) (by omega), w64_id (v := q * 53) (by omega) (by omega)]
  generalize hX : z * 131 + y * 1117 + (k : Int) * 29 + q * 53 = X at *
  have x0 : 0 ≤ X := by omega
  have x1 : X ≤ 100000000000000 := by omega
  rw [w64_id (v := X) (by omega) (by omega)]
  rw [Int.tdiv_eq_ediv_of_nonneg x0]
  have y0 : 0 ≤ X / 64 := by omega
  have y1 : X / 64 ≤ X := by omega
  rw [w64_id (v := X / 64) (by omega) (by omega)]
  exact xor_nonneg _ _ x0 (by omega) y0 (by omega)
theorem pick_in (w : World) (r b off len cap k : Nat) (n : Int) (z : Int) (hn : 1 ≤ n) (hn2 : n ≤ 65536) (hk : k ≤ 1099511627776) (hlen : len ≤ 2000) (hkl : k < len)
   (c0 : w.cell? ⟨r, 0, none⟩ = some (.slice (some ⟨b, off, none⟩) len cap)) (c1 : w.cell? ⟨r, 1, none⟩ = some (.int .i64 k)) (f1 : w.frozen? ⟨r, 1, none⟩ = false)
   (hbr : b ≠ r) (hz : w.cell? ⟨b, off + k, none⟩ = some (.int .u8 z)) (hz0 : 0 ≤ z) (hz1 : z ≤ 255) :
    Calls Tryd.prog 109 #[.pointer (some ⟨r, 0, none⟩), .int .i64 n] w fun e w' => e = .returned (.int .i64 (z % n)) ∧ w' = w.setCell ⟨r, 1, none⟩ (.int .i64 (k + 1)) := by
  have hl0 : ((len : Int) == 0) = false := by simp; omega
  have hn0 : ¬ n < 1 := by omega
  go_enter Tryd.func109, Tryd.ntmps109
  go_wp2
  go_ret
  exact ⟨rfl, rfl⟩
theorem pick_none (w : World) (r k cap : Nat) (a : Option Addr) (n : Int) (hn : 1 ≤ n) (hk : k ≤ 1099511627776)
   (c0 : w.cell? ⟨r, 0, none⟩ = some (.slice a 0 cap)) (c1 : w.cell? ⟨r, 1, none⟩ = some (.int .i64 k)) (f1 : w.frozen? ⟨r, 1, none⟩ = false) :
    Calls Tryd.prog 109 #[.pointer (some ⟨r, 0, none⟩), .int .i64 n] w fun e w' => e = .returned (.int .i64 0) ∧ w' = w.setCell ⟨r, 1, none⟩ (.int .i64 (k + 1)) := by
  have hn0 : ¬ n < 1 := by omega
  go_enter Tryd.func109, Tryd.ntmps109
  go_wp2
  go_ret
  exact ⟨rfl, rfl⟩
theorem pick_mix (w : World) (r b off len cap k i j : Nat) (n : Int) (z y : Int) (hn : 1 ≤ n) (hn2 : n ≤ 65536) (hk : k ≤ 1099511627776) (hlen : len ≤ 2000) (hkl : len ≤ k) (h1 : 0 < len)
   (c0 : w.cell? ⟨r, 0, none⟩ = some (.slice (some ⟨b, off, none⟩) len cap)) (c1 : w.cell? ⟨r, 1, none⟩ = some (.int .i64 k)) (f1 : w.frozen? ⟨r, 1, none⟩ = false)
   (hbr : b ≠ r) (hi : i = k % len) (hj : j = (k * 7 + 3) % len) (hz : w.cell? ⟨b, off + i, none⟩ = some (.int .u8 z)) (hz0 : 0 ≤ z) (hz1 : z ≤ 255)
   (hy : w.cell? ⟨b, off + j, none⟩ = some (.int .u8 y)) (hy0 : 0 ≤ y) (hy1 : y ≤ 255) :
    Calls Tryd.prog 109 #[.pointer (some ⟨r, 0, none⟩), .int .i64 n] w fun e w' => ∃ v : Int, e = .returned (.int .i64 v) ∧ 0 ≤ v ∧ v < n ∧ ∃ m, w' = (w.setCell ⟨r, 1, none⟩ (.int .i64 (k + 1))).drewN m := by
  have hl0 : ((len : Int) == 0) = false := by simp; omega
  have hn0 : ¬ n < 1 := by omega
  have hil : i < len := by rw [hi]; exact Nat.mod_lt _ h1
  have hjl : j < len := by rw [hj]; exact Nat.mod_lt _ h1
  have ei : (k : Int) % (len : Int) = (i : Int) := by rw [hi]; simp
  have ej : ((k : Int) * 7 + 3) % (len : Int) = (j : Int) := by rw [hj]; simp
  clear hi hj
  have HM := hide (mix_nonneg z y k len hk h1 hz0 hz1 hy0 hy1)
  go_enter Tryd.func109, Tryd.ntmps109
  go_wp2
  go_quiet (fail)
  go_wp2
  go_ret
  exact ⟨_, rfl, Int.tmod_nonneg _ HM.out, Int.tmod_lt_of_pos _ (by omega), _, rfl⟩
/-- A PICK: a number from 0 to n-1; the reader has picked once more; nothing else has turned. -/
theorem pick_any (w : World) (r k : Nat) (n : Int) (h : Rd w r k) (hk : k ≤ 1099511627776) (hn : 1 ≤ n) (hn2 : n ≤ 65536) :
    Calls Tryd.prog 109 #[.pointer (some ⟨r, 0, none⟩), .int .i64 n] w fun e w' => ∃ v : Int, e = .returned (.int .i64 v) ∧ 0 ≤ v ∧ v < n ∧ Rd w' r (k + 1) ∧ Kept r w w' := by
  have h' := h
  obtain ⟨hr, a, len, cap, c0, c1, f1, hl, hc⟩ := h
  rcases hc with rfl | ⟨b, off, rfl, hbr, hbs, hz⟩
  · refine (pick_none w r k cap a n hn hk c0 c1 f1).mono ?_
    rintro e w' ⟨rfl, rfl⟩
    exact ⟨0, rfl, by omega, by omega, h'.next (.inl rfl), Kept.mark _ _ _⟩
  by_cases h0 : len = 0
  · subst h0
    refine (pick_none w r k cap _ n hn hk c0 c1 f1).mono ?_
    rintro e w' ⟨rfl, rfl⟩
    exact ⟨0, rfl, by omega, by omega, h'.next (.inl rfl), Kept.mark _ _ _⟩
  by_cases hkl : k < len
  · obtain ⟨z, z0, z1, zc⟩ := hz k hkl
    refine (pick_in w r b off len cap k n z hn hn2 hk hl hkl c0 c1 f1 hbr zc z0 z1).mono ?_
    rintro e w' ⟨rfl, rfl⟩
    exact ⟨_, rfl, Int.emod_nonneg _ (by omega), Int.emod_lt_of_pos _ (by omega), h'.next (.inl rfl), Kept.mark _ _ _⟩
  · obtain ⟨z, z0, z1, zc⟩ := hz (k % len) (Nat.mod_lt _ (by omega))
    obtain ⟨y, y0, y1, yc⟩ := hz ((k * 7 + 3) % len) (Nat.mod_lt _ (by omega))
    refine (pick_mix w r b off len cap k _ _ n z y hn hn2 hk hl (by omega) (by omega) c0 c1 f1 hbr rfl rfl zc z0 z1 yc y0 y1).mono ?_
    rintro e w' ⟨v, rfl, v0, v1, m, rfl⟩
    exact ⟨v, rfl, v0, v1, h'.next (.inr ⟨m, rfl⟩), (Kept.mark _ _ _).drewN _⟩
end Go.Proofs.YthbbgkpkijlclaaDoor.num
