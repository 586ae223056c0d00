/-
  Steps that are drawn.
-/
import Derived.Test.YtjjglklbfigmiaaDoorSq8
import Derived.Test.YtjjglklbfigmiaaDoorSk
namespace Go.Proofs.YtjjglklbfigmiaaDoor.num
open Go.ChangeShapes Go.WideShapes Go.ChangeAt Go.RowKit
set_option linter.unusedVariables false


theorem Rk.grown {w0 w w' : World} {r B : Nat} {row : Option Nat} (h : Rk w0 r B w) (hg : w.grownBy w' row) (hr : ∀ g, row = some g → w0.heap.size ≤ g) : Rk w0 r B w' := by
  obtain ⟨h00, k, hk, ⟨h1, a, len, cap, c0, c1, f1, hl, hc⟩, hkp⟩ := h
  have h01 := h00
  obtain ⟨k0, hr0, a0, len0, cap0, c00, -, -, -, hc00⟩ := h00
  have hsame := (hkp.head hr0).symm.trans c0
  rw [c00] at hsame
  injection hsame with hsame
  injection hsame with e1 e2 e3
  subst e1 e2 e3
  have hb : ∀ b, b < w0.heap.size → w'.heap[b]? = w.heap[b]? := fun b hb0 => hg.block b (Nat.lt_of_lt_of_le hb0 hkp.size) (fun e => by have := hr b e.symm; omega)
  have hcell : ∀ b o, b < w0.heap.size → w'.cell? ⟨b, o, none⟩ = w.cell? ⟨b, o, none⟩ := fun b o hb0 => World.cell?_of_block (w := w) (w' := w') (a := ⟨b, o, none⟩) (hb b hb0)
  refine ⟨h01, k, hk, ⟨Nat.lt_of_lt_of_le h1 hg.size, a0, len0, cap0, by rw [hcell r 0 hr0]; exact c0, by rw [hcell r 1 hr0]; exact c1, by rw [World.frozen?_of_block (w := w) (w' := w') (a := ⟨r, 1, none⟩) (hb r hr0)]; exact f1, hl, ?_⟩,
    ⟨hg.os.trans hkp.os, hg.tape.trans hkp.tape, hg.output.trans hkp.output, Nat.le_trans hkp.size hg.size, fun i hi hir => (hb i hi).trans (hkp.block i hi hir), fun hq => (hcell r 0 hq).trans (hkp.head hq)⟩⟩
  rcases hc with h' | ⟨bc, off, ha, hbr, hbs, hz⟩
  · exact .inl h'
  · rcases hc00 with h' | ⟨bc0, off0, ha0, hbr0, hbs0, hz0⟩
    · exact .inl h'
    · rw [ha0] at ha
      injection ha with ha
      injection ha with e1 e2 e3
      subst e1 e2
      refine .inr ⟨bc0, off0, ha0, hbr, Nat.lt_of_lt_of_le hbs hg.size, fun i hi => ?_⟩
      obtain ⟨z, z0, z1, zc⟩ := hz i hi
      exact ⟨z, z0, z1, by rw [hcell bc0 _ hbs0]; exact zc⟩
theorem row_rk {W w' : World} {r B base n size : Nat} {e : TypeId} {v : Value} {xs : List Value} (h : Rk W r B w') (hr : r < base) (F : W.ownsRow base e size v n xs) : w'.ownsRow base e size v n xs := by
  obtain ⟨-, k, hk, hd, hkp⟩ := h
  exact rws.row_below F (fun g hg => hkp.block g (rws.row_lt F g hg).2 (by have := (rws.row_lt F g hg).1; omega))
set_option maxRecDepth 100000 in
set_option maxHeartbeats 4000000 in
theorem l8Steps_rk (w0 w : World) (r B : Nat) (h : Rk w0 r B w) (hk : B ≤ 500000000000) :
    Calls Tryd.prog 101 #[.pointer (some ⟨r, 0, none⟩)] w fun e w' => (∃ (v : Value) (l : List Int), e = .returned v ∧ l.length ≤ 5 ∧ (∀ x ∈ l, I64 x) ∧ w'.ownsRow w.heap.size 3 1 v l.length (l.map (Value.int .i64))) ∧ Rk w0 r (B + 50) w' := by
  obtain ⟨i0, hi, hz0, hz1, hz2⟩ := info_parts infoI
  have hup : ∀ {n w'}, Rk w r n w' → Rk w0 r n w' := fun k => h.trans k
  have h := h.here
  have hB : Below w.heap.size w (w.alloc (.cells #[] 3)) := (Below.refl _ _).alloc (Nat.le_refl _) _
  have F : (w.alloc (.cells #[] 3)).ownsRow w.heap.size 3 1 (.slice (some ⟨w.heap.size, 0, none⟩) 0 0) 0 [] := ⟨rfl, .inr ⟨w.heap.size, 0, #[], rfl, Nat.le_refl _, rws.at_new _ _, by simp, by unfold maxLen; omega, rfl, by simp⟩⟩
  replace h := h.call hB
  go_enter Tryd.func101, Tryd.ntmps101
  go_wp2_with fail
  generalize w.alloc (.cells #[] 3) = W at *
  have hrw : r < w.heap.size := by
    obtain ⟨⟨k0, hr0⟩, -⟩ := h
    exact hr0.1
  refine (pick_rk _ _ _ _ _ h.here (by omega) (by omega) (by omega)).mono ?_
  rintro e w1 ⟨v, rfl, v0, v1, h1⟩
  have F1 := row_rk h1 hrw F
  have h2 := h.trans h1
  clear F h hB h1
  obtain ⟨j0, rfl⟩ := Int.eq_ofNat_of_zero_le v0
  go_wp2_with fail
  go_loopw [3, 4] (fun ov kv wr => ∃ (l : List Int) (j : Nat), l.length + j ≤ 5 ∧ kv = .int .i64 j ∧ (∀ x ∈ l, I64 x) ∧ Hid (wr.ownsRow w.heap.size 3 1 ov l.length (l.map (Value.int .i64))) ∧ Hid (Rk w r (B + 1 + 7 * l.length) wr)) (fun _ kv _ => (intOf kv).toNat)
  case atStart => exact ⟨[], j0, by simp; omega, rfl, by simp, hide F1, hide h2⟩
  case round =>
    obtain ⟨l, j, hj, rfl, hx, HR, HK⟩ := hrel
    by_cases hlt : 0 < j
    · go_wp2_with fail
      refine (wild_rk _ _ _ _ (unhide HK).here (by omega)).mono ?_
      rintro e wx ⟨v, rfl, v0, v1, hw⟩
      have FR := row_rk hw hrw (unhide HR)
      have hk2 := (unhide HK).trans hw
      have hsz := hk2.size
      clear hw
      have hlb := fun g hg => (rws.row_lt FR g hg).1
      go_wp2_with (first
        | (at_builtin; refine wpList_append_own_at _ rfl _ _ 33 rfl w.heap.size 3 i0 (.int .i64 0) 1 8 Tryd.underlying33 hi hz0 hz1 hz2 rfl (by decide) _ _ _ rfl (rws.row_below FR (fun g hg => Below.heap_alloc _ _ _ (rws.row_lt FR g hg).2)) ⟨wx.heap.size, 0, none⟩ 1 1 [.int .i64 v] rfl rfl (cell_one_new _ _ _) (ints_oneCell .i64 [v]) (by unfold maxLen; omega) (by omega) (by simp; omega) ?_; intro v' w2 hown' hgrow hnil hloc)
        | go_in)
      have hall := (World.grownBy_alloc wx _ _).trans hgrow
      have hk3 := hk2.grown hall (fun g hg => hlb g hg)
      go_roundw
      case rel =>
        refine ⟨l ++ [v], j - 1, by simp; omega, by go_num, ?_, hide (by simpa using hown'), hide (hk3.more (by simp; omega))⟩
        intro x hxx
        rcases List.mem_append.1 hxx with h' | h'
        · exact hx x h'
        · have : x = v := by simpa using h'
          subst this
          exact ⟨v0, v1⟩
      case measure => simp [intOf]; omega
    · obtain rfl : j = 0 := by omega
      go_wp2
      go_ret
      exact ⟨⟨_, l, rfl, by omega, hx, unhide HR⟩, hup ((unhide HK).more (by omega))⟩
end Go.Proofs.YtjjglklbfigmiaaDoor.num
