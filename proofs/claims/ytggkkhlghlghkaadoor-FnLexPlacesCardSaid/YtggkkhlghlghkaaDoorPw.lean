/-
  The law on places, walked.
-/
import Derived.Test.YtggkkhlghlghkaaDoorPl
import Derived.Test.YtggkkhlghlghkaaDoorDr
import Derived.Test.YtggkkhlghlghkaaDoorLt
import Derived.Deep.QuietTactic
namespace Go.Proofs.YtggkkhlghlghkaaDoor.lex
open Go.RowKit Go.Proofs.YtggkkhlghlghkaaDoor.num
set_option linter.unusedVariables false

theorem placed_at (s : ByteArray) (e : Nat) (l : List Tok) (j : Nat) (t : Tok) (h : Placed s e (l.drop j)) (ht : l[j]? = some t) : ∃ p, e ≤ p ∧ Stands s p t ∧ Placed s (p + t.text.size) (l.drop (j + 1)) := by
  have hl : j < l.length := (List.getElem?_eq_some_iff.1 ht).1
  have e1 : l.drop j = l[j] :: l.drop (j + 1) := List.drop_eq_getElem_cons hl
  have e2 : l[j] = t := by
    rw [List.getElem?_eq_getElem hl] at ht
    exact Option.some.inj ht
  rw [e1, e2] at h
  exact h

theorem f4' {w : World} {b : Nat} {a0 a1 a2 a3 : Value} {t : TypeId} (h : w.heap[b]? = some (.cells #[a0, a1, a2, a3] t)) :
    w.cell? ⟨b, 0, none⟩ = some a0 ∧ w.cell? ⟨b, 1, none⟩ = some a1 ∧ w.cell? ⟨b, 2, none⟩ = some a2 ∧ w.cell? ⟨b, 3, none⟩ = some a3 ∧ True ∧ True ∧ True ∧ True :=
  ⟨cell_of h rfl, cell_of h rfl, cell_of h rfl, cell_of h rfl, trivial, trivial, trivial, trivial⟩

/-- A world in which all that lay in W lies as it lay. -/
structure Over (W : World) where
  w : World
  below : Below W.heap.size W w
instance (W : World) : Inhabited (Over W) := ⟨⟨W, Below.refl _ _⟩⟩
theorem Over.cell {W : World} (p : Over W) {b i : Nat} {v : Value} (hb : b < W.heap.size) (h : W.cell? ⟨b, i, none⟩ = some v) : p.w.cell? ⟨b, i, none⟩ = some v := by
  rw [p.below.cell (by exact hb)]; exact h
theorem Over.back {W : World} {n : Nat} (p : Over (W.drewN n)) : Below W.heap.size W p.w := (below_drewN (Below.refl _ W) n).trans (by exact p.below)
theorem Over.cellN {W : World} {n : Nat} (p : Over (W.drewN n)) {b i : Nat} {v : Value} (hb : b < W.heap.size) (h : W.cell? ⟨b, i, none⟩ = some v) : p.w.cell? ⟨b, i, none⟩ = some v := by
  rw [p.back.cell (by exact hb)]; exact h
/-- A region that draws its order, whose operations only read and whose callees lay new blocks alone. -/
theorem wp_region_over {P : Program} {id : Nat} {Q : Exit → Act → World → Prop} {a : Act} {w : World} {l : List Oper} (hm : P.follows .mixedOrders = true) (hB : Region.lexB .any l.toArray = true)
    (h : wpQuiet P l.toArray (fun w' => ∃ p : Over w, w' = p.w) (fun a' => ∀ w', (∃ p : Over w, w' = p.w) → Q .normal a' w') l a) : (Code.region id l.toArray true).wp P Q a w :=
  wp_region_quiet (C := fun w' => ∃ p : Over w, w' = p.w) hm hB ⟨⟨_, below_drewN (Below.refl _ _) 1⟩, rfl⟩ (by simpa using h)

set_option maxHeartbeats 16000000 in
set_option maxRecDepth 100000 in
theorem places_walk (a : Option Addr) (len cap : Nat) (z : List Int) (w : World) (hz : IsRow .u8 w a len cap z) (h : Sg w) :
    Calls Tryd.prog 4 #[.slice a len cap] w fun e w' => e = .returned (.bool true) ∧ Below w.heap.size w w' := by
  obtain ⟨hc8, hl, hm⟩ := code_of_row hz
  have HC := hide hc8
  clear hc8 hz
  by_cases hlen : 1048576 < len
  · go_enter Tryd.func4, Tryd.ntmps4
    go_wp2
    go_ret
    exact ⟨rfl, Below.refl _ _⟩
  have H := hide h
  clear h
  go_enter Tryd.func4, Tryd.ntmps4
  go_wp2_with fail
  refine (draw.drawText_any w a len cap (unhide HC) hl hm).mono ?_
  rintro e w1 ⟨s, rfl, hs, hb⟩
  have S1 := hide ((unhide H).below hb (unhide H).size)
  have B1 := hide hb
  clear H hb HC
  have hI0 := fun w hg => implLex_any s w (by omega) hg
  have hS := fun w => specLex_any s w (by omega)
  have hfew := lexAll_few s
  have hpl := hide (lexAll_placed s)
  generalize lexAll s = R at *
  obtain ⟨l, c, p⟩ := R
  have hI : ∀ w, Sg w → Calls Tryd.prog 10 #[.string s] w fun e w' => ∃ v, e = .returned (.tuple #[v, .agg #[.int .i64 c, .int .i64 p]]) ∧ w'.ownsRow w.heap.size 32 4 v l.length (rowOf l) ∧ Below w.heap.size w w' := hI0
  clear hI0
  simp only at hS hfew hpl
  go_wp2_with fail
  refine (hI _ (unhide S1)).mono ?_
  rintro e w2 ⟨v1, rfl, hr1, hb⟩
  have S2 := hide ((unhide S1).below hb (unhide S1).size)
  have B2 := hide ((unhide B1).trans (hb.mono (unhide B1).size))
  have R2 := hide hr1
  clear hr1 hb S1 B1
  go_wp2_with fail
  refine (hS _).mono ?_
  rintro e w3 ⟨v0, rfl, hr0, hb⟩
  have b2 : Below w2.heap.size w2 (w2.alloc (.cells #[.int .i64 c, .int .i64 p] 26)) := (Below.refl _ w2).alloc (Nat.le_refl _) _
  have b3 : Below w2.heap.size w2 w3 := b2.trans (hb.mono (by simp))
  have S3 := hide ((unhide S2).below b3 (unhide S2).size)
  have B3 := hide ((unhide B2).trans (b3.mono (unhide B2).size))
  have R3 := hide (row_below (unhide R2) b3)
  have c0 : ∀ o, (w3.alloc o).cell? ⟨w2.heap.size, 0, none⟩ = some (.int .i64 c) := fun o => (f2 (at_alloc (at_below hb (one_first _ _) (by simp)))).1
  have c1 : ∀ o, (w3.alloc o).cell? ⟨w2.heap.size, 1, none⟩ = some (.int .i64 p) := fun o => (f2 (at_alloc (at_below hb (one_first _ _) (by simp)))).2
  obtain ⟨a0, q0, rfl⟩ := row_slice hr0
  obtain ⟨a1, q1, rfl⟩ := row_slice (unhide R3)
  clear hr0 hb S2 B2 R2 b2 b3
  go_wp2
  clear c0 c1 hI hS
  have S4 := hide ((unhide S3).below ((Below.refl _ w3).alloc (Nat.le_refl _) (.cells #[.int .i64 c, .int .i64 p] 26)) (unhide S3).size)
  have R4 := hide ((unhide R3).alloc (.cells #[.int .i64 c, .int .i64 p] 26))
  have B4 := hide ((unhide B3).alloc (unhide B3).size (.cells #[.int .i64 c, .int .i64 p] 26))
  clear S3 R3 B3
  go_loopw [8, 9] (fun en i wr => ∃ j e : Nat, j ≤ l.length ∧ i = .int .i64 j ∧ en = .int .i64 e ∧ Hid (Placed s e (l.drop j)) ∧ Hid (Sg wr) ∧ Hid (wr.ownsRow w1.heap.size 32 4 (.slice a1 l.length q1) l.length (rowOf l)) ∧ Hid (Below w.heap.size w wr)) (fun _ i _ => l.length - (intOf i).toNat)
  case atStart => exact ⟨0, 0, by omega, rfl, rfl, hide (by simpa using unhide hpl), S4, R4, B4⟩
  case round =>
    obtain ⟨j, e, hj, rfl, rfl, HP, HS, HR, HB⟩ := hrel
    by_cases hlt : j < l.length
    · obtain ⟨t, ht⟩ : ∃ t, l[j]? = some t := ⟨_, List.getElem?_eq_getElem hlt⟩
      obtain ⟨g, cap1, hv, _, hc1, hg1, r1⟩ := row_read (unhide HR) (by omega)
      obtain ⟨rfl, rfl⟩ : a1 = some ⟨g, 0, none⟩ ∧ q1 = cap1 := by cases hv; exact ⟨rfl, rfl⟩
      obtain ⟨c0, c1, c2, c3⟩ := r1 j t ht
      obtain ⟨p0, hp0, hst, hnx⟩ := placed_at s e l j t (unhide HP) ht
      obtain ⟨tk, tp, tx, tn⟩ := t
      obtain ⟨e1, e2, e3, e4, e5, e6⟩ := hst
      simp only at e1 e2 e3 e4 e5 e6 c0 c1 c2 c3 hnx
      subst e1
      have HN := hide hnx
      have H4 := hide e4
      have H5 := hide e5
      have H6 := hide e6
      clear hnx hv r1 ht HP e5 e6
      have g0 : decide (p0 < e) = false := decide_eq_false (by omega)
      have gw : IntKind.i64.wrap ((p0 : Int) + (tx.size : Int)) = (p0 : Int) + (tx.size : Int) := IntWalk.i64_in _ ⟨by omega, by omega⟩
      have g1' : decide (s.size < p0 + tx.size) = false := decide_eq_false (by omega)
      have g2' : decide (tx.size = 0) = false := decide_eq_false (by omega)
      have g1 : decide ((s.size : Int) < (p0 : Int) + (tx.size : Int)) = false := decide_eq_false (by omega)
      have g2 : ((tx.size : Int) == 0) = false := by rw [beq_eq_false_iff_ne]; omega
      go_wp2
      go_quiet (fail)
      clear g0 gw g1 g1' g2 g2' e4 c0 c1 c2 c3
      have HW : ∀ w, Calls Tryd.prog 15 #[.string tx] w fun e w' => e = .returned (.bool (decide (tk = 3))) ∧ Below w.heap.size w w' := fun w => by
        have := implWord_any tx w (by unfold maxLen; omega)
        rwa [unhide H6] at this
      have S5 := hide ((unhide HS).below ((Below.refl _ wr).alloc (Nat.le_refl _) (.cells #[.int .i64 tk, .int .i64 p0, .string tx, .int .i64 tn] 32)) (unhide HS).size)
      have B5 := hide ((unhide HB).alloc (unhide HB).size (.cells #[.int .i64 tk, .int .i64 p0, .string tx, .int .i64 tn] 32))
      have R5 := hide ((unhide HR).alloc (.cells #[.int .i64 tk, .int .i64 p0, .string tx, .int .i64 tn] 32))
      have q5 := hide (one_first wr (.cells #[.int .i64 tk, .int .i64 p0, .string tx, .int .i64 tn] 32))
      have z5 : Hid (wr.heap.size < (wr.alloc (.cells #[.int .i64 tk, .int .i64 p0, .string tx, .int .i64 tn] 32)).heap.size) := hide (by simp)
      obtain ⟨d0, d1, d2, d3, -, -, -, -⟩ := f4' (unhide q5)
      have z6 := unhide z5
      generalize hW : wr.alloc (.cells #[.int .i64 tk, .int .i64 p0, .string tx, .int .i64 tn] 32) = W at *
      have k0 : ∀ n (p : Over (W.drewN n)), p.w.cell? ⟨wr.heap.size, 0, none⟩ = some (.int .i64 tk) := fun n p => p.cellN z6 d0
      have k1 : ∀ n (p : Over (W.drewN n)), p.w.cell? ⟨wr.heap.size, 1, none⟩ = some (.int .i64 p0) := fun n p => p.cellN z6 d1
      have k2 : ∀ n (p : Over (W.drewN n)), p.w.cell? ⟨wr.heap.size, 2, none⟩ = some (.string tx) := fun n p => p.cellN z6 d2
      clear z6 z5 q5 d0 d1 d2 d3
      by_cases h4 : tk = 4
      · subst h4
        have HS4 : ∀ w, Sg w → Calls Tryd.prog 14 #[.string s, .int .i64 (p0 : Int)] w fun e w' => e = .returned (.string tx) ∧ w' = w := fun w hg => by
          have := implSign_any s p0 w (by omega) hg
          rwa [unhide H5 rfl] at this
        have k3 : decide ((4 : Int) = 3) = false := rfl
        rw [k3] at HW
        go_wp2
        refine wp_region_over (by kernel_rfl) (by kernel_rfl) ?_
        repeat (quiet_step (first | (go_at_call 14; rename_i p; refine (HS4 _ ((unhide S5).below p.back (unhide S5).size)).mono ?_; rintro e' w' ⟨rfl, rfl⟩; exact ⟨rfl, p, rfl⟩) | (go_at_call 15; rename_i p; refine (HW _).mono ?_; rintro e' wx ⟨rfl, hb1⟩; exact ⟨rfl, ⟨wx, p.below.trans (hb1.mono p.below.size)⟩, rfl⟩)))
        refine wpQuiet_nil ?_
        rintro _ ⟨p, rfl⟩
        go_wp2
        go_roundw
        case rel => exact ⟨j + 1, p0 + tx.size, by omega, by go_num, by go_num, HN, hide ((unhide S5).below p.back (unhide S5).size), hide (row_below (unhide R5) p.back), hide ((unhide B5).trans (p.back.mono (unhide B5).size))⟩
        case measure => simp [intOf]; omega
      · have h4' : (tk == 4) = false := by simpa using h4
        have h4'' : decide (tk = 4) = false := decide_eq_false h4
        by_cases h3 : tk = 3
        · subst h3
          have k3 : decide ((3 : Int) = 3) = true := rfl
          rw [k3] at HW
          go_wp2
          refine wp_region_over (by kernel_rfl) (by kernel_rfl) ?_
          repeat (quiet_step ((go_at_call 15; rename_i p; refine (HW _).mono ?_; rintro e' wx ⟨rfl, hb1⟩; exact ⟨rfl, ⟨wx, p.below.trans (hb1.mono p.below.size)⟩, rfl⟩)))
          refine wpQuiet_nil ?_
          rintro _ ⟨p, rfl⟩
          go_wp2
          go_roundw
          case rel => exact ⟨j + 1, p0 + tx.size, by omega, by go_num, by go_num, HN, hide ((unhide S5).below p.back (unhide S5).size), hide (row_below (unhide R5) p.back), hide ((unhide B5).trans (p.back.mono (unhide B5).size))⟩
          case measure => simp [intOf]; omega
        · have h3' : (tk == 3) = false := by simpa using h3
          have h3'' : decide (tk = 3) = false := decide_eq_false h3
          rw [h3''] at HW
          go_wp2
          refine wp_region_over (by kernel_rfl) (by kernel_rfl) ?_
          repeat (quiet_step ((go_at_call 15; rename_i p; refine (HW _).mono ?_; rintro e' wx ⟨rfl, hb1⟩; exact ⟨rfl, ⟨wx, p.below.trans (hb1.mono p.below.size)⟩, rfl⟩)))
          refine wpQuiet_nil ?_
          rintro _ ⟨p, rfl⟩
          go_wp2
          go_roundw
          case rel => exact ⟨j + 1, p0 + tx.size, by omega, by go_num, by go_num, HN, hide ((unhide S5).below p.back (unhide S5).size), hide (row_below (unhide R5) p.back), hide ((unhide B5).trans (p.back.mono (unhide B5).size))⟩
          case measure => simp [intOf]; omega
    · obtain rfl : j = l.length := by omega
      go_wp2
      go_ret
      exact ⟨rfl, unhide HB⟩
end Go.Proofs.YtggkkhlghlghkaaDoor.lex
