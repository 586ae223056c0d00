/-
  The program's tables of operators and comparisons.
  The program's table of operators.
-/
import Derived.Test.YtjikjejfobnfnaaGreatDoorC17
import Derived.Laws.RangeAny
namespace Go.Proofs.YtjikjejfobnfnaaGreatDoor.imp
open Go.RowKit Go.Proofs.YtjikjejfobnfnaaGreatDoor.num Go.Proofs.YtjikjejfobnfnaaGreatDoor.lex Go.Proofs.YtjikjejfobnfnaaGreatDoor.par
set_option linter.unusedVariables false
/-- How the operators are written, and their levels. -/
def opRows : List (ByteArray × Int) := [(⟨#[]⟩, 0), (⟨#[43]⟩, 5), (⟨#[45]⟩, 5), (⟨#[42]⟩, 6), (⟨#[47]⟩, 6), (⟨#[37]⟩, 6), (⟨#[38]⟩, 3), (⟨#[124]⟩, 1), (⟨#[94]⟩, 2), (⟨#[60, 60]⟩, 4), (⟨#[62, 62]⟩, 4), (⟨#[43, 37]⟩, 5), (⟨#[45, 37]⟩, 5), (⟨#[42, 37]⟩, 6)]
def opCells : Array Value := (opRows.flatMap fun r => [Value.string r.1, .int .i64 r.2]).toArray
/-- How the comparisons are written. -/
def cmpRows : List ByteArray := [⟨#[]⟩, ⟨#[61, 61]⟩, ⟨#[33, 61]⟩, ⟨#[60]⟩, ⟨#[60, 61]⟩, ⟨#[62]⟩, ⟨#[62, 61]⟩]
def cmpCells : Array Value := (cmpRows.map Value.string).toArray
/-- Both tables lie where their variables are. -/
structure Tb (w : World) : Prop where
  ops : ∃ t fr, w.heap[2]? = some (.cells opCells t fr)
  cmps : ∃ t fr, w.heap[1]? = some (.cells cmpCells t fr)
/-- The first row of the comparisons from one on that is so written, or none. -/
def findC (X : ByteArray) : Nat → Nat → Int
  | 0, _ => 0
  | f + 1, j => if cmpRows[j]? = some X then (j : Int) else findC X f (j + 1)
theorem findC_all (X : ByteArray) : findC X 7 0 = cmpP X := by
  simp only [findC, cmpRows, cmpP, List.getElem?_cons_zero, List.getElem?_cons_succ, Option.some.injEq]
  by_cases h0 : X = ⟨#[]⟩
  · subst h0; simp
  by_cases h1 : X = ⟨#[61, 61]⟩
  · subst h1; rfl
  by_cases h2 : X = ⟨#[33, 61]⟩
  · subst h2; rfl
  by_cases h3 : X = ⟨#[60]⟩
  · subst h3; rfl
  by_cases h4 : X = ⟨#[60, 61]⟩
  · subst h4; rfl
  by_cases h5 : X = ⟨#[62]⟩
  · subst h5; rfl
  by_cases h6 : X = ⟨#[62, 61]⟩
  · subst h6; rfl
  rw [if_neg (fun e => h0 (Eq.symm e)), if_neg (fun e => h1 (Eq.symm e)), if_neg (fun e => h2 (Eq.symm e)), if_neg (fun e => h3 (Eq.symm e)), if_neg (fun e => h4 (Eq.symm e)), if_neg (fun e => h5 (Eq.symm e)), if_neg (fun e => h6 (Eq.symm e)), if_neg h1, if_neg h2, if_neg h3, if_neg h4, if_neg h5, if_neg h6]
theorem idxC_0 (w : World) : (Instr.index 192 (.agg cmpCells) (.int .i64 0)).run Tryz.prog w = .ok (.string ⟨#[]⟩) w := by kernel_rfl
theorem idxC_1 (w : World) : (Instr.index 192 (.agg cmpCells) (.int .i64 1)).run Tryz.prog w = .ok (.string ⟨#[61, 61]⟩) w := by kernel_rfl
theorem idxC_2 (w : World) : (Instr.index 192 (.agg cmpCells) (.int .i64 2)).run Tryz.prog w = .ok (.string ⟨#[33, 61]⟩) w := by kernel_rfl
theorem idxC_3 (w : World) : (Instr.index 192 (.agg cmpCells) (.int .i64 3)).run Tryz.prog w = .ok (.string ⟨#[60]⟩) w := by kernel_rfl
theorem idxC_4 (w : World) : (Instr.index 192 (.agg cmpCells) (.int .i64 4)).run Tryz.prog w = .ok (.string ⟨#[60, 61]⟩) w := by kernel_rfl
theorem idxC_5 (w : World) : (Instr.index 192 (.agg cmpCells) (.int .i64 5)).run Tryz.prog w = .ok (.string ⟨#[62]⟩) w := by kernel_rfl
theorem idxC_6 (w : World) : (Instr.index 192 (.agg cmpCells) (.int .i64 6)).run Tryz.prog w = .ok (.string ⟨#[62, 61]⟩) w := by kernel_rfl
theorem idxC (j : Nat) (r : ByteArray) (h : cmpRows[j]? = some r) (w : World) : (Instr.index 192 (.agg cmpCells) (.int .i64 (j : Int))).run Tryz.prog w = .ok (.string r) w := by
  match j, h with
  | 0, h => cases h; exact idxC_0 w
  | 1, h => cases h; exact idxC_1 w
  | 2, h => cases h; exact idxC_2 w
  | 3, h => cases h; exact idxC_3 w
  | 4, h => cases h; exact idxC_4 w
  | 5, h => cases h; exact idxC_5 w
  | 6, h => cases h; exact idxC_6 w
  | n + 7, h => simp [cmpRows] at h
set_option maxHeartbeats 1000000 in
set_option maxRecDepth 100000 in
theorem comparisonOf_any (t : Tok) (w : World) (hb : Tb w) : Calls Tryz.prog 193 #[t.val] w fun e w' => e = .returned (.int .i64 (cmpP t.text)) ∧ Below w.heap.size w w' := by
  obtain ⟨tt, fr, hg⟩ := hb.cmps
  obtain ⟨tk, tp, tx, tn⟩ := t
  have g2 := fTok2
  have h1s : 1 < w.heap.size := (Array.getElem?_eq_some_iff.1 hg).1
  rw [← findC_all]
  simp only [Tok.val]
  generalize hF : findC tx 7 0 = F
  go_enter Tryz.func193, Tryz.ntmps193
  go_wp2_with (refine wpList_load_row rfl 192 _ rfl 1 rfl tt _ fr _ (at_alloc hg) Tryz.underlying192 rfl (by kernel_rfl) ?_)
  go_loop [6] (fun i => ∃ j : Nat, j ≤ 7 ∧ i = .int .i64 j ∧ findC tx (7 - j) j = F) (fun i => 7 - (intOf i).toNat)
  case atStart => exact ⟨0, by omega, rfl, hF⟩
  case round =>
    clear hF
    obtain ⟨j, hj, rfl, hr⟩ := hrel
    by_cases hlt : j < 7
    · obtain ⟨r, er⟩ : ∃ r, cmpRows[j]? = some r := ⟨_, List.getElem?_eq_getElem (by simpa [cmpRows] using hlt)⟩
      have hix := idxC j r er
      have e7 : 7 - j = (6 - j) + 1 := by omega
      rw [e7, findC, er] at hr
      by_cases hX : r = tx
      · subst hX
        rw [if_pos rfl] at hr
        subst hr
        go_wp2
        go_ret
        exact ⟨rfl, (Below.refl _ _).alloc (Nat.le_refl _) _⟩
      · have e3 := ba_ne hX
        rw [if_neg (fun e => hX (Option.some.inj e))] at hr
        go_wp2
        go_round
        case rel => exact ⟨j + 1, by omega, by go_num, by rw [← hr]; congr 1; omega⟩
        case measure => simp [intOf]; omega
    · obtain rfl : j = 7 := by omega
      have e0 : F = 0 := hr.symm
      subst e0
      clear hr
      go_wp2
      go_ret
      exact ⟨rfl, (Below.refl _ _).alloc (Nat.le_refl _) _⟩
/-- The first row of the operators from one on that is of the level and so written, or none. -/
def findO (X : ByteArray) (n : Nat) : Nat → Nat → Int
  | 0, _ => 0
  | f + 1, j => if opRows[j]? = some (X, (n : Int)) then (j : Int) else findO X n f (j + 1)
theorem idxO_0 (w : World) : (Instr.index 206 (.agg opCells) (.int .i64 0)).run Tryz.prog w = .ok (.agg #[.string ⟨#[]⟩, .int .i64 0]) w := by kernel_rfl
theorem idxO_1 (w : World) : (Instr.index 206 (.agg opCells) (.int .i64 1)).run Tryz.prog w = .ok (.agg #[.string ⟨#[43]⟩, .int .i64 5]) w := by kernel_rfl
theorem idxO_2 (w : World) : (Instr.index 206 (.agg opCells) (.int .i64 2)).run Tryz.prog w = .ok (.agg #[.string ⟨#[45]⟩, .int .i64 5]) w := by kernel_rfl
theorem idxO_3 (w : World) : (Instr.index 206 (.agg opCells) (.int .i64 3)).run Tryz.prog w = .ok (.agg #[.string ⟨#[42]⟩, .int .i64 6]) w := by kernel_rfl
theorem idxO_4 (w : World) : (Instr.index 206 (.agg opCells) (.int .i64 4)).run Tryz.prog w = .ok (.agg #[.string ⟨#[47]⟩, .int .i64 6]) w := by kernel_rfl
theorem idxO_5 (w : World) : (Instr.index 206 (.agg opCells) (.int .i64 5)).run Tryz.prog w = .ok (.agg #[.string ⟨#[37]⟩, .int .i64 6]) w := by kernel_rfl
theorem idxO_6 (w : World) : (Instr.index 206 (.agg opCells) (.int .i64 6)).run Tryz.prog w = .ok (.agg #[.string ⟨#[38]⟩, .int .i64 3]) w := by kernel_rfl
theorem idxO_7 (w : World) : (Instr.index 206 (.agg opCells) (.int .i64 7)).run Tryz.prog w = .ok (.agg #[.string ⟨#[124]⟩, .int .i64 1]) w := by kernel_rfl
theorem idxO_8 (w : World) : (Instr.index 206 (.agg opCells) (.int .i64 8)).run Tryz.prog w = .ok (.agg #[.string ⟨#[94]⟩, .int .i64 2]) w := by kernel_rfl
theorem idxO_9 (w : World) : (Instr.index 206 (.agg opCells) (.int .i64 9)).run Tryz.prog w = .ok (.agg #[.string ⟨#[60, 60]⟩, .int .i64 4]) w := by kernel_rfl
theorem idxO_10 (w : World) : (Instr.index 206 (.agg opCells) (.int .i64 10)).run Tryz.prog w = .ok (.agg #[.string ⟨#[62, 62]⟩, .int .i64 4]) w := by kernel_rfl
theorem idxO_11 (w : World) : (Instr.index 206 (.agg opCells) (.int .i64 11)).run Tryz.prog w = .ok (.agg #[.string ⟨#[43, 37]⟩, .int .i64 5]) w := by kernel_rfl
theorem idxO_12 (w : World) : (Instr.index 206 (.agg opCells) (.int .i64 12)).run Tryz.prog w = .ok (.agg #[.string ⟨#[45, 37]⟩, .int .i64 5]) w := by kernel_rfl
theorem idxO_13 (w : World) : (Instr.index 206 (.agg opCells) (.int .i64 13)).run Tryz.prog w = .ok (.agg #[.string ⟨#[42, 37]⟩, .int .i64 6]) w := by kernel_rfl
theorem idxO (j : Nat) (r : ByteArray × Int) (h : opRows[j]? = some r) (w : World) : (Instr.index 206 (.agg opCells) (.int .i64 (j : Int))).run Tryz.prog w = .ok (.agg #[.string r.1, .int .i64 r.2]) w := by
  match j, h with
  | 0, h => cases h; exact idxO_0 w
  | 1, h => cases h; exact idxO_1 w
  | 2, h => cases h; exact idxO_2 w
  | 3, h => cases h; exact idxO_3 w
  | 4, h => cases h; exact idxO_4 w
  | 5, h => cases h; exact idxO_5 w
  | 6, h => cases h; exact idxO_6 w
  | 7, h => cases h; exact idxO_7 w
  | 8, h => cases h; exact idxO_8 w
  | 9, h => cases h; exact idxO_9 w
  | 10, h => cases h; exact idxO_10 w
  | 11, h => cases h; exact idxO_11 w
  | 12, h => cases h; exact idxO_12 w
  | 13, h => cases h; exact idxO_13 w
  | n + 14, h => simp [opRows] at h
theorem findO_1 (X : ByteArray) : findO X 1 14 0 = opP X 1 := by
  by_cases h0 : X = ⟨#[124]⟩
  · subst h0; decide
  have k0 : ¬ ⟨#[124]⟩ = X := fun e => h0 e.symm
  simp [findO, opRows, opP, h0, k0]
theorem findO_2 (X : ByteArray) : findO X 2 14 0 = opP X 2 := by
  by_cases h0 : X = ⟨#[94]⟩
  · subst h0; decide
  have k0 : ¬ ⟨#[94]⟩ = X := fun e => h0 e.symm
  simp [findO, opRows, opP, h0, k0]
theorem findO_3 (X : ByteArray) : findO X 3 14 0 = opP X 3 := by
  by_cases h0 : X = ⟨#[38]⟩
  · subst h0; decide
  have k0 : ¬ ⟨#[38]⟩ = X := fun e => h0 e.symm
  simp [findO, opRows, opP, h0, k0]
theorem findO_4 (X : ByteArray) : findO X 4 14 0 = opP X 4 := by
  by_cases h0 : X = ⟨#[60, 60]⟩
  · subst h0; decide
  by_cases h1 : X = ⟨#[62, 62]⟩
  · subst h1; decide
  have k0 : ¬ ⟨#[60, 60]⟩ = X := fun e => h0 e.symm
  have k1 : ¬ ⟨#[62, 62]⟩ = X := fun e => h1 e.symm
  simp [findO, opRows, opP, h0, k0, h1, k1]
theorem findO_5 (X : ByteArray) : findO X 5 14 0 = opP X 5 := by
  by_cases h0 : X = ⟨#[43]⟩
  · subst h0; decide
  by_cases h1 : X = ⟨#[45]⟩
  · subst h1; decide
  by_cases h2 : X = ⟨#[43, 37]⟩
  · subst h2; decide
  by_cases h3 : X = ⟨#[45, 37]⟩
  · subst h3; decide
  have k0 : ¬ ⟨#[43]⟩ = X := fun e => h0 e.symm
  have k1 : ¬ ⟨#[45]⟩ = X := fun e => h1 e.symm
  have k2 : ¬ ⟨#[43, 37]⟩ = X := fun e => h2 e.symm
  have k3 : ¬ ⟨#[45, 37]⟩ = X := fun e => h3 e.symm
  simp [findO, opRows, opP, h0, k0, h1, k1, h2, k2, h3, k3]
theorem findO_6 (X : ByteArray) : findO X 6 14 0 = opP X 6 := by
  by_cases h0 : X = ⟨#[42]⟩
  · subst h0; decide
  by_cases h1 : X = ⟨#[47]⟩
  · subst h1; decide
  by_cases h2 : X = ⟨#[37]⟩
  · subst h2; decide
  by_cases h3 : X = ⟨#[42, 37]⟩
  · subst h3; decide
  have k0 : ¬ ⟨#[42]⟩ = X := fun e => h0 e.symm
  have k1 : ¬ ⟨#[47]⟩ = X := fun e => h1 e.symm
  have k2 : ¬ ⟨#[37]⟩ = X := fun e => h2 e.symm
  have k3 : ¬ ⟨#[42, 37]⟩ = X := fun e => h3 e.symm
  simp [findO, opRows, opP, h0, k0, h1, k1, h2, k2, h3, k3]
theorem below_drewN2 {B : Nat} {a b : World} {n : Nat} (h : Below B a b) : Below B a (b.drewN n) := ⟨h.os, h.tape, h.output, h.size, h.block⟩
set_option maxHeartbeats 1000000 in
set_option maxRecDepth 100000 in
theorem operatorOf_find (t : Tok) (n : Nat) (w : World) (hn : n ≤ 6) (hb : Tb w) : Calls Tryz.prog 102 #[t.val, .int .i64 (n : Nat)] w fun e w' => e = .returned (.int .i64 (findO t.text n 14 0)) ∧ Below w.heap.size w w' := by
  obtain ⟨tt, fr, hg⟩ := hb.ops
  obtain ⟨tk, tp, tx, tn⟩ := t
  have g2 := fTok2
  have h1s : 2 < w.heap.size := (Array.getElem?_eq_some_iff.1 hg).1
  simp only [Tok.val]
  generalize hF : findO tx n 14 0 = F
  go_enter Tryz.func102, Tryz.ntmps102
  go_wp2_with (refine wpList_load_row rfl 206 _ rfl 2 rfl tt _ fr _ (by first | exact at_alloc hg | exact at_alloc (at_alloc hg)) Tryz.underlying206 rfl (by kernel_rfl) ?_)
  go_loopw [8] (fun i wr => ∃ j : Nat, j ≤ 14 ∧ i = .int .i64 j ∧ findO tx n (14 - j) j = F ∧ Below w.heap.size w wr ∧ wr.heap[w.heap.size]? = some (.cells #[.int .i64 tk, .int .i64 tp, .string tx, .int .i64 tn] 93)) (fun i _ => 14 - (intOf i).toNat)
  case atStart => exact ⟨0, by omega, rfl, hF, (Below.refl _ _).alloc (Nat.le_refl _) _, one_first _ _⟩
  case round =>
    clear hF
    obtain ⟨j, hj, rfl, hr, hbel, htk⟩ := hrel
    have hs := (Array.getElem?_eq_some_iff.1 htk).1
    have ct : wr.cell? ⟨w.heap.size, 2, none⟩ = some (.string tx) := cell_of htk rfl
    by_cases hlt : j < 14
    · obtain ⟨r, er⟩ : ∃ r, opRows[j]? = some r := ⟨_, List.getElem?_eq_getElem (by simpa [opRows] using hlt)⟩
      have hix := idxO j r er
      have e7 : 14 - j = (13 - j) + 1 := by omega
      rw [e7, findO, er] at hr
      obtain ⟨rx, rl⟩ := r
      simp only at hix
      by_cases hl : rl = (n : Int)
      · subst hl
        by_cases hX : rx = tx
        · subst hX
          rw [if_pos rfl] at hr
          subst hr
          go_wp2
          (try (go_quiet (fail); go_wp2))
          go_ret
          exact ⟨rfl, by first | exact hbel.alloc hbel.size _ | exact below_drewN2 (hbel.alloc hbel.size _)⟩
        · have e3 := ba_ne hX
          rw [if_neg (fun e => hX (by cases e; rfl))] at hr
          go_wp2
          (try (go_quiet (fail); go_wp2))
          go_roundw
          case rel => exact ⟨j + 1, by omega, by go_num, by rw [← hr]; congr 1; omega, by first | exact hbel.alloc hbel.size _ | exact below_drewN2 (hbel.alloc hbel.size _), by first | exact at_alloc htk | exact at_drewN (at_alloc htk)⟩
          case measure => simp [intOf]; omega
      · have e4 : (rl == (n : Int)) = false := by simpa using hl
        rw [if_neg (fun e => hl (by cases e; rfl))] at hr
        go_wp2
        (try (go_quiet (fail); go_wp2))
        go_roundw
        case rel => exact ⟨j + 1, by omega, by go_num, by rw [← hr]; congr 1; omega, by first | exact hbel.alloc hbel.size _ | exact below_drewN2 (hbel.alloc hbel.size _), by first | exact at_alloc htk | exact at_drewN (at_alloc htk)⟩
        case measure => simp [intOf]; omega
    · obtain rfl : j = 14 := by omega
      have e0 : F = 0 := hr.symm
      subst e0
      clear hr
      go_wp2
      go_ret
      exact ⟨rfl, hbel⟩
/-- The operator of a level that a token is. -/
theorem operatorOf_any (t : Tok) (n : Nat) (w : World) (h1 : 1 ≤ n) (h6 : n ≤ 6) (hb : Tb w) : Calls Tryz.prog 102 #[t.val, .int .i64 (n : Nat)] w fun e w' => e = .returned (.int .i64 (opP t.text n)) ∧ Below w.heap.size w w' := by
  have h := operatorOf_find t n w h6 hb
  have e : findO t.text n 14 0 = opP t.text n := by
    match n, h1, h6 with
    | 1, _, _ => exact findO_1 _
    | 2, _, _ => exact findO_2 _
    | 3, _, _ => exact findO_3 _
    | 4, _, _ => exact findO_4 _
    | 5, _, _ => exact findO_5 _
    | 6, _, _ => exact findO_6 _
    | n + 7, _, h => exact absurd h (by omega)
  rwa [e] at h
end Go.Proofs.YtjikjejfobnfnaaGreatDoor.imp
