/-
  The signs: a table that the program's text lays, and a list that the model makes: both give the longest sign that stands at a place.
-/
import Derived.Test.YtggkkhlghlghkaaDoorP0
import Derived.Test.YtggkkhlghlghkaaDoorShelf
import Derived.WalkKit
import Derived.WalkSpells
import Derived.Deep.QuietTactic
import Derived.BigQuiet
import Derived.Lib.Strings
import Derived.Maps.AppendAt
namespace Go.Proofs.YtggkkhlghlghkaaDoor.lex
open Go.RowKit Go.Proofs.YtggkkhlghlghkaaDoor.num
set_option linter.unusedVariables false

/-- The signs, the longer ones ahead. -/
def signs : List (List UInt8) := [[43, 37], [45, 37], [42, 37], [60, 60], [62, 62], [61, 61], [33, 61], [60, 61], [62, 61], [46, 46], [43, 61], [43], [45], [42], [47], [37], [38], [124], [94], [60], [62], [61], [40], [41], [123], [125], [91], [93], [44], [59]]
def sgCells : Array Value := #[.string ⟨#[43, 37]⟩, .string ⟨#[45, 37]⟩, .string ⟨#[42, 37]⟩, .string ⟨#[60, 60]⟩, .string ⟨#[62, 62]⟩, .string ⟨#[61, 61]⟩, .string ⟨#[33, 61]⟩, .string ⟨#[60, 61]⟩, .string ⟨#[62, 61]⟩, .string ⟨#[46, 46]⟩, .string ⟨#[43, 61]⟩, .string ⟨#[43]⟩, .string ⟨#[45]⟩, .string ⟨#[42]⟩, .string ⟨#[47]⟩, .string ⟨#[37]⟩, .string ⟨#[38]⟩, .string ⟨#[124]⟩, .string ⟨#[94]⟩, .string ⟨#[60]⟩, .string ⟨#[62]⟩, .string ⟨#[61]⟩, .string ⟨#[40]⟩, .string ⟨#[41]⟩, .string ⟨#[123]⟩, .string ⟨#[125]⟩, .string ⟨#[91]⟩, .string ⟨#[93]⟩, .string ⟨#[44]⟩, .string ⟨#[59]⟩]
/-- The kth sign. -/
def sgn (k : Nat) : ByteArray := ⟨(signs.getD k []).toArray⟩
def signFrom (l : List UInt8) (i : Nat) : List UInt8 := ((signs.drop i).find? fun g => Lib.hasPrefix l g).getD []
/-- The sign that a text begins with; nothing if there is none. -/
def signOf (l : List UInt8) : List UInt8 := signFrom l 0

theorem drop_step (i : Nat) (h : i < 30) : signs.drop i = signs.getD i [] :: signs.drop (i + 1) := by
  rw [List.drop_eq_getElem_cons (by exact h)]
  congr 1
  rw [List.getD_eq_getElem?_getD, List.getElem?_eq_getElem (by exact h)]
  rfl
theorem signFrom_hit (l : List UInt8) (i : Nat) (h : i < 30) (hp : Lib.hasPrefix l (sgn i).data.toList = true) : signFrom l i = (sgn i).data.toList := by
  unfold signFrom
  rw [drop_step i h, List.find?_cons]
  have hp' : Lib.hasPrefix l (signs.getD i []) = true := hp
  rw [hp']
  rfl
theorem signFrom_miss (l : List UInt8) (i : Nat) (h : i < 30) (hp : Lib.hasPrefix l (sgn i).data.toList = false) : signFrom l i = signFrom l (i + 1) := by
  unfold signFrom
  rw [drop_step i h, List.find?_cons]
  have hp' : Lib.hasPrefix l (signs.getD i []) = false := hp
  rw [hp']
theorem signFrom_end (l : List UInt8) : signFrom l 30 = [] := rfl
theorem sgn_pos (i : Nat) (h : i < 30) : 0 < (sgn i).size ∧ (sgn i).size ≤ 2 := by
  have e : ∀ k : Fin 30, 0 < (sgn k.1).size ∧ (sgn k.1).size ≤ 2 := by decide
  exact e ⟨i, h⟩

theorem idx_0 (w : World) : (Instr.index 54 (.agg sgCells) (.int .i64 0)).run Tryd.prog w = .ok (.string (sgn 0)) w := by kernel_rfl
theorem idx_1 (w : World) : (Instr.index 54 (.agg sgCells) (.int .i64 1)).run Tryd.prog w = .ok (.string (sgn 1)) w := by kernel_rfl
theorem idx_2 (w : World) : (Instr.index 54 (.agg sgCells) (.int .i64 2)).run Tryd.prog w = .ok (.string (sgn 2)) w := by kernel_rfl
theorem idx_3 (w : World) : (Instr.index 54 (.agg sgCells) (.int .i64 3)).run Tryd.prog w = .ok (.string (sgn 3)) w := by kernel_rfl
theorem idx_4 (w : World) : (Instr.index 54 (.agg sgCells) (.int .i64 4)).run Tryd.prog w = .ok (.string (sgn 4)) w := by kernel_rfl
theorem idx_5 (w : World) : (Instr.index 54 (.agg sgCells) (.int .i64 5)).run Tryd.prog w = .ok (.string (sgn 5)) w := by kernel_rfl
theorem idx_6 (w : World) : (Instr.index 54 (.agg sgCells) (.int .i64 6)).run Tryd.prog w = .ok (.string (sgn 6)) w := by kernel_rfl
theorem idx_7 (w : World) : (Instr.index 54 (.agg sgCells) (.int .i64 7)).run Tryd.prog w = .ok (.string (sgn 7)) w := by kernel_rfl
theorem idx_8 (w : World) : (Instr.index 54 (.agg sgCells) (.int .i64 8)).run Tryd.prog w = .ok (.string (sgn 8)) w := by kernel_rfl
theorem idx_9 (w : World) : (Instr.index 54 (.agg sgCells) (.int .i64 9)).run Tryd.prog w = .ok (.string (sgn 9)) w := by kernel_rfl
theorem idx_10 (w : World) : (Instr.index 54 (.agg sgCells) (.int .i64 10)).run Tryd.prog w = .ok (.string (sgn 10)) w := by kernel_rfl
theorem idx_11 (w : World) : (Instr.index 54 (.agg sgCells) (.int .i64 11)).run Tryd.prog w = .ok (.string (sgn 11)) w := by kernel_rfl
theorem idx_12 (w : World) : (Instr.index 54 (.agg sgCells) (.int .i64 12)).run Tryd.prog w = .ok (.string (sgn 12)) w := by kernel_rfl
theorem idx_13 (w : World) : (Instr.index 54 (.agg sgCells) (.int .i64 13)).run Tryd.prog w = .ok (.string (sgn 13)) w := by kernel_rfl
theorem idx_14 (w : World) : (Instr.index 54 (.agg sgCells) (.int .i64 14)).run Tryd.prog w = .ok (.string (sgn 14)) w := by kernel_rfl
theorem idx_15 (w : World) : (Instr.index 54 (.agg sgCells) (.int .i64 15)).run Tryd.prog w = .ok (.string (sgn 15)) w := by kernel_rfl
theorem idx_16 (w : World) : (Instr.index 54 (.agg sgCells) (.int .i64 16)).run Tryd.prog w = .ok (.string (sgn 16)) w := by kernel_rfl
theorem idx_17 (w : World) : (Instr.index 54 (.agg sgCells) (.int .i64 17)).run Tryd.prog w = .ok (.string (sgn 17)) w := by kernel_rfl
theorem idx_18 (w : World) : (Instr.index 54 (.agg sgCells) (.int .i64 18)).run Tryd.prog w = .ok (.string (sgn 18)) w := by kernel_rfl
theorem idx_19 (w : World) : (Instr.index 54 (.agg sgCells) (.int .i64 19)).run Tryd.prog w = .ok (.string (sgn 19)) w := by kernel_rfl
theorem idx_20 (w : World) : (Instr.index 54 (.agg sgCells) (.int .i64 20)).run Tryd.prog w = .ok (.string (sgn 20)) w := by kernel_rfl
theorem idx_21 (w : World) : (Instr.index 54 (.agg sgCells) (.int .i64 21)).run Tryd.prog w = .ok (.string (sgn 21)) w := by kernel_rfl
theorem idx_22 (w : World) : (Instr.index 54 (.agg sgCells) (.int .i64 22)).run Tryd.prog w = .ok (.string (sgn 22)) w := by kernel_rfl
theorem idx_23 (w : World) : (Instr.index 54 (.agg sgCells) (.int .i64 23)).run Tryd.prog w = .ok (.string (sgn 23)) w := by kernel_rfl
theorem idx_24 (w : World) : (Instr.index 54 (.agg sgCells) (.int .i64 24)).run Tryd.prog w = .ok (.string (sgn 24)) w := by kernel_rfl
theorem idx_25 (w : World) : (Instr.index 54 (.agg sgCells) (.int .i64 25)).run Tryd.prog w = .ok (.string (sgn 25)) w := by kernel_rfl
theorem idx_26 (w : World) : (Instr.index 54 (.agg sgCells) (.int .i64 26)).run Tryd.prog w = .ok (.string (sgn 26)) w := by kernel_rfl
theorem idx_27 (w : World) : (Instr.index 54 (.agg sgCells) (.int .i64 27)).run Tryd.prog w = .ok (.string (sgn 27)) w := by kernel_rfl
theorem idx_28 (w : World) : (Instr.index 54 (.agg sgCells) (.int .i64 28)).run Tryd.prog w = .ok (.string (sgn 28)) w := by kernel_rfl
theorem idx_29 (w : World) : (Instr.index 54 (.agg sgCells) (.int .i64 29)).run Tryd.prog w = .ok (.string (sgn 29)) w := by kernel_rfl
theorem idx (k : Nat) (hk : k < 30) (w : World) : (Instr.index 54 (.agg sgCells) (.int .i64 (k : Int))).run Tryd.prog w = .ok (.string (sgn k)) w := by
  match k, hk with
  | 0, _ => exact idx_0 w
  | 1, _ => exact idx_1 w
  | 2, _ => exact idx_2 w
  | 3, _ => exact idx_3 w
  | 4, _ => exact idx_4 w
  | 5, _ => exact idx_5 w
  | 6, _ => exact idx_6 w
  | 7, _ => exact idx_7 w
  | 8, _ => exact idx_8 w
  | 9, _ => exact idx_9 w
  | 10, _ => exact idx_10 w
  | 11, _ => exact idx_11 w
  | 12, _ => exact idx_12 w
  | 13, _ => exact idx_13 w
  | 14, _ => exact idx_14 w
  | 15, _ => exact idx_15 w
  | 16, _ => exact idx_16 w
  | 17, _ => exact idx_17 w
  | 18, _ => exact idx_18 w
  | 19, _ => exact idx_19 w
  | 20, _ => exact idx_20 w
  | 21, _ => exact idx_21 w
  | 22, _ => exact idx_22 w
  | 23, _ => exact idx_23 w
  | 24, _ => exact idx_24 w
  | 25, _ => exact idx_25 w
  | 26, _ => exact idx_26 w
  | 27, _ => exact idx_27 w
  | 28, _ => exact idx_28 w
  | 29, _ => exact idx_29 w
  | n + 30, h => exact absurd h (by omega)
theorem cellAt (k : Nat) (hk : k < 30) : sgCells[k]? = some (.string (sgn k)) := by
  match k, hk with
  | 0, _ => rfl
  | 1, _ => rfl
  | 2, _ => rfl
  | 3, _ => rfl
  | 4, _ => rfl
  | 5, _ => rfl
  | 6, _ => rfl
  | 7, _ => rfl
  | 8, _ => rfl
  | 9, _ => rfl
  | 10, _ => rfl
  | 11, _ => rfl
  | 12, _ => rfl
  | 13, _ => rfl
  | 14, _ => rfl
  | 15, _ => rfl
  | 16, _ => rfl
  | 17, _ => rfl
  | 18, _ => rfl
  | 19, _ => rfl
  | 20, _ => rfl
  | 21, _ => rfl
  | 22, _ => rfl
  | 23, _ => rfl
  | 24, _ => rfl
  | 25, _ => rfl
  | 26, _ => rfl
  | 27, _ => rfl
  | 28, _ => rfl
  | 29, _ => rfl
  | n + 30, h => exact absurd h (by omega)

/-- The table of the signs lies where its variable is. -/
def Sg (w : World) : Prop := ∃ t fr, w.heap[0]? = some (.cells sgCells t fr)
theorem Sg.size {w : World} (h : Sg w) : 0 < w.heap.size := by
  obtain ⟨t, fr, h⟩ := h
  exact (Array.getElem?_eq_some_iff.1 h).1
theorem Sg.below {w w' : World} {B : Nat} (h : Sg w) (hb : Below B w w') (hB : 0 < B) : Sg w' := by
  obtain ⟨t, fr, h⟩ := h
  exact ⟨t, fr, (hb.block 0 hB).trans h⟩

theorem signs_any (w : World) : Calls Tryd.prog 36 #[] w fun e w' => e = .returned (.slice (some ⟨w.heap.size, 0, none⟩) 30 30) ∧ w' = w.alloc (.cells sgCells 9) := by
  go_enter Tryd.func36, Tryd.ntmps36
  go_wp2
  go_ret
  exact ⟨rfl, rfl⟩

end Go.Proofs.YtggkkhlghlghkaaDoor.lex
