/-
  The comparisons' tables: what the listed variables give a walk; contracts of CmpNot, CmpTurn and NumCmp, of the program and of the model: each computes and leaves the world as it was.
-/
import Derived.Test.YtfkmnbldadpaaaaDoorP0
import Derived.WalkKit
import Derived.WalkLawsBesides
import Derived.ProofKit
import Derived.OpenShut
import Derived.OpenVars
import Derived.LaidMore
import Derived.Lib.LaidTab
import Derived.Stop.Joined
namespace Go.Proofs.YtfkmnbldadpaaaaDoor.num
open Go.ChangeShapes Go.WideShapes Go.ChangeAt Go.RowKit
theorem own : ownKnob Tryd.prog.godebug = none := by kernel_rfl
theorem laidOut : laidOutB Tryd.prog = true := by kernel_rfl
/-- The names of the two tables. -/
abbrev nOpp : String := Rows.fnExactCmpNotSpec.vars.headD default
abbrev nTurn : String := Rows.fnExactCmpTurnSpec.vars.headD default
theorem gOpp : Tryd.prog.globalNamed nOpp = some 0 := by kernel_rfl
theorem gTurn : Tryd.prog.globalNamed nTurn = some 1 := by kernel_rfl
theorem tOpp : (Tryd.prog.globals[0]?).map (·.type) = some 32 := by kernel_rfl
theorem tTurn : (Tryd.prog.globals[1]?).map (·.type) = some 32 := by kernel_rfl
theorem cells3 : Tryd.prog.cellsOf 3 = 1 := by kernel_rfl
theorem cells32 : Tryd.prog.cellsOf 32 = 7 := by kernel_rfl
def opp : List Int := [0, 2, 1, 6, 5, 4, 3]
def turned : List Int := [0, 1, 2, 5, 6, 3, 4]
abbrev laidOpp : List (String × DataW Unit) := Rows.fnExactCmpNotRow.laid
abbrev laidTurn : List (String × DataW Unit) := Rows.fnExactCmpTurnRow.laid
abbrev laidBoth : List (String × DataW Unit) := Rows.fnNumCmpRow.laid
theorem opp_of {W : World} (h : laidMetH Tryd.prog laidOpp W) : Lib.TabIs Tryd.prog W nOpp .i64 opp := by
  rw [MakeChecks.laidMetH_plain _ _ _ (by kernel_rfl)] at h
  exact Lib.tabIs_of_head (rest := []) gOpp tOpp Tryd.underlying32 Tryd.underlying3 cells3 cells32 h
theorem turn_of {W : World} (h : laidMetH Tryd.prog laidTurn W) : Lib.TabIs Tryd.prog W nTurn .i64 turned := by
  rw [MakeChecks.laidMetH_plain _ _ _ (by kernel_rfl)] at h
  exact Lib.tabIs_of_head (rest := []) gTurn tTurn Tryd.underlying32 Tryd.underlying3 cells3 cells32 h
def notI (c : Int) : Int := if c = 1 then 2 else if c = 2 then 1 else if c = 3 then 6 else if c = 4 then 5 else if c = 5 then 4 else if c = 6 then 3 else 0
theorem specNot_any (c : Int) (w : World) :
    Calls Tryd.prog 11 #[.int .i64 c] w fun e w' => e = .returned (.int .i64 (notI c)) ∧ w' = w := by
  go_enter Tryd.func11, Tryd.ntmps11
  go_wp2
  all_goals go_ret
  all_goals (refine ⟨ret_int ?_, rfl⟩; simp_all [notI])
def okC (c : Int) : Bool := decide (1 ≤ c ∧ c ≤ 6)
theorem cmpOk_any (c : Int) (w : World) :
    Calls Tryd.prog 16 #[.int .i64 c] w fun e w' => e = .returned (.bool (okC c)) ∧ w' = w := by
  go_enter Tryd.func16, Tryd.ntmps16
  go_wp2
  all_goals go_ret
  · exact ⟨ret_bool (by unfold okC; rename_i h; simp [h]), rfl⟩
  · exact ⟨ret_bool (by unfold okC; rename_i h; rw [eq_comm, decide_eq_false_iff_not]; omega), rfl⟩
theorem implNot_any (c : Int) (w : World) (h : Lib.TabIs Tryd.prog w nOpp .i64 opp) :
    Calls Tryd.prog 9 #[.int .i64 c] w fun e w' => e = .returned (.int .i64 (notI c)) ∧ w' = w := by
  cases hO : okC c
  · have e : notI c = 0 := by
      unfold okC at hO; rw [decide_eq_false_iff_not] at hO
      unfold notI; repeat (rw [if_neg (by omega)])
    rw [e]
    clear e h
    go_enter Tryd.func9, Tryd.ntmps9
    go_wp2_with (go_at_call 16; refine (cmpOk_any _ _).mono ?_; rintro e w' ⟨rfl, rfl⟩)
    go_ret
    exact ⟨rfl, rfl⟩
  · have hc : c = 1 ∨ c = 2 ∨ c = 3 ∨ c = 4 ∨ c = 5 ∨ c = 6 := by
      unfold okC at hO; rw [decide_eq_true_iff] at hO; omega
    rcases hc with rfl | rfl | rfl | rfl | rfl | rfl
    · have hh : w.cell? ⟨0, 1, none⟩ = some (.int .i64 2) := h.cell gOpp 1 (by decide)
      clear h
      go_enter Tryd.func9, Tryd.ntmps9
      go_wp2_with (go_at_call 16; refine (cmpOk_any _ _).mono ?_; rintro e w' ⟨rfl, rfl⟩)
      go_ret
      exact ⟨rfl, rfl⟩
    · have hh : w.cell? ⟨0, 2, none⟩ = some (.int .i64 1) := h.cell gOpp 2 (by decide)
      clear h
      go_enter Tryd.func9, Tryd.ntmps9
      go_wp2_with (go_at_call 16; refine (cmpOk_any _ _).mono ?_; rintro e w' ⟨rfl, rfl⟩)
      go_ret
      exact ⟨rfl, rfl⟩
    · have hh : w.cell? ⟨0, 3, none⟩ = some (.int .i64 6) := h.cell gOpp 3 (by decide)
      clear h
      go_enter Tryd.func9, Tryd.ntmps9
      go_wp2_with (go_at_call 16; refine (cmpOk_any _ _).mono ?_; rintro e w' ⟨rfl, rfl⟩)
      go_ret
      exact ⟨rfl, rfl⟩
    · have hh : w.cell? ⟨0, 4, none⟩ = some (.int .i64 5) := h.cell gOpp 4 (by decide)
      clear h
      go_enter Tryd.func9, Tryd.ntmps9
      go_wp2_with (go_at_call 16; refine (cmpOk_any _ _).mono ?_; rintro e w' ⟨rfl, rfl⟩)
      go_ret
      exact ⟨rfl, rfl⟩
    · have hh : w.cell? ⟨0, 5, none⟩ = some (.int .i64 4) := h.cell gOpp 5 (by decide)
      clear h
      go_enter Tryd.func9, Tryd.ntmps9
      go_wp2_with (go_at_call 16; refine (cmpOk_any _ _).mono ?_; rintro e w' ⟨rfl, rfl⟩)
      go_ret
      exact ⟨rfl, rfl⟩
    · have hh : w.cell? ⟨0, 6, none⟩ = some (.int .i64 3) := h.cell gOpp 6 (by decide)
      clear h
      go_enter Tryd.func9, Tryd.ntmps9
      go_wp2_with (go_at_call 16; refine (cmpOk_any _ _).mono ?_; rintro e w' ⟨rfl, rfl⟩)
      go_ret
      exact ⟨rfl, rfl⟩
def turnI (c : Int) : Int := if c = 1 then 1 else if c = 2 then 2 else if c = 3 then 5 else if c = 4 then 6 else if c = 5 then 3 else if c = 6 then 4 else 0
theorem specTurn_any (c : Int) (w : World) :
    Calls Tryd.prog 12 #[.int .i64 c] w fun e w' => e = .returned (.int .i64 (turnI c)) ∧ w' = w := by
  by_cases h : 1 ≤ c ∧ c ≤ 6
  · have hc : c = 1 ∨ c = 2 ∨ c = 3 ∨ c = 4 ∨ c = 5 ∨ c = 6 := by omega
    clear h
    rcases hc with rfl | rfl | rfl | rfl | rfl | rfl
    all_goals
      go_enter Tryd.func12, Tryd.ntmps12
      go_wp2
      go_ret
      exact ⟨rfl, rfl⟩
  · have e : turnI c = 0 := by unfold turnI; repeat (rw [if_neg (by omega)])
    rw [e]
    have h1 : (c == 1) = false := by simp; omega
    have h2 : (c == 2) = false := by simp; omega
    have h3 : (c == 3) = false := by simp; omega
    have h4 : (c == 4) = false := by simp; omega
    have h5 : (c == 5) = false := by simp; omega
    have h6 : (c == 6) = false := by simp; omega
    clear e h
    go_enter Tryd.func12, Tryd.ntmps12
    go_wp2
    go_ret
    exact ⟨rfl, rfl⟩
theorem implTurn_any (c : Int) (w : World) (h : Lib.TabIs Tryd.prog w nTurn .i64 turned) :
    Calls Tryd.prog 10 #[.int .i64 c] w fun e w' => e = .returned (.int .i64 (turnI c)) ∧ w' = w := by
  cases hO : okC c
  · have e : turnI c = 0 := by
      unfold okC at hO; rw [decide_eq_false_iff_not] at hO
      unfold turnI; repeat (rw [if_neg (by omega)])
    rw [e]
    clear e h
    go_enter Tryd.func10, Tryd.ntmps10
    go_wp2_with (go_at_call 16; refine (cmpOk_any _ _).mono ?_; rintro e w' ⟨rfl, rfl⟩)
    go_ret
    exact ⟨rfl, rfl⟩
  · have hc : c = 1 ∨ c = 2 ∨ c = 3 ∨ c = 4 ∨ c = 5 ∨ c = 6 := by
      unfold okC at hO; rw [decide_eq_true_iff] at hO; omega
    rcases hc with rfl | rfl | rfl | rfl | rfl | rfl
    · have hh : w.cell? ⟨1, 1, none⟩ = some (.int .i64 1) := h.cell gTurn 1 (by decide)
      clear h
      go_enter Tryd.func10, Tryd.ntmps10
      go_wp2_with (go_at_call 16; refine (cmpOk_any _ _).mono ?_; rintro e w' ⟨rfl, rfl⟩)
      go_ret
      exact ⟨rfl, rfl⟩
    · have hh : w.cell? ⟨1, 2, none⟩ = some (.int .i64 2) := h.cell gTurn 2 (by decide)
      clear h
      go_enter Tryd.func10, Tryd.ntmps10
      go_wp2_with (go_at_call 16; refine (cmpOk_any _ _).mono ?_; rintro e w' ⟨rfl, rfl⟩)
      go_ret
      exact ⟨rfl, rfl⟩
    · have hh : w.cell? ⟨1, 3, none⟩ = some (.int .i64 5) := h.cell gTurn 3 (by decide)
      clear h
      go_enter Tryd.func10, Tryd.ntmps10
      go_wp2_with (go_at_call 16; refine (cmpOk_any _ _).mono ?_; rintro e w' ⟨rfl, rfl⟩)
      go_ret
      exact ⟨rfl, rfl⟩
    · have hh : w.cell? ⟨1, 4, none⟩ = some (.int .i64 6) := h.cell gTurn 4 (by decide)
      clear h
      go_enter Tryd.func10, Tryd.ntmps10
      go_wp2_with (go_at_call 16; refine (cmpOk_any _ _).mono ?_; rintro e w' ⟨rfl, rfl⟩)
      go_ret
      exact ⟨rfl, rfl⟩
    · have hh : w.cell? ⟨1, 5, none⟩ = some (.int .i64 3) := h.cell gTurn 5 (by decide)
      clear h
      go_enter Tryd.func10, Tryd.ntmps10
      go_wp2_with (go_at_call 16; refine (cmpOk_any _ _).mono ?_; rintro e w' ⟨rfl, rfl⟩)
      go_ret
      exact ⟨rfl, rfl⟩
    · have hh : w.cell? ⟨1, 6, none⟩ = some (.int .i64 4) := h.cell gTurn 6 (by decide)
      clear h
      go_enter Tryd.func10, Tryd.ntmps10
      go_wp2_with (go_at_call 16; refine (cmpOk_any _ _).mono ?_; rintro e w' ⟨rfl, rfl⟩)
      go_ret
      exact ⟨rfl, rfl⟩
end Go.Proofs.YtfkmnbldadpaaaaDoor.num
