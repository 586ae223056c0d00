/-
  Closed facts on the whole program, asked once.
-/
import Derived.Test.YthbbgkpkijlclaaDoorP0
import Derived.JoinedOf
import Derived.SevenTiedAt
namespace Go.Proofs.YthbbgkpkijlclaaDoor.num
open Go.ChangeShapes Go.WideShapes Go.ChangeAt Go.RowKit
set_option linter.unusedVariables false

theorem and2 {a b : Bool} (h1 : a = true) (h2 : b = true) : (a && b) = true := by rw [h1, h2]; rfl
theorem kP1 : laidOutB Tryd.pinned.checked.prog = true := by kernel_rfl
theorem kP2 : mapsRowed Tryd.pinned.checked.prog = true := by kernel_rfl
theorem kP6 : (Tryd.pinned.checked.prog.stops == []) = true := by kernel_rfl
theorem kP8 : (Tryd.pinned.checked.prog.stopKnobs == []) = true := by kernel_rfl
theorem kP24 : Tryd.pinned.checked.prog.stopsHeard = true := by kernel_rfl
theorem kP25 : Tryd.pinned.checked.prog.mayEnter = true := by kernel_rfl
theorem looksT : true = Tryd.pinned.checked.prog.looks [] := by kernel_rfl
end Go.Proofs.YthbbgkpkijlclaaDoor.num
