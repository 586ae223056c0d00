/-
  impl's NumDo: the number and the fault of the model's, whatever the three ints are; old memory stays as it was.
-/
import Derived.Test.YtfkmnbldadpaaaaTry
import Derived.Test.YtfkmnbldadpaaaaOps
namespace Go.Proofs.Ytfkmnbldadpaaaa.num
open Go.ChangeShapes Go.WideShapes Go.ChangeAt Go.RowKit
set_option linter.unusedVariables false
set_option maxRecDepth 100000 in
theorem oper_1 (w : World) :
    Calls Try.prog 24 #[.int .i64 1] w fun e w' => e = .returned (.func (Fn.func 32) #[] #[]) ∧ Below w.heap.size w w' := by
  go_enter Try.func24, Try.ntmps24
  go_wp2
  go_ret
  exact ⟨rfl, (Below.refl _ _).alloc (Nat.le_refl _) _⟩
theorem enter_1 (args : Array Value) (w : World) : (callFunc 32 args).run Try.prog w = .ok (.enter 32 args) w := by kernel_rfl
set_option maxRecDepth 100000 in
theorem oper_2 (w : World) :
    Calls Try.prog 24 #[.int .i64 2] w fun e w' => e = .returned (.func (Fn.func 34) #[] #[]) ∧ Below w.heap.size w w' := by
  go_enter Try.func24, Try.ntmps24
  go_wp2
  go_ret
  exact ⟨rfl, (Below.refl _ _).alloc (Nat.le_refl _) _⟩
theorem enter_2 (args : Array Value) (w : World) : (callFunc 34 args).run Try.prog w = .ok (.enter 34 args) w := by kernel_rfl
set_option maxRecDepth 100000 in
theorem oper_3 (w : World) :
    Calls Try.prog 24 #[.int .i64 3] w fun e w' => e = .returned (.func (Fn.func 35) #[] #[]) ∧ Below w.heap.size w w' := by
  go_enter Try.func24, Try.ntmps24
  go_wp2
  go_ret
  exact ⟨rfl, (Below.refl _ _).alloc (Nat.le_refl _) _⟩
theorem enter_3 (args : Array Value) (w : World) : (callFunc 35 args).run Try.prog w = .ok (.enter 35 args) w := by kernel_rfl
set_option maxRecDepth 100000 in
theorem oper_4 (w : World) :
    Calls Try.prog 24 #[.int .i64 4] w fun e w' => e = .returned (.func (Fn.func 36) #[] #[]) ∧ Below w.heap.size w w' := by
  go_enter Try.func24, Try.ntmps24
  go_wp2
  go_ret
  exact ⟨rfl, (Below.refl _ _).alloc (Nat.le_refl _) _⟩
theorem enter_4 (args : Array Value) (w : World) : (callFunc 36 args).run Try.prog w = .ok (.enter 36 args) w := by kernel_rfl
set_option maxRecDepth 100000 in
theorem oper_5 (w : World) :
    Calls Try.prog 24 #[.int .i64 5] w fun e w' => e = .returned (.func (Fn.func 38) #[] #[]) ∧ Below w.heap.size w w' := by
  go_enter Try.func24, Try.ntmps24
  go_wp2
  go_ret
  exact ⟨rfl, (Below.refl _ _).alloc (Nat.le_refl _) _⟩
theorem enter_5 (args : Array Value) (w : World) : (callFunc 38 args).run Try.prog w = .ok (.enter 38 args) w := by kernel_rfl
set_option maxRecDepth 100000 in
theorem oper_6 (w : World) :
    Calls Try.prog 24 #[.int .i64 6] w fun e w' => e = .returned (.func (Fn.func 39) #[] #[]) ∧ Below w.heap.size w w' := by
  go_enter Try.func24, Try.ntmps24
  go_wp2
  go_ret
  exact ⟨rfl, (Below.refl _ _).alloc (Nat.le_refl _) _⟩
theorem enter_6 (args : Array Value) (w : World) : (callFunc 39 args).run Try.prog w = .ok (.enter 39 args) w := by kernel_rfl
set_option maxRecDepth 100000 in
theorem oper_7 (w : World) :
    Calls Try.prog 24 #[.int .i64 7] w fun e w' => e = .returned (.func (Fn.func 40) #[] #[]) ∧ Below w.heap.size w w' := by
  go_enter Try.func24, Try.ntmps24
  go_wp2
  go_ret
  exact ⟨rfl, (Below.refl _ _).alloc (Nat.le_refl _) _⟩
theorem enter_7 (args : Array Value) (w : World) : (callFunc 40 args).run Try.prog w = .ok (.enter 40 args) w := by kernel_rfl
set_option maxRecDepth 100000 in
theorem oper_8 (w : World) :
    Calls Try.prog 24 #[.int .i64 8] w fun e w' => e = .returned (.func (Fn.func 41) #[] #[]) ∧ Below w.heap.size w w' := by
  go_enter Try.func24, Try.ntmps24
  go_wp2
  go_ret
  exact ⟨rfl, (Below.refl _ _).alloc (Nat.le_refl _) _⟩
theorem enter_8 (args : Array Value) (w : World) : (callFunc 41 args).run Try.prog w = .ok (.enter 41 args) w := by kernel_rfl
set_option maxRecDepth 100000 in
theorem oper_9 (w : World) :
    Calls Try.prog 24 #[.int .i64 9] w fun e w' => e = .returned (.func (Fn.func 42) #[] #[]) ∧ Below w.heap.size w w' := by
  go_enter Try.func24, Try.ntmps24
  go_wp2
  go_ret
  exact ⟨rfl, (Below.refl _ _).alloc (Nat.le_refl _) _⟩
theorem enter_9 (args : Array Value) (w : World) : (callFunc 42 args).run Try.prog w = .ok (.enter 42 args) w := by kernel_rfl
set_option maxRecDepth 100000 in
theorem oper_10 (w : World) :
    Calls Try.prog 24 #[.int .i64 10] w fun e w' => e = .returned (.func (Fn.func 44) #[] #[]) ∧ Below w.heap.size w w' := by
  go_enter Try.func24, Try.ntmps24
  go_wp2
  go_ret
  exact ⟨rfl, (Below.refl _ _).alloc (Nat.le_refl _) _⟩
theorem enter_10 (args : Array Value) (w : World) : (callFunc 44 args).run Try.prog w = .ok (.enter 44 args) w := by kernel_rfl
set_option maxRecDepth 100000 in
theorem oper_11 (w : World) :
    Calls Try.prog 24 #[.int .i64 11] w fun e w' => e = .returned (.func (Fn.func 45) #[] #[]) ∧ Below w.heap.size w w' := by
  go_enter Try.func24, Try.ntmps24
  go_wp2
  go_ret
  exact ⟨rfl, (Below.refl _ _).alloc (Nat.le_refl _) _⟩
theorem enter_11 (args : Array Value) (w : World) : (callFunc 45 args).run Try.prog w = .ok (.enter 45 args) w := by kernel_rfl
set_option maxRecDepth 100000 in
theorem oper_12 (w : World) :
    Calls Try.prog 24 #[.int .i64 12] w fun e w' => e = .returned (.func (Fn.func 46) #[] #[]) ∧ Below w.heap.size w w' := by
  go_enter Try.func24, Try.ntmps24
  go_wp2
  go_ret
  exact ⟨rfl, (Below.refl _ _).alloc (Nat.le_refl _) _⟩
theorem enter_12 (args : Array Value) (w : World) : (callFunc 46 args).run Try.prog w = .ok (.enter 46 args) w := by kernel_rfl
set_option maxRecDepth 100000 in
theorem oper_13 (w : World) :
    Calls Try.prog 24 #[.int .i64 13] w fun e w' => e = .returned (.func (Fn.func 47) #[] #[]) ∧ Below w.heap.size w w' := by
  go_enter Try.func24, Try.ntmps24
  go_wp2
  go_ret
  exact ⟨rfl, (Below.refl _ _).alloc (Nat.le_refl _) _⟩
theorem enter_13 (args : Array Value) (w : World) : (callFunc 47 args).run Try.prog w = .ok (.enter 47 args) w := by kernel_rfl
set_option maxRecDepth 100000 in
theorem oper_none (op : Int) (h : op < 0 ∨ 13 < op) (w : World) :
    Calls Try.prog 24 #[.int .i64 op] w fun e w' => e = .returned .nilFunc ∧ Below w.heap.size w w' := by
  rcases h with h | h
  · go_enter Try.func24, Try.ntmps24
    go_wp2
    go_ret
    exact ⟨rfl, (Below.refl _ _).alloc (Nat.le_refl _) _⟩
  · have h' : ¬ op < 0 := by omega
    have h'' : 14 ≤ op := by omega
    clear h
    go_enter Try.func24, Try.ntmps24
    go_wp2
    go_ret
    exact ⟨rfl, (Below.refl _ _).alloc (Nat.le_refl _) _⟩
set_option maxRecDepth 100000 in
theorem oper_zero (w : World) :
    Calls Try.prog 24 #[.int .i64 0] w fun e w' => e = .returned .nilFunc ∧ Below w.heap.size w w' := by
  go_enter Try.func24, Try.ntmps24
  go_wp2
  go_ret
  exact ⟨rfl, (Below.refl _ _).alloc (Nat.le_refl _) _⟩
theorem eql_func (K : Nat) (w : World) : (binOp BinOp.eql 35 (.func (Fn.func K) #[] #[]) .nilFunc).run Try.prog w = .ok (.bool false) w := by kernel_rfl
theorem eql_nil (w : World) : (binOp BinOp.eql 35 .nilFunc .nilFunc).run Try.prog w = .ok (.bool true) w := by kernel_rfl
end Go.Proofs.Ytfkmnbldadpaaaa.num
