/-
  impl's numTry: what an operator tells comes back with the code 0; what it panics with is recovered and becomes the fault. Old memory stays.
-/
import Derived.Test.YthbbgkpkijlclaaDoorNa
import Derived.Defers
import Derived.Recover
import Derived.Laws.EntriesVeiled
namespace Go.Proofs.YthbbgkpkijlclaaDoor.num
open Go.ChangeShapes Go.WideShapes Go.ChangeAt Go.RowKit
set_option linter.unusedVariables false
theorem ta_yes (f : Int) (w : World) : (Instr.typeAssert (.iface 168 (.int .i64 f)) 20 168 true).run Tryd.prog w = .ok (.tuple #[.int .i64 f, .bool true]) w := by kernel_rfl
theorem ta_nil (w : World) : (Instr.typeAssert .nilIface 20 168 true).run Tryd.prog w = .ok (.tuple #[.int .i64 0, .bool false]) w := by kernel_rfl

theorem catch_panicking (p q : Addr) (x y f : Int) (older : List PanicEntry) (w : World) (hp : w.cell? p = some (.int .i64 x)) (hpz : w.frozen? p = false)
   (hq : (w.setCell p (.int .i64 0)).cell? q = some (.int .i64 y)) (hqz : (w.setCell p (.int .i64 0)).frozen? q = false) :
    CallsD Tryd.prog 202 #[.pointer (some p), .pointer (some q)] (.panicking ({ v := .iface 168 (.int .i64 f), recovered := false } :: older)) w fun e u' w' =>
      e = .returned (.tuple #[]) ∧ u' = .panicking ({ v := .iface 168 (.int .i64 f), recovered := true } :: older) ∧ w' = (w.setCell p (.int .i64 0)).setCell q (.int .i64 f) := by
  refine callsD_of_wpS Tryd.func202 rfl fun c₀ cs hu => ?_
  apply wpS_seq
  apply wpS_region
  simp [wpOpsS, go_sem, recoverD, hu, Tryd.ntmps202, Exit.thenS, ta_yes]
  apply wpS_seq
  apply wpS_region
  simp [wpOpsS, go_sem, Exit.thenS]
  refine wpS_cond (t := true) (by simp [Act.eval, Array.replicate]) ?_
  simp only [if_true]
  apply wpS_region
  simp [wpOpsS, go_sem, hp, hpz, hq, hqz, bodyPostS, results, Tryd.results202]
theorem catch_idle (p q : Addr) (w : World) :
    CallsD Tryd.prog 202 #[.pointer (some p), .pointer (some q)] .returning w fun e u' w' => e = .returned (.tuple #[]) ∧ u' = .returning ∧ w' = w := by
  refine callsD_of_wpS Tryd.func202 rfl fun c₀ cs hu => ?_
  apply wpS_seq
  apply wpS_region
  simp [wpOpsS, go_sem, recoverD, hu, Tryd.ntmps202, Exit.thenS, ta_nil]
  apply wpS_seq
  apply wpS_region
  simp [wpOpsS, go_sem, Exit.thenS]
  refine wpS_cond (t := false) (by simp [Act.eval, Array.replicate]) ?_
  simp only [Bool.false_eq_true, if_false]
  refine wpS_of_wp (wp_skip ?_)
  cases c₀
  simp_all [bodyPostS, results, Tryd.results202]

theorem try_ok (K B : Nat) (a b v u : Int) (hk : ∀ args w, (callFunc K args).run Tryd.prog w = .ok (.enter K args) w) (hkB : ∀ args w, (callFunc B args).run Tryd.prog w = .ok (.enter B args) w)
    (hc : Hid (∀ w, Calls Tryd.prog K #[.int .i64 a, .int .i64 b] w fun e w' => e = .returned (.int .i64 v) ∧ w' = w)) (hb : Hid (∀ w, Calls Tryd.prog B #[.int .i64 v] w fun e w' => e = .returned (.int .i64 u) ∧ w' = w)) (w : World) :
    Calls Tryd.prog 136 #[.func (Fn.func K) #[] #[], .func (Fn.func B) #[] #[], .int .i64 a, .int .i64 b] w fun e w' => e = .returned (.tuple #[.int .i64 u, .int .i64 0]) ∧ Below w.heap.size w w' := by
  have hmf : ∀ (fn : Fn) (first cap : Array Value) (w : World), (Instr.makeFunc fn first cap).run Tryd.prog w = .ok (.func fn first cap) w := fun _ _ _ _ => rfl
  go_enter_defers Tryd.func136, Tryd.ntmps136
  go_wp2_with fail
  refine (hc.out _).mono ?_
  rintro e w' ⟨rfl, rfl⟩
  go_wp2_with fail
  refine (hb.out _).mono ?_
  rintro e w' ⟨rfl, rfl⟩
  clear hk hkB
  go_wp2
  refine leaves_cons (f := 202) (args := #[.pointer (some ⟨w.heap.size, 0, none⟩), .pointer (some ⟨w.heap.size + 1, 0, none⟩)]) (by simp) (by simp [go_sem]) ?_
  refine (catch_idle ⟨w.heap.size, 0, none⟩ ⟨w.heap.size + 1, 0, none⟩ _).mono ?_
  rintro e u' w'' ⟨rfl, rfl, rfl⟩
  simp [Leaves, settle, results, Tryd.results136, go_sem]
  exact ((Below.refl _ _).alloc (Nat.le_refl _) _).alloc (by simp) _
theorem try_no (K B : Nat) (a b f : Int) (hk : ∀ args w, (callFunc K args).run Tryd.prog w = .ok (.enter K args) w) (hkB : ∀ args w, (callFunc B args).run Tryd.prog w = .ok (.enter B args) w)
    (hc : Hid (∀ w, Calls Tryd.prog K #[.int .i64 a, .int .i64 b] w fun e w' => e = .panicked [{ v := .iface 168 (.int .i64 f), recovered := false }] ∧ w' = w)) (w : World) :
    Calls Tryd.prog 136 #[.func (Fn.func K) #[] #[], .func (Fn.func B) #[] #[], .int .i64 a, .int .i64 b] w fun e w' => e = .returned (.tuple #[.int .i64 0, .int .i64 f]) ∧ Below w.heap.size w w' := by
  have hmf : ∀ (fn : Fn) (first cap : Array Value) (w : World), (Instr.makeFunc fn first cap).run Tryd.prog w = .ok (.func fn first cap) w := fun _ _ _ _ => rfl
  go_enter_defers Tryd.func136, Tryd.ntmps136
  go_wp2_with fail
  refine (hc.out _).mono ?_
  rintro e w' ⟨rfl, rfl⟩
  clear hk hkB
  go_wp2
  refine leaves_cons (f := 202) (args := #[.pointer (some ⟨w.heap.size, 0, none⟩), .pointer (some ⟨w.heap.size + 1, 0, none⟩)]) (by simp) (by simp [go_sem]) ?_
  refine (catch_panicking ⟨w.heap.size, 0, none⟩ ⟨w.heap.size + 1, 0, none⟩ 0 0 f [] _ ?_ ?_ ?_ ?_).mono ?_
  · simp [go_sem]
  · simp [go_sem]
  · simp [go_sem]
  · simp [go_sem]
  rintro e u' w'' ⟨rfl, rfl, rfl⟩
  simp [Leaves, settle, results, Tryd.results136, go_sem]
  exact ((Below.refl _ _).alloc (Nat.le_refl _) _).alloc (by simp) _
theorem try_off (K B : Nat) (a b v f : Int) (hk : ∀ args w, (callFunc K args).run Tryd.prog w = .ok (.enter K args) w) (hkB : ∀ args w, (callFunc B args).run Tryd.prog w = .ok (.enter B args) w)
    (hc : Hid (∀ w, Calls Tryd.prog K #[.int .i64 a, .int .i64 b] w fun e w' => e = .returned (.int .i64 v) ∧ w' = w)) (hb : Hid (∀ w, Calls Tryd.prog B #[.int .i64 v] w fun e w' => e = .panicked [{ v := .iface 168 (.int .i64 f), recovered := false }] ∧ w' = w)) (w : World) :
    Calls Tryd.prog 136 #[.func (Fn.func K) #[] #[], .func (Fn.func B) #[] #[], .int .i64 a, .int .i64 b] w fun e w' => e = .returned (.tuple #[.int .i64 0, .int .i64 f]) ∧ Below w.heap.size w w' := by
  have hmf : ∀ (fn : Fn) (first cap : Array Value) (w : World), (Instr.makeFunc fn first cap).run Tryd.prog w = .ok (.func fn first cap) w := fun _ _ _ _ => rfl
  go_enter_defers Tryd.func136, Tryd.ntmps136
  go_wp2_with fail
  refine (hc.out _).mono ?_
  rintro e w' ⟨rfl, rfl⟩
  go_wp2_with fail
  refine (hb.out _).mono ?_
  rintro e w' ⟨rfl, rfl⟩
  clear hk hkB
  go_wp2
  refine leaves_cons (f := 202) (args := #[.pointer (some ⟨w.heap.size, 0, none⟩), .pointer (some ⟨w.heap.size + 1, 0, none⟩)]) (by simp) (by simp [go_sem]) ?_
  refine (catch_panicking ⟨w.heap.size, 0, none⟩ ⟨w.heap.size + 1, 0, none⟩ 0 0 f [] _ ?_ ?_ ?_ ?_).mono ?_
  · simp [go_sem]
  · simp [go_sem]
  · simp [go_sem]
  · simp [go_sem]
  rintro e u' w'' ⟨rfl, rfl, rfl⟩
  simp [Leaves, settle, results, Tryd.results136, go_sem]
  exact ((Below.refl _ _).alloc (Nat.le_refl _) _).alloc (by simp) _
end Go.Proofs.YthbbgkpkijlclaaDoor.num
