/-
  errors.As at a target of the program's own type: what reflectlite tells of the types.
  errors.As at a target of the program's own type, walked.
  errors.As at an error that wraps another one; the fault of an error.
  The fault of an error.
-/
import Derived.Test.YtjikjejfobnfnaaGreatDoorC08
import Derived.LaidEql
import Derived.Stop.Asserts
import Derived.RowKitTokens
namespace Go.Proofs.YtjikjejfobnfnaaGreatDoor.err
open Go.RowKit Go.Extern.Stop Go.Stop Go.Extern Go.Proofs.YtjikjejfobnfnaaGreatDoor.num Go.Proofs.YtjikjejfobnfnaaGreatDoor.lex
set_option linter.unusedVariables false
theorem valueOf82 (t : Addr) (w : World) : (ReflectliteValue.unpack (.iface 82 (.pointer (some t)))).run Tryz.prog w
    = .ok (.agg #[.pointer (some ⟨8, 82, none⟩), .pointer (some ⟨w.heap.size, 0, none⟩), .int .u64 150]) (w.alloc (.cells #[.pointer (some t)] 82)) := by kernel_rfl
theorem type82 (a : Addr) (w : World) : (ReflectliteValue.methodAny (ReflectliteValue.valueError "reflectlite.Value.Type" 0) (fun t _ _ _ => ReflectliteType.toType t) #[.agg #[.pointer (some ⟨8, 82, none⟩), .pointer (some a), .int .u64 150]]).run Tryz.prog w
    = .ok (.iface 174 (.agg #[.pointer (some ⟨8, 82, none⟩)])) w := by kernel_rfl
theorem methodKind (h : Value) (w : World) : (Go.method 386 174 (.agg #[h]) "Kind").run Tryz.prog w = .ok (208, h) w := by kernel_rfl
theorem kind82 (w : World) : ((ReflectliteType.abiMethod fun t => (fun a : Nat => Value.int IntKind.u8 (a : Int)) <$> Rtype.kind t) #[.pointer (some ⟨8, 82, none⟩)]).run Tryz.prog w = .ok (.int .u8 22) w := by kernel_rfl
theorem kind77 (w : World) : ((ReflectliteType.abiMethod fun t => (fun a : Nat => Value.int IntKind.u8 (a : Int)) <$> Rtype.kind t) #[.pointer (some ⟨8, 77, none⟩)]).run Tryz.prog w = .ok (.int .u8 25) w := by kernel_rfl
theorem rlm (z : Sem Value) (f : TypeId → Addr → Nat → Nat → Sem Value) (v : Value) :
    ReflectliteValue.method z f #[v] = (do match ← ReflectliteValue.parts v with | none => z | some (t, a, fl) => f t a fl (fl % 32)) := rfl
theorem parts82 (a : Addr) (w : World) : (ReflectliteValue.parts (.agg #[.pointer (some ⟨8, 82, none⟩), .pointer (some a), .int .u64 150])).run Tryz.prog w = .ok (some (82, a, 150)) w := by kernel_rfl
/-- (Value).IsNil at a pointer that is not nil. -/
theorem isNil82 (a p : Addr) (W : World) (ha : W.cell? a = some (.pointer (some p))) :
    (ReflectliteValue.method (ReflectliteValue.valueError "reflectlite.Value.IsNil" 0) ReflectliteValue.isNil #[.agg #[.pointer (some ⟨8, 82, none⟩), .pointer (some a), .int .u64 150]]).run Tryz.prog W = .ok (.bool false) W := by
  rw [rlm]
  simp only [Sem.run_bind, parts82, Result.andThen]
  simp [ReflectliteValue.isNil, loadVar, isAgg, underlying, Tryz.underlying82, ha, Result.andThen]
theorem methodElem (h : Value) (w : World) : (Go.method 386 174 (.agg #[h]) "Elem").run Tryz.prog w = .ok (234, .agg #[h]) w := by kernel_rfl
theorem methodImplements (h : Value) (w : World) : (Go.method 386 174 (.agg #[h]) "Implements").run Tryz.prog w = .ok (235, .agg #[h]) w := by kernel_rfl
theorem methodAssignableTo (h : Value) (w : World) : (Go.method 386 174 (.agg #[h]) "AssignableTo").run Tryz.prog w = .ok (232, .agg #[h]) w := by kernel_rfl
theorem elem82 (w : World) : (ReflectliteType.method ReflectliteType.elem #[.agg #[.pointer (some ⟨8, 82, none⟩)]]).run Tryz.prog w = .ok (.iface 174 (.agg #[.pointer (some ⟨8, 77, none⟩)])) w := by kernel_rfl
theorem implements77 (w : World) : (ReflectliteType.relation "Implements" ReflectliteType.implements_ #[.agg #[.pointer (some ⟨8, 77, none⟩)], .iface 174 (.agg #[.pointer (some ⟨8, 48, none⟩)])]).run Tryz.prog w = .ok (.bool true) w := by kernel_rfl
theorem typeOf77 (v : Value) (w : World) : (ReflectliteType.typeOf #[.iface 77 v]).run Tryz.prog w = .ok (.iface 174 (.agg #[.pointer (some ⟨8, 77, none⟩)])) w := by kernel_rfl
theorem typeOf113 (v : Value) (w : World) : (ReflectliteType.typeOf #[.iface 113 v]).run Tryz.prog w = .ok (.iface 174 (.agg #[.pointer (some ⟨8, 113, none⟩)])) w := by kernel_rfl
theorem assignable77 (w : World) : (ReflectliteType.relation "AssignableTo" ReflectliteType.assignableTo #[.agg #[.pointer (some ⟨8, 77, none⟩)], .iface 174 (.agg #[.pointer (some ⟨8, 77, none⟩)])]).run Tryz.prog w = .ok (.bool true) w := by kernel_rfl
theorem assignable113 (w : World) : (ReflectliteType.relation "AssignableTo" ReflectliteType.assignableTo #[.agg #[.pointer (some ⟨8, 113, none⟩)], .iface 174 (.agg #[.pointer (some ⟨8, 77, none⟩)])]).run Tryz.prog w = .ok (.bool false) w := by kernel_rfl
theorem valueOf77 (c a : Value) (w : World) : (ReflectliteValue.unpack (.iface 77 (.agg #[c, a]))).run Tryz.prog w
    = .ok (.agg #[.pointer (some ⟨8, 77, none⟩), .pointer (some ⟨w.heap.size, 0, none⟩), .int .u64 153]) (w.alloc (.cells #[c, a] 77)) := by kernel_rfl
theorem elemOf82 (w : World) : (Rtype.elem? 82).run Tryz.prog w = .ok (some 77) w := by kernel_rfl
theorem mk77 (p : Addr) (w : World) : (ReflectliteValue.mk 77 p ReflectliteValue.flagAddr).run Tryz.prog w = .ok (.agg #[.pointer (some ⟨8, 77, none⟩), .pointer (some p), .int .u64 409]) w := by kernel_rfl
theorem elemV82 (a p : Addr) (W : World) (ha : W.cell? a = some (.pointer (some p))) :
    (ReflectliteValue.method (ReflectliteValue.valueError "reflectlite.Value.Elem" 0) ReflectliteValue.elem #[.agg #[.pointer (some ⟨8, 82, none⟩), .pointer (some a), .int .u64 150]]).run Tryz.prog W
      = .ok (.agg #[.pointer (some ⟨8, 77, none⟩), .pointer (some p), .int .u64 409]) W := by
  rw [rlm]
  simp only [Sem.run_bind, parts82, Result.andThen]
  simp [ReflectliteValue.elem, loadVar, isAgg, underlying, Tryz.underlying82, ha, Result.andThen, elemOf82, mk77]
theorem rls (v x : Value) : ReflectliteValue.set #[v, x] = (do
    let (some (dst, a, fl), some (src, b, _)) := (← ReflectliteValue.parts v, ← ReflectliteValue.parts x)
      | unsupported (.noEntry "extern/(internal/reflectlite.Value).Set.zeroValue")
    if fl / ReflectliteValue.flagAddr % 2 == 0 then unsupported (.noEntry "extern/(internal/reflectlite.Value).Set.unaddressable")
    let val ← loadVar src b
    if ← Rtype.directlyAssignable dst src then storeVar dst a val
    else if ← Rtype.implements dst src then
      if (← Rtype.kind src) == 20 then
        match val with
        | .nilIface => unsupported (.noEntry "extern/reflectlite: a nil value of one interface type handed on as a value of another")
        | _ => storeVar dst a val
      else storeVar dst a (.iface src val)
    else panicString ("reflectlite.Set: value of type " ++ (← Rtype.spelt src) ++ " is not assignable to type " ++ (← Rtype.spelt dst))
    pure (.tuple #[])) := rfl
theorem parts77a (a : Addr) (w : World) : (ReflectliteValue.parts (.agg #[.pointer (some ⟨8, 77, none⟩), .pointer (some a), .int .u64 409])).run Tryz.prog w = .ok (some (77, a, 409)) w := by kernel_rfl
theorem parts77 (a : Addr) (w : World) : (ReflectliteValue.parts (.agg #[.pointer (some ⟨8, 77, none⟩), .pointer (some a), .int .u64 153])).run Tryz.prog w = .ok (some (77, a, 153)) w := by kernel_rfl
theorem direct77 (w : World) : (Rtype.directlyAssignable 77 77).run Tryz.prog w = .ok true w := by kernel_rfl
theorem noAs (v : Value) (xT : TypeId) (w : World) : (Instr.typeAssert (.iface 113 v) xT 179 true).run Tryz.prog w = .ok (.tuple #[.nilIface, .bool false]) w := run_typeAssert_lacksB Tryz.underlying179 (by kernel_rfl) (by kernel_rfl) v xT w
theorem hasUn (v : Value) (xT : TypeId) (w : World) : (Instr.typeAssert (.iface 113 v) xT 182 true).run Tryz.prog w = .ok (.tuple #[.iface 113 v, .bool true]) w := run_typeAssert_hasB Tryz.underlying182 (by kernel_rfl) v xT w
theorem methUn (a b : Value) (w : World) : (Go.method 386 113 (.agg #[a, b]) "Unwrap").run Tryz.prog w = .ok (217, .agg #[a, b]) w := by kernel_rfl
theorem size77 (w : World) : (sizeOf 77).run Tryz.prog w = .ok 2 w := by kernel_rfl
/-- (Value).Set: the misfit at b gets what the Value's own variable holds. -/
theorem set77 (b s : Nat) (c' a' : Int) (o0 o1 : Value) (W : World) (hs : W.heap[s]? = some (.cells #[.int .i64 c', .int .i64 a'] 77)) (hb : W.heap[b]? = some (.cells #[o0, o1] 77)) :
    (ReflectliteValue.set #[.agg #[.pointer (some ⟨8, 77, none⟩), .pointer (some ⟨b, 0, none⟩), .int .u64 409], .agg #[.pointer (some ⟨8, 77, none⟩), .pointer (some ⟨s, 0, none⟩), .int .u64 153]]).run Tryz.prog W
      = .ok (.tuple #[]) ((W.setCell ⟨b, 0, none⟩ (.int .i64 c')).setCell ⟨b, 1, none⟩ (.int .i64 a')) := by
  have hl := run_loadVar_row (P := Tryz.prog) W s 77 77 #[.int .i64 c', .int .i64 a'] (0, 0) _ hs Tryz.underlying77 rfl (by kernel_rfl)
  have z0 : W.cell? ⟨b, 0, none⟩ = some o0 := cell_of hb rfl
  have z1 : W.cell? ⟨b, 1, none⟩ = some o1 := cell_of hb rfl
  have f0 : W.frozen? ⟨b, 0, none⟩ = false := frozen_of hb
  have f1 : W.frozen? ⟨b, 1, none⟩ = false := frozen_of hb
  have y1 : (W.setCell ⟨b, 0, none⟩ (.int .i64 c')).cell? ⟨b, 1, none⟩ = some o1 := by
    have := at_same (i := 0) (v := .int .i64 c') hb
    exact cell_of this rfl
  have g1 : (W.setCell ⟨b, 0, none⟩ (.int .i64 c')).frozen? ⟨b, 1, none⟩ = false := by rw [World.frozen?_setCell]; exact f1
  rw [rls]
  simp only [Sem.run_bind, parts77a, parts77, Result.andThen]
  have s0 : (store ⟨b, 0, none⟩ (.int .i64 c')).run Tryz.prog W = .ok () (W.setCell ⟨b, 0, none⟩ (.int .i64 c')) := by
    rw [run_store Tryz.prog W ⟨b, 0, none⟩ _ _ (by rfl)]
    simp [z0, f0]
  have s1 : (store ⟨b, 1, none⟩ (.int .i64 a')).run Tryz.prog (W.setCell ⟨b, 0, none⟩ (.int .i64 c')) = .ok () ((W.setCell ⟨b, 0, none⟩ (.int .i64 c')).setCell ⟨b, 1, none⟩ (.int .i64 a')) := by
    rw [run_store Tryz.prog _ ⟨b, 1, none⟩ _ _ (by rfl)]
    simp [y1, g1]
  simp [ReflectliteValue.flagAddr, hl, Result.andThen, direct77, storeVar, Value.cells, storeCells, Addr.add, s0, s1]
def vV (va : Nat) : Value := .agg #[.pointer (some ⟨8, 82, none⟩), .pointer (some ⟨va, 0, none⟩), .int .u64 150]
/-- A misfit that is set, all else as it was. -/
structure Set77 (b : Nat) (c a : Int) (w w' : World) : Prop where
  blk : w'.heap[b]? = some (.cells #[.int .i64 c, .int .i64 a] 77)
  grown : w.grownBy w' (some b)
theorem set_of {w w1 : World} {b : Nat} {o0 o1 : Value} (c a : Int) (hb : w1.heap[b]? = some (.cells #[o0, o1] 77)) (hg : w.grownBy w1 (some b)) : Set77 b c a w ((w1.setCell ⟨b, 0, none⟩ (.int .i64 c)).setCell ⟨b, 1, none⟩ (.int .i64 a)) := by
  refine ⟨by have := at_same (i := 1) (v := .int .i64 a) (at_same (i := 0) (v := .int .i64 c) hb); simpa using this, ?_⟩
  refine ⟨hg.os, hg.tape, hg.output, by simpa using hg.size, fun i hi hne => ?_⟩
  have hne' : i ≠ b := fun e => hne (by rw [e])
  exact ((Below.heap_setCell _ ⟨b, 1, none⟩ _ i hne').trans (Below.heap_setCell _ ⟨b, 0, none⟩ _ i hne')).trans (hg.block i hi hne)
set_option maxHeartbeats 4000000 in
set_option maxRecDepth 100000 in
theorem as_hit (c a : Int) (b va : Nat) (o0 o1 : Value) (w : World) (hb : w.heap[b]? = some (.cells #[o0, o1] 77)) (hv : w.heap[va]? = some (.cells #[.pointer (some ⟨b, 0, none⟩)] 82)) :
    Calls Tryz.prog 65 #[.iface 77 (.agg #[.int .i64 c, .int .i64 a]), .iface 82 (.pointer (some ⟨b, 0, none⟩)), .agg #[.pointer (some ⟨8, 82, none⟩), .pointer (some ⟨va, 0, none⟩), .int .u64 150], .iface 174 (.agg #[.pointer (some ⟨8, 77, none⟩)])] w
      fun e w' => e = .returned (.bool true) ∧ Set77 b c a w w' := by
  have h62 := @run_callFunc_extern Tryz.prog 62 _ (fun args => ReflectliteValue.unpack (args.getD 0 (.tuple #[]))) Tryz.func62 (by kernel_rfl) (by kernel_rfl) (by kernel_rfl) (by kernel_rfl)
  have h110 := @run_callFunc_extern Tryz.prog 110 _ ReflectliteType.typeOf Tryz.func110 (by kernel_rfl) (by kernel_rfl) (by kernel_rfl) (by kernel_rfl)
  have h232 := @run_callFunc_extern Tryz.prog 232 _ (ReflectliteType.relation "AssignableTo" ReflectliteType.assignableTo) Tryz.func232 (by kernel_rfl) (by kernel_rfl) (by kernel_rfl) (by kernel_rfl)
  have h111 := @run_callFunc_extern Tryz.prog 111 _ (ReflectliteValue.method (ReflectliteValue.valueError "reflectlite.Value.Elem" 0) ReflectliteValue.elem) Tryz.func111 (by kernel_rfl) (by kernel_rfl) (by kernel_rfl) (by kernel_rfl)
  have h112 := @run_callFunc_extern Tryz.prog 112 _ ReflectliteValue.set Tryz.func112 (by kernel_rfl) (by kernel_rfl) (by kernel_rfl) (by kernel_rfl)
  have tO := typeOf77
  have mA := methodAssignableTo
  have a77 := assignable77
  have v77 := valueOf77
  have el := elemV82 ⟨va, 0, none⟩ ⟨b, 0, none⟩ (w.alloc (.cells #[.pointer (some ⟨8, 82, none⟩), .pointer (some ⟨va, 0, none⟩), .int .u64 150] 117)) (cell_of (at_alloc hv) rfl)
  have st := set77 b (w.heap.size + 1) c a o0 o1 ((w.alloc (.cells #[.pointer (some ⟨8, 82, none⟩), .pointer (some ⟨va, 0, none⟩), .int .u64 150] 117)).alloc (.cells #[.int .i64 c, .int .i64 a] 77)) (by have := one_first (w.alloc (.cells #[.pointer (some ⟨8, 82, none⟩), .pointer (some ⟨va, 0, none⟩), .int .u64 150] 117)) (.cells #[.int .i64 c, .int .i64 a] 77); simpa using this) (at_alloc (at_alloc hb))
  have HB := hide (And.intro hb hv)
  clear hb hv
  go_enter Tryz.func65, Tryz.ntmps65
  go_wp2
  refine wp_loop_rounds 1 ?_
  rw [rounds_succ]
  go_wp2
  go_ret
  refine ⟨rfl, set_of c a (at_alloc (at_alloc (unhide HB).1)) ((World.grownBy_alloc _ _ _).trans (World.grownBy_alloc _ _ _))⟩
set_option maxRecDepth 100000 in
theorem unwrap_any (n e : Value) (w : World) : Calls Tryz.prog 217 #[.agg #[n, e]] w fun x w' => x = .returned e ∧ w' = w.alloc (.cells #[n, e] 113) := by
  go_enter Tryz.func217, Tryz.ntmps217
  go_wp2
  go_ret
  exact ⟨rfl, rfl⟩
set_option maxHeartbeats 8000000 in
set_option maxRecDepth 100000 in
theorem as_wrap (n c a : Int) (b va : Nat) (o0 o1 : Value) (w : World) (hb : w.heap[b]? = some (.cells #[o0, o1] 77)) (hv : w.heap[va]? = some (.cells #[.pointer (some ⟨b, 0, none⟩)] 82)) :
    Calls Tryz.prog 65 #[.iface 113 (.agg #[.int .i64 n, .iface 77 (.agg #[.int .i64 c, .int .i64 a])]), .iface 82 (.pointer (some ⟨b, 0, none⟩)), .agg #[.pointer (some ⟨8, 82, none⟩), .pointer (some ⟨va, 0, none⟩), .int .u64 150], .iface 174 (.agg #[.pointer (some ⟨8, 77, none⟩)])] w
      fun e w' => e = .returned (.bool true) ∧ Set77 b c a w w' := by
  have h62 := @run_callFunc_extern Tryz.prog 62 _ (fun args => ReflectliteValue.unpack (args.getD 0 (.tuple #[]))) Tryz.func62 (by kernel_rfl) (by kernel_rfl) (by kernel_rfl) (by kernel_rfl)
  have h110 := @run_callFunc_extern Tryz.prog 110 _ ReflectliteType.typeOf Tryz.func110 (by kernel_rfl) (by kernel_rfl) (by kernel_rfl) (by kernel_rfl)
  have h232 := @run_callFunc_extern Tryz.prog 232 _ (ReflectliteType.relation "AssignableTo" ReflectliteType.assignableTo) Tryz.func232 (by kernel_rfl) (by kernel_rfl) (by kernel_rfl) (by kernel_rfl)
  have h111 := @run_callFunc_extern Tryz.prog 111 _ (ReflectliteValue.method (ReflectliteValue.valueError "reflectlite.Value.Elem" 0) ReflectliteValue.elem) Tryz.func111 (by kernel_rfl) (by kernel_rfl) (by kernel_rfl) (by kernel_rfl)
  have h112 := @run_callFunc_extern Tryz.prog 112 _ ReflectliteValue.set Tryz.func112 (by kernel_rfl) (by kernel_rfl) (by kernel_rfl) (by kernel_rfl)
  have tO := typeOf77
  have mA := methodAssignableTo
  have a77 := assignable77
  have v77 := valueOf77
  have tO2 := typeOf113
  have a113 := assignable113
  have nA := noAs
  have hU := hasUn
  have mU := methUn
  have hun := unwrap_any (.int .i64 n) (.iface 77 (.agg #[.int .i64 c, .int .i64 a]))
  have el := elemV82 ⟨va, 0, none⟩ ⟨b, 0, none⟩ ((w.alloc (.cells #[.pointer (some ⟨8, 82, none⟩), .pointer (some ⟨va, 0, none⟩), .int .u64 150] 117)).alloc (.cells #[.int .i64 n, .iface 77 (.agg #[.int .i64 c, .int .i64 a])] 113)) (cell_of (at_alloc (at_alloc hv)) rfl)
  have st := set77 b (w.heap.size + 1 + 1) c a o0 o1 (((w.alloc (.cells #[.pointer (some ⟨8, 82, none⟩), .pointer (some ⟨va, 0, none⟩), .int .u64 150] 117)).alloc (.cells #[.int .i64 n, .iface 77 (.agg #[.int .i64 c, .int .i64 a])] 113)).alloc (.cells #[.int .i64 c, .int .i64 a] 77)) (by have := one_first ((w.alloc (.cells #[.pointer (some ⟨8, 82, none⟩), .pointer (some ⟨va, 0, none⟩), .int .u64 150] 117)).alloc (.cells #[.int .i64 n, .iface 77 (.agg #[.int .i64 c, .int .i64 a])] 113)) (.cells #[.int .i64 c, .int .i64 a] 77); simpa using this) (at_alloc (at_alloc (at_alloc hb)))
  have HB := hide (And.intro hb hv)
  clear hb hv
  go_enter Tryz.func65, Tryz.ntmps65
  go_wp2
  refine wp_loop_rounds 2 ?_
  rw [rounds_succ]
  go_wp2_with (go_at_call 217; refine (hun _).mono ?_; rintro e w1 ⟨rfl, rfl⟩)
  rw [rounds_succ]
  go_wp2
  go_ret
  refine ⟨rfl, set_of c a (at_alloc (at_alloc (at_alloc (unhide HB).1))) (((World.grownBy_alloc _ _ _).trans (World.grownBy_alloc _ _ _)).trans (World.grownBy_alloc _ _ _))⟩
/-- The program's own type of errors. -/
def errT : Value := .iface 174 (.agg #[.pointer (some ⟨8, 48, none⟩)])
set_option maxHeartbeats 4000000 in
set_option maxRecDepth 100000 in
theorem As_any (err : Value) (c a : Int) (b : Nat) (o0 o1 : Value) (w : World) (he : ∃ t u, err = .iface t u) (hg : w.cell? ⟨0, 0, none⟩ = some (.iface 174 (.agg #[.pointer (some ⟨8, 48, none⟩)]))) (hb : w.heap[b]? = some (.cells #[o0, o1] 77)) (h0 : 0 < b)
    (has : ∀ (va : Nat) (w : World), w.heap[b]? = some (.cells #[o0, o1] 77) → w.heap[va]? = some (.cells #[.pointer (some ⟨b, 0, none⟩)] 82) → Calls Tryz.prog 65 #[err, .iface 82 (.pointer (some ⟨b, 0, none⟩)), .agg #[.pointer (some ⟨8, 82, none⟩), .pointer (some ⟨va, 0, none⟩), .int .u64 150], .iface 174 (.agg #[.pointer (some ⟨8, 77, none⟩)])] w
      fun e w' => e = .returned (.bool true) ∧ Set77 b c a w w') :
    Calls Tryz.prog 40 #[err, .iface 82 (.pointer (some ⟨b, 0, none⟩))] w fun e w' => e = .returned (.bool true) ∧ Set77 b c a w w' := by
  obtain ⟨et, eu, rfl⟩ := he
  have h62 := @run_callFunc_extern Tryz.prog 62 _ (fun args => ReflectliteValue.unpack (args.getD 0 (.tuple #[]))) Tryz.func62 (by kernel_rfl) (by kernel_rfl) (by kernel_rfl) (by kernel_rfl)
  have h63 := @run_callFunc_extern Tryz.prog 63 _ (ReflectliteValue.methodAny (ReflectliteValue.valueError "reflectlite.Value.Type" 0) (fun t _ _ _ => ReflectliteType.toType t)) Tryz.func63 (by kernel_rfl) (by kernel_rfl) (by kernel_rfl) (by kernel_rfl)
  have h64 := @run_callFunc_extern Tryz.prog 64 _ (ReflectliteValue.method (ReflectliteValue.valueError "reflectlite.Value.IsNil" 0) ReflectliteValue.isNil) Tryz.func64 (by kernel_rfl) (by kernel_rfl) (by kernel_rfl) (by kernel_rfl)
  have h208 := @run_callFunc_extern Tryz.prog 208 _ (ReflectliteType.abiMethod fun t => do pure (.int .u8 (← Rtype.kind t))) Tryz.func208 (by kernel_rfl) (by kernel_rfl) (by kernel_rfl) (by kernel_rfl)
  have h234 := @run_callFunc_extern Tryz.prog 234 _ (ReflectliteType.method ReflectliteType.elem) Tryz.func234 (by kernel_rfl) (by kernel_rfl) (by kernel_rfl) (by kernel_rfl)
  have h235 := @run_callFunc_extern Tryz.prog 235 _ (ReflectliteType.relation "Implements" ReflectliteType.implements_) Tryz.func235 (by kernel_rfl) (by kernel_rfl) (by kernel_rfl) (by kernel_rfl)
  have f6 := valueOf82
  have f7 := type82
  have mK := methodKind
  have mE := methodElem
  have mI := methodImplements
  have k82 := kind82
  have k77 := kind77
  have e82 := elem82
  have i77 := implements77
  have hbl : b < w.heap.size := (Array.getElem?_eq_some_iff.1 hb).1
  have n8 := isNil82 ⟨w.heap.size, 0, none⟩ ⟨b, 0, none⟩ ((w.alloc (.cells #[.pointer (some ⟨b, 0, none⟩)] 82)).alloc (.cells #[.pointer (some ⟨8, 82, none⟩), .pointer (some ⟨w.heap.size, 0, none⟩), .int .u64 150] 117)) (by simp)
  have hg2 : ((w.alloc (.cells #[.pointer (some ⟨b, 0, none⟩)] 82)).alloc (.cells #[.pointer (some ⟨8, 82, none⟩), .pointer (some ⟨w.heap.size, 0, none⟩), .int .u64 150] 117)).cell? ⟨0, 0, none⟩ = some (.iface 174 (.agg #[.pointer (some ⟨8, 48, none⟩)])) := by
    rw [World.cell?_alloc_lt _ _ ⟨0, 0, none⟩ (by simp), World.cell?_alloc_lt _ _ ⟨0, 0, none⟩ (by show 0 < w.heap.size; omega)]; exact hg
  have hcall := has w.heap.size ((w.alloc (.cells #[.pointer (some ⟨b, 0, none⟩)] 82)).alloc (.cells #[.pointer (some ⟨8, 82, none⟩), .pointer (some ⟨w.heap.size, 0, none⟩), .int .u64 150] 117)) (at_alloc (at_alloc hb)) (at_alloc (one_first _ _))
  clear has hb
  go_enter Tryz.func40, Tryz.ntmps40
  go_wp2_with (go_at_call 65; refine hcall.mono ?_; rintro e w1 ⟨rfl, hS⟩; have HS := hide hS; clear hS)
  go_ret
  exact ⟨rfl, ⟨(unhide HS).blk, ((World.grownBy_alloc _ _ _).trans (World.grownBy_alloc _ _ _)).trans (unhide HS).grown⟩⟩
theorem results_cell1' {P : Program} {fn : Func} {p : Tmp} {ty : TypeId} (h : fn.results = #[.cell p ty]) (tmps : Array Value) (w : World) (g : Nat) (t : TypeId) (cs : Array Value) (fr : Nat × Nat) (d : TypeDesc)
    (hp : tmps.getD p undef = .pointer (some ⟨g, 0, none⟩)) (hg : w.heap[g]? = some (.cells cs t fr))
    (hu : P.underlying ty = some d) (hd : (match d with | .struct _ | .array _ _ => true | _ => false) = true) (hi : (P.info? ty).map (·.size) = some cs.size) :
    (results fn tmps).run P w = .ok (.agg cs) w := by
  have hp' : tmps[p]?.getD undef = .pointer (some ⟨g, 0, none⟩) := by simpa using hp
  simp [results, h, hp', asAddr, run_loadVar_row w g t ty cs fr d hg hu hd hi]
set_option maxHeartbeats 4000000 in
set_option maxRecDepth 100000 in
theorem faultOf_any (err : Value) (c a : Int) (w : World) (he : ∃ t u, err = .iface t u) (hg : w.cell? ⟨0, 0, none⟩ = some (.iface 174 (.agg #[.pointer (some ⟨8, 48, none⟩)])))
    (has : ∀ (b va : Nat) (o0 o1 : Value) (w : World), w.heap[b]? = some (.cells #[o0, o1] 77) → w.heap[va]? = some (.cells #[.pointer (some ⟨b, 0, none⟩)] 82) → Calls Tryz.prog 65 #[err, .iface 82 (.pointer (some ⟨b, 0, none⟩)), .agg #[.pointer (some ⟨8, 82, none⟩), .pointer (some ⟨va, 0, none⟩), .int .u64 150], .iface 174 (.agg #[.pointer (some ⟨8, 77, none⟩)])] w
      fun e w' => e = .returned (.bool true) ∧ Set77 b c a w w') :
    Calls Tryz.prog 20 #[err] w fun e w' => e = .returned (.agg #[.int .i64 c, .int .i64 a]) ∧ Below w.heap.size w w' := by
  have h0 : 0 < w.heap.size := by
    rcases Nat.eq_zero_or_pos w.heap.size with h0 | h
    · simp [World.cell?, h0] at hg
    · exact h
  have hg2 : ((w.alloc (.cells #[.int .i64 0, .int .i64 0] 25)).alloc (.cells #[.int .i64 0, .int .i64 0] 77)).cell? ⟨0, 0, none⟩ = some (.iface 174 (.agg #[.pointer (some ⟨8, 48, none⟩)])) := by
    rw [World.cell?_alloc_lt _ _ ⟨0, 0, none⟩ (by simp), World.cell?_alloc_lt _ _ ⟨0, 0, none⟩ (by exact h0)]; exact hg
  have hb : ((w.alloc (.cells #[.int .i64 0, .int .i64 0] 25)).alloc (.cells #[.int .i64 0, .int .i64 0] 77)).heap[w.heap.size + 1]? = some (.cells #[.int .i64 0, .int .i64 0] 77) := by
    have := one_first (w.alloc (.cells #[.int .i64 0, .int .i64 0] 25)) (.cells #[.int .i64 0, .int .i64 0] 77)
    simpa using this
  have hA := As_any err c a (w.heap.size + 1) _ _ _ he hg2 hb (by omega) (fun va w h1 h2 => has _ va _ _ w h1 h2)
  have bb : Below w.heap.size w ((w.alloc (.cells #[.int .i64 0, .int .i64 0] 25)).alloc (.cells #[.int .i64 0, .int .i64 0] 77)) := ((Below.refl _ _).alloc (Nat.le_refl _) _).alloc (by simp) _
  have z0 := two_first w (.cells #[.int .i64 0, .int .i64 0] 25) (.cells #[.int .i64 0, .int .i64 0] 77)
  obtain ⟨et, eu, rfl⟩ := he
  clear has hg2 hb hg
  go_enter Tryz.func20, Tryz.ntmps20
  go_wp2_with fail
  refine hA.mono ?_
  rintro e w1 ⟨rfl, hS⟩
  have zb := hS.blk
  have zr : w1.heap[w.heap.size]? = some (.cells #[.int .i64 0, .int .i64 0] 25) := (hS.grown.block _ (by simp; omega) (by simp)).trans z0
  have c0 : w1.cell? ⟨w.heap.size + 1, 0, none⟩ = some (.int .i64 c) := cell_of zb rfl
  have c1 : w1.cell? ⟨w.heap.size + 1, 1, none⟩ = some (.int .i64 a) := cell_of zb rfl
  have d0 : w1.cell? ⟨w.heap.size, 0, none⟩ = some (.int .i64 0) := cell_of zr rfl
  have d1 : w1.cell? ⟨w.heap.size, 1, none⟩ = some (.int .i64 0) := cell_of zr rfl
  have f0 : w1.frozen? ⟨w.heap.size, 0, none⟩ = false := frozen_of zr
  have f1 : w1.frozen? ⟨w.heap.size, 1, none⟩ = false := frozen_of zr
  have l1 : w.heap.size + 1 < w1.heap.size := (Array.getElem?_eq_some_iff.1 zb).1
  have HB := hide (And.intro zr (bb.grown hS.grown (by simp; omega) (fun k hk => by cases hk; omega)))
  clear hS zb zr bb z0 hA
  go_wp2
  refine bodyPost_ret (results_cell1' rfl _ _ w.heap.size 25 _ (0, 0) _ rfl (at_same (at_same (unhide HB).1)) Tryz.underlying25 rfl (by kernel_rfl)) rfl ?_
  exact ⟨rfl, ((unhide HB).2.setCell (p := ⟨w.heap.size, 0, none⟩) (Nat.le_refl _) _).setCell (p := ⟨w.heap.size, 1, none⟩) (Nat.le_refl _) _⟩
theorem faultOf_hit (c a : Int) (w : World) (hg : w.cell? ⟨0, 0, none⟩ = some (.iface 174 (.agg #[.pointer (some ⟨8, 48, none⟩)]))) :
    Calls Tryz.prog 20 #[.iface 77 (.agg #[.int .i64 c, .int .i64 a])] w fun e w' => e = .returned (.agg #[.int .i64 c, .int .i64 a]) ∧ Below w.heap.size w w' :=
  faultOf_any _ c a w ⟨_, _, rfl⟩ hg (fun b va o0 o1 w h1 h2 => as_hit c a b va o0 o1 w h1 h2)
theorem faultOf_wrap (n c a : Int) (w : World) (hg : w.cell? ⟨0, 0, none⟩ = some (.iface 174 (.agg #[.pointer (some ⟨8, 48, none⟩)]))) :
    Calls Tryz.prog 20 #[.iface 113 (.agg #[.int .i64 n, .iface 77 (.agg #[.int .i64 c, .int .i64 a])])] w fun e w' => e = .returned (.agg #[.int .i64 c, .int .i64 a]) ∧ Below w.heap.size w w' :=
  faultOf_any _ c a w ⟨_, _, rfl⟩ hg (fun b va o0 o1 w h1 h2 => as_wrap n c a b va o0 o1 w h1 h2)
end Go.Proofs.YtjikjejfobnfnaaGreatDoor.err
