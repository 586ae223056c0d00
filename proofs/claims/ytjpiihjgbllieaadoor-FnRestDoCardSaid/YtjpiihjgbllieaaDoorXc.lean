/-
  The program's restOperator: the operators of which it tells none.
-/
import Derived.Test.YtjpiihjgbllieaaDoorXb
namespace Go.Proofs.YtjpiihjgbllieaaDoor.num
open Go.ChangeShapes Go.WideShapes Go.ChangeAt Go.RowKit Go.Maps
set_option linter.unusedVariables false

set_option maxRecDepth 100000 in
set_option maxHeartbeats 4000000 in
theorem restOper_4 (w : World) :
    Calls Tryd.prog 61 #[.int .i64 4] w fun e w' => e = .returned (.nilFunc) ∧ w'.cell? ⟨w.heap.size, 0, none⟩ = some (.int .i64 0) ∧ w.heap.size < w'.heap.size ∧ Below w.heap.size w w' := by
  have hmm := @run_makeMap Tryd.prog
  have hmf : ∀ (fn : Fn) (first cap : Array Value) (w : World), (Instr.makeFunc fn first cap).run Tryd.prog w = .ok (.func fn first cap) w := fun _ _ _ _ => rfl
  obtain ⟨W, hW0⟩ : ∃ W, W = w.alloc (.cells #[.int .i64 0] 3) := ⟨_, rfl⟩
  have hWs : W.heap.size = w.heap.size + 1 := by rw [hW0]; simp
  have hWc : W.cell? ⟨w.heap.size, 0, none⟩ = some (.int .i64 0) := by rw [hW0]; simp [go_sem]
  have hWb : Below w.heap.size w W := by rw [hW0]; exact (Below.refl _ _).alloc (Nat.le_refl _) _
  have hown : (W.alloc (.map #[] 0)).ownsMap Tryd.prog 3 fnElem W.heap.size 0 (.map []) := World.ownsMap_made _ _ _ _
  have hb : Below (w.heap.size + 1) W (W.alloc (.map #[] 0)) := (Below.refl _ _).alloc (by omega) _
  rw [hWs] at hown
  have hW : w.heap.size + 1 ≤ w.heap.size + 1 := Nat.le_refl _
  have hu : (∃ Kf c, (tabD w.heap.size).atKey (.int .i64 4) (.agg []) = fnD Kf c ∧ Value.nilFunc = fnV Kf c) ∨ ((tabD w.heap.size).atKey (.int .i64 4) (.agg []) = .agg [] ∧ Value.nilFunc = .nilFunc) := .inr ⟨rfl, rfl⟩
  have hs : w.heap.size + 1 ≤ (W.alloc (.map #[] 0)).heap.size := by simp; omega
  subst hW0
  clear hWs
  go_enter Tryd.func61, Tryd.ntmps61
  go_wp2_with fail
  refine (opWraps_any _ _).mono ?_
  rintro e w' ⟨rfl, rfl⟩
  go_wp2_with (first | (guard_target =~ wpList _ _ _ (Oper.mk _ (Op.insert _ _ _ _) _ _ _ _ :: _) _ _; go_must (refine wpList_insert_fn _ rfl _ _ _ 118 rfl 3 36 intKey Tryd.underlying118 fnElem (w.heap.size + 1) _ _ rfl hown (by decide) _ _ _ rfl rfl (keyInt _ (by decide)) _ [] (by first | exact fnElem_held _ _ | exact fnElem_plain _) ?_); clear hown; intro w1 hown ht; replace hb := hb.grown ht.grown hs (fun j hj => by cases hj; exact hW); replace hs := Nat.le_trans hs ht.grown.size; clear ht) | (at_lookup; refine wpList_lookup_fn _ rfl _ _ 118 rfl 3 36 intKey Tryd.underlying118 (zeroFn _) (w.heap.size + 1) _ _ rfl hown _ _ rfl (keyInt _ (by decide)) Value.nilFunc (.inr ⟨rfl, rfl⟩) ?_))
  go_ret
  refine ⟨rfl, ?_, hs, hWb.trans (hb.mono (Nat.le_succ _))⟩
  rw [hb.cell (p := ⟨w.heap.size, 0, none⟩) (Nat.lt_succ_self _)]
  exact hWc
set_option maxRecDepth 100000 in
set_option maxHeartbeats 4000000 in
theorem restOper_6 (w : World) :
    Calls Tryd.prog 61 #[.int .i64 6] w fun e w' => e = .returned (.nilFunc) ∧ w'.cell? ⟨w.heap.size, 0, none⟩ = some (.int .i64 0) ∧ w.heap.size < w'.heap.size ∧ Below w.heap.size w w' := by
  have hmm := @run_makeMap Tryd.prog
  have hmf : ∀ (fn : Fn) (first cap : Array Value) (w : World), (Instr.makeFunc fn first cap).run Tryd.prog w = .ok (.func fn first cap) w := fun _ _ _ _ => rfl
  obtain ⟨W, hW0⟩ : ∃ W, W = w.alloc (.cells #[.int .i64 0] 3) := ⟨_, rfl⟩
  have hWs : W.heap.size = w.heap.size + 1 := by rw [hW0]; simp
  have hWc : W.cell? ⟨w.heap.size, 0, none⟩ = some (.int .i64 0) := by rw [hW0]; simp [go_sem]
  have hWb : Below w.heap.size w W := by rw [hW0]; exact (Below.refl _ _).alloc (Nat.le_refl _) _
  have hown : (W.alloc (.map #[] 0)).ownsMap Tryd.prog 3 fnElem W.heap.size 0 (.map []) := World.ownsMap_made _ _ _ _
  have hb : Below (w.heap.size + 1) W (W.alloc (.map #[] 0)) := (Below.refl _ _).alloc (by omega) _
  rw [hWs] at hown
  have hW : w.heap.size + 1 ≤ w.heap.size + 1 := Nat.le_refl _
  have hu : (∃ Kf c, (tabD w.heap.size).atKey (.int .i64 6) (.agg []) = fnD Kf c ∧ Value.nilFunc = fnV Kf c) ∨ ((tabD w.heap.size).atKey (.int .i64 6) (.agg []) = .agg [] ∧ Value.nilFunc = .nilFunc) := .inr ⟨rfl, rfl⟩
  have hs : w.heap.size + 1 ≤ (W.alloc (.map #[] 0)).heap.size := by simp; omega
  subst hW0
  clear hWs
  go_enter Tryd.func61, Tryd.ntmps61
  go_wp2_with fail
  refine (opWraps_any _ _).mono ?_
  rintro e w' ⟨rfl, rfl⟩
  go_wp2_with (first | (guard_target =~ wpList _ _ _ (Oper.mk _ (Op.insert _ _ _ _) _ _ _ _ :: _) _ _; go_must (refine wpList_insert_fn _ rfl _ _ _ 118 rfl 3 36 intKey Tryd.underlying118 fnElem (w.heap.size + 1) _ _ rfl hown (by decide) _ _ _ rfl rfl (keyInt _ (by decide)) _ [] (by first | exact fnElem_held _ _ | exact fnElem_plain _) ?_); clear hown; intro w1 hown ht; replace hb := hb.grown ht.grown hs (fun j hj => by cases hj; exact hW); replace hs := Nat.le_trans hs ht.grown.size; clear ht) | (at_lookup; refine wpList_lookup_fn _ rfl _ _ 118 rfl 3 36 intKey Tryd.underlying118 (zeroFn _) (w.heap.size + 1) _ _ rfl hown _ _ rfl (keyInt _ (by decide)) Value.nilFunc (.inr ⟨rfl, rfl⟩) ?_))
  go_ret
  refine ⟨rfl, ?_, hs, hWb.trans (hb.mono (Nat.le_succ _))⟩
  rw [hb.cell (p := ⟨w.heap.size, 0, none⟩) (Nat.lt_succ_self _)]
  exact hWc
set_option maxRecDepth 100000 in
set_option maxHeartbeats 4000000 in
theorem restOper_7 (w : World) :
    Calls Tryd.prog 61 #[.int .i64 7] w fun e w' => e = .returned (.nilFunc) ∧ w'.cell? ⟨w.heap.size, 0, none⟩ = some (.int .i64 0) ∧ w.heap.size < w'.heap.size ∧ Below w.heap.size w w' := by
  have hmm := @run_makeMap Tryd.prog
  have hmf : ∀ (fn : Fn) (first cap : Array Value) (w : World), (Instr.makeFunc fn first cap).run Tryd.prog w = .ok (.func fn first cap) w := fun _ _ _ _ => rfl
  obtain ⟨W, hW0⟩ : ∃ W, W = w.alloc (.cells #[.int .i64 0] 3) := ⟨_, rfl⟩
  have hWs : W.heap.size = w.heap.size + 1 := by rw [hW0]; simp
  have hWc : W.cell? ⟨w.heap.size, 0, none⟩ = some (.int .i64 0) := by rw [hW0]; simp [go_sem]
  have hWb : Below w.heap.size w W := by rw [hW0]; exact (Below.refl _ _).alloc (Nat.le_refl _) _
  have hown : (W.alloc (.map #[] 0)).ownsMap Tryd.prog 3 fnElem W.heap.size 0 (.map []) := World.ownsMap_made _ _ _ _
  have hb : Below (w.heap.size + 1) W (W.alloc (.map #[] 0)) := (Below.refl _ _).alloc (by omega) _
  rw [hWs] at hown
  have hW : w.heap.size + 1 ≤ w.heap.size + 1 := Nat.le_refl _
  have hu : (∃ Kf c, (tabD w.heap.size).atKey (.int .i64 7) (.agg []) = fnD Kf c ∧ Value.nilFunc = fnV Kf c) ∨ ((tabD w.heap.size).atKey (.int .i64 7) (.agg []) = .agg [] ∧ Value.nilFunc = .nilFunc) := .inr ⟨rfl, rfl⟩
  have hs : w.heap.size + 1 ≤ (W.alloc (.map #[] 0)).heap.size := by simp; omega
  subst hW0
  clear hWs
  go_enter Tryd.func61, Tryd.ntmps61
  go_wp2_with fail
  refine (opWraps_any _ _).mono ?_
  rintro e w' ⟨rfl, rfl⟩
  go_wp2_with (first | (guard_target =~ wpList _ _ _ (Oper.mk _ (Op.insert _ _ _ _) _ _ _ _ :: _) _ _; go_must (refine wpList_insert_fn _ rfl _ _ _ 118 rfl 3 36 intKey Tryd.underlying118 fnElem (w.heap.size + 1) _ _ rfl hown (by decide) _ _ _ rfl rfl (keyInt _ (by decide)) _ [] (by first | exact fnElem_held _ _ | exact fnElem_plain _) ?_); clear hown; intro w1 hown ht; replace hb := hb.grown ht.grown hs (fun j hj => by cases hj; exact hW); replace hs := Nat.le_trans hs ht.grown.size; clear ht) | (at_lookup; refine wpList_lookup_fn _ rfl _ _ 118 rfl 3 36 intKey Tryd.underlying118 (zeroFn _) (w.heap.size + 1) _ _ rfl hown _ _ rfl (keyInt _ (by decide)) Value.nilFunc (.inr ⟨rfl, rfl⟩) ?_))
  go_ret
  refine ⟨rfl, ?_, hs, hWb.trans (hb.mono (Nat.le_succ _))⟩
  rw [hb.cell (p := ⟨w.heap.size, 0, none⟩) (Nat.lt_succ_self _)]
  exact hWc
set_option maxRecDepth 100000 in
set_option maxHeartbeats 4000000 in
theorem restOper_8 (w : World) :
    Calls Tryd.prog 61 #[.int .i64 8] w fun e w' => e = .returned (.nilFunc) ∧ w'.cell? ⟨w.heap.size, 0, none⟩ = some (.int .i64 0) ∧ w.heap.size < w'.heap.size ∧ Below w.heap.size w w' := by
  have hmm := @run_makeMap Tryd.prog
  have hmf : ∀ (fn : Fn) (first cap : Array Value) (w : World), (Instr.makeFunc fn first cap).run Tryd.prog w = .ok (.func fn first cap) w := fun _ _ _ _ => rfl
  obtain ⟨W, hW0⟩ : ∃ W, W = w.alloc (.cells #[.int .i64 0] 3) := ⟨_, rfl⟩
  have hWs : W.heap.size = w.heap.size + 1 := by rw [hW0]; simp
  have hWc : W.cell? ⟨w.heap.size, 0, none⟩ = some (.int .i64 0) := by rw [hW0]; simp [go_sem]
  have hWb : Below w.heap.size w W := by rw [hW0]; exact (Below.refl _ _).alloc (Nat.le_refl _) _
  have hown : (W.alloc (.map #[] 0)).ownsMap Tryd.prog 3 fnElem W.heap.size 0 (.map []) := World.ownsMap_made _ _ _ _
  have hb : Below (w.heap.size + 1) W (W.alloc (.map #[] 0)) := (Below.refl _ _).alloc (by omega) _
  rw [hWs] at hown
  have hW : w.heap.size + 1 ≤ w.heap.size + 1 := Nat.le_refl _
  have hu : (∃ Kf c, (tabD w.heap.size).atKey (.int .i64 8) (.agg []) = fnD Kf c ∧ Value.nilFunc = fnV Kf c) ∨ ((tabD w.heap.size).atKey (.int .i64 8) (.agg []) = .agg [] ∧ Value.nilFunc = .nilFunc) := .inr ⟨rfl, rfl⟩
  have hs : w.heap.size + 1 ≤ (W.alloc (.map #[] 0)).heap.size := by simp; omega
  subst hW0
  clear hWs
  go_enter Tryd.func61, Tryd.ntmps61
  go_wp2_with fail
  refine (opWraps_any _ _).mono ?_
  rintro e w' ⟨rfl, rfl⟩
  go_wp2_with (first | (guard_target =~ wpList _ _ _ (Oper.mk _ (Op.insert _ _ _ _) _ _ _ _ :: _) _ _; go_must (refine wpList_insert_fn _ rfl _ _ _ 118 rfl 3 36 intKey Tryd.underlying118 fnElem (w.heap.size + 1) _ _ rfl hown (by decide) _ _ _ rfl rfl (keyInt _ (by decide)) _ [] (by first | exact fnElem_held _ _ | exact fnElem_plain _) ?_); clear hown; intro w1 hown ht; replace hb := hb.grown ht.grown hs (fun j hj => by cases hj; exact hW); replace hs := Nat.le_trans hs ht.grown.size; clear ht) | (at_lookup; refine wpList_lookup_fn _ rfl _ _ 118 rfl 3 36 intKey Tryd.underlying118 (zeroFn _) (w.heap.size + 1) _ _ rfl hown _ _ rfl (keyInt _ (by decide)) Value.nilFunc (.inr ⟨rfl, rfl⟩) ?_))
  go_ret
  refine ⟨rfl, ?_, hs, hWb.trans (hb.mono (Nat.le_succ _))⟩
  rw [hb.cell (p := ⟨w.heap.size, 0, none⟩) (Nat.lt_succ_self _)]
  exact hWc
set_option maxRecDepth 100000 in
set_option maxHeartbeats 4000000 in
theorem restOper_10 (w : World) :
    Calls Tryd.prog 61 #[.int .i64 10] w fun e w' => e = .returned (.nilFunc) ∧ w'.cell? ⟨w.heap.size, 0, none⟩ = some (.int .i64 0) ∧ w.heap.size < w'.heap.size ∧ Below w.heap.size w w' := by
  have hmm := @run_makeMap Tryd.prog
  have hmf : ∀ (fn : Fn) (first cap : Array Value) (w : World), (Instr.makeFunc fn first cap).run Tryd.prog w = .ok (.func fn first cap) w := fun _ _ _ _ => rfl
  obtain ⟨W, hW0⟩ : ∃ W, W = w.alloc (.cells #[.int .i64 0] 3) := ⟨_, rfl⟩
  have hWs : W.heap.size = w.heap.size + 1 := by rw [hW0]; simp
  have hWc : W.cell? ⟨w.heap.size, 0, none⟩ = some (.int .i64 0) := by rw [hW0]; simp [go_sem]
  have hWb : Below w.heap.size w W := by rw [hW0]; exact (Below.refl _ _).alloc (Nat.le_refl _) _
  have hown : (W.alloc (.map #[] 0)).ownsMap Tryd.prog 3 fnElem W.heap.size 0 (.map []) := World.ownsMap_made _ _ _ _
  have hb : Below (w.heap.size + 1) W (W.alloc (.map #[] 0)) := (Below.refl _ _).alloc (by omega) _
  rw [hWs] at hown
  have hW : w.heap.size + 1 ≤ w.heap.size + 1 := Nat.le_refl _
  have hu : (∃ Kf c, (tabD w.heap.size).atKey (.int .i64 10) (.agg []) = fnD Kf c ∧ Value.nilFunc = fnV Kf c) ∨ ((tabD w.heap.size).atKey (.int .i64 10) (.agg []) = .agg [] ∧ Value.nilFunc = .nilFunc) := .inr ⟨rfl, rfl⟩
  have hs : w.heap.size + 1 ≤ (W.alloc (.map #[] 0)).heap.size := by simp; omega
  subst hW0
  clear hWs
  go_enter Tryd.func61, Tryd.ntmps61
  go_wp2_with fail
  refine (opWraps_any _ _).mono ?_
  rintro e w' ⟨rfl, rfl⟩
  go_wp2_with (first | (guard_target =~ wpList _ _ _ (Oper.mk _ (Op.insert _ _ _ _) _ _ _ _ :: _) _ _; go_must (refine wpList_insert_fn _ rfl _ _ _ 118 rfl 3 36 intKey Tryd.underlying118 fnElem (w.heap.size + 1) _ _ rfl hown (by decide) _ _ _ rfl rfl (keyInt _ (by decide)) _ [] (by first | exact fnElem_held _ _ | exact fnElem_plain _) ?_); clear hown; intro w1 hown ht; replace hb := hb.grown ht.grown hs (fun j hj => by cases hj; exact hW); replace hs := Nat.le_trans hs ht.grown.size; clear ht) | (at_lookup; refine wpList_lookup_fn _ rfl _ _ 118 rfl 3 36 intKey Tryd.underlying118 (zeroFn _) (w.heap.size + 1) _ _ rfl hown _ _ rfl (keyInt _ (by decide)) Value.nilFunc (.inr ⟨rfl, rfl⟩) ?_))
  go_ret
  refine ⟨rfl, ?_, hs, hWb.trans (hb.mono (Nat.le_succ _))⟩
  rw [hb.cell (p := ⟨w.heap.size, 0, none⟩) (Nat.lt_succ_self _)]
  exact hWc
end Go.Proofs.YtjpiihjgbllieaaDoor.num
