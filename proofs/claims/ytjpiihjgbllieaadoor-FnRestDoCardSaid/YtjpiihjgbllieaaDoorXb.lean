/-
  The program's restOperator: which function it tells, and the word that this one has caught.
-/
import Derived.Test.YtjpiihjgbllieaaDoorXa
namespace Go.Proofs.YtjpiihjgbllieaaDoor.num
open Go.ChangeShapes Go.WideShapes Go.ChangeAt Go.RowKit Go.Maps
set_option linter.unusedVariables false

def tabD (c : Nat) : DataW Unit := (((((((((DataW.map [] : DataW Unit).put (.int .i64 1) (fnD 132 (c + 1))).put (.int .i64 11) (fnD 132 (c + 1))).put (.int .i64 2) (fnD 133 (c + 1))).put (.int .i64 12) (fnD 133 (c + 1))).put (.int .i64 3) (fnD 134 (c + 1))).put (.int .i64 13) (fnD 134 (c + 1))).put (.int .i64 9) (fnD 136 0)).put (.int .i64 5) (fnD 137 0))
set_option maxRecDepth 100000 in
set_option maxHeartbeats 4000000 in
theorem restOper_1 (w : World) :
    Calls Tryd.prog 61 #[.int .i64 1] w fun e w' => e = .returned (fnV 132 (w.heap.size + 1)) ∧ w'.cell? ⟨w.heap.size, 0, none⟩ = some (.int .i64 0) ∧ w.heap.size < w'.heap.size ∧ Below w.heap.size w w' := by
  have hmm := @run_makeMap Tryd.prog
  have hmf : ∀ (fn : Fn) (first cap : Array Value) (w : World), (Instr.makeFunc fn first cap).run Tryd.prog w = .ok (.func fn first cap) w := fun _ _ _ _ => rfl
  obtain ⟨W, hW0⟩ : ∃ W, W = w.alloc (.cells #[.int .i64 0] 3) := ⟨_, rfl⟩
  have hWs : W.heap.size = w.heap.size + 1 := by rw [hW0]; simp
  have hWc : W.cell? ⟨w.heap.size, 0, none⟩ = some (.int .i64 0) := by rw [hW0]; simp [go_sem]
  have hWb : Below w.heap.size w W := by rw [hW0]; exact (Below.refl _ _).alloc (Nat.le_refl _) _
  have hown : (W.alloc (.map #[] 0)).ownsMap Tryd.prog 3 fnElem W.heap.size 0 (.map []) := World.ownsMap_made _ _ _ _
  have hb : Below (w.heap.size + 1) W (W.alloc (.map #[] 0)) := (Below.refl _ _).alloc (by omega) _
  rw [hWs] at hown
  have hW : w.heap.size + 1 ≤ w.heap.size + 1 := Nat.le_refl _
  have hu : (∃ Kf c, (tabD w.heap.size).atKey (.int .i64 1) (.agg []) = fnD Kf c ∧ fnV 132 (w.heap.size + 1) = fnV Kf c) ∨ ((tabD w.heap.size).atKey (.int .i64 1) (.agg []) = .agg [] ∧ fnV 132 (w.heap.size + 1) = .nilFunc) := .inl ⟨_, _, rfl, rfl⟩
  have hs : w.heap.size + 1 ≤ (W.alloc (.map #[] 0)).heap.size := by simp; omega
  subst hW0
  clear hWs
  go_enter Tryd.func61, Tryd.ntmps61
  go_wp2_with fail
  refine (opWraps_any _ _).mono ?_
  rintro e w' ⟨rfl, rfl⟩
  go_wp2_with (first | (guard_target =~ wpList _ _ _ (Oper.mk _ (Op.insert _ _ _ _) _ _ _ _ :: _) _ _; go_must (refine wpList_insert_fn _ rfl _ _ _ 118 rfl 3 36 intKey Tryd.underlying118 fnElem (w.heap.size + 1) _ _ rfl hown (by decide) _ _ _ rfl rfl (keyInt _ (by decide)) _ [] (by first | exact fnElem_held _ _ | exact fnElem_plain _) ?_); clear hown; intro w1 hown ht; replace hb := hb.grown ht.grown hs (fun j hj => by cases hj; exact hW); replace hs := Nat.le_trans hs ht.grown.size; clear ht) | (at_lookup; refine wpList_lookup_fn _ rfl _ _ 118 rfl 3 36 intKey Tryd.underlying118 (zeroFn _) (w.heap.size + 1) _ _ rfl hown _ _ rfl (keyInt _ (by decide)) _ hu ?_))
  go_ret
  refine ⟨rfl, ?_, hs, hWb.trans (hb.mono (Nat.le_succ _))⟩
  rw [hb.cell (p := ⟨w.heap.size, 0, none⟩) (Nat.lt_succ_self _)]
  exact hWc
set_option maxRecDepth 100000 in
set_option maxHeartbeats 4000000 in
theorem restOper_2 (w : World) :
    Calls Tryd.prog 61 #[.int .i64 2] w fun e w' => e = .returned (fnV 133 (w.heap.size + 1)) ∧ w'.cell? ⟨w.heap.size, 0, none⟩ = some (.int .i64 0) ∧ w.heap.size < w'.heap.size ∧ Below w.heap.size w w' := by
  have hmm := @run_makeMap Tryd.prog
  have hmf : ∀ (fn : Fn) (first cap : Array Value) (w : World), (Instr.makeFunc fn first cap).run Tryd.prog w = .ok (.func fn first cap) w := fun _ _ _ _ => rfl
  obtain ⟨W, hW0⟩ : ∃ W, W = w.alloc (.cells #[.int .i64 0] 3) := ⟨_, rfl⟩
  have hWs : W.heap.size = w.heap.size + 1 := by rw [hW0]; simp
  have hWc : W.cell? ⟨w.heap.size, 0, none⟩ = some (.int .i64 0) := by rw [hW0]; simp [go_sem]
  have hWb : Below w.heap.size w W := by rw [hW0]; exact (Below.refl _ _).alloc (Nat.le_refl _) _
  have hown : (W.alloc (.map #[] 0)).ownsMap Tryd.prog 3 fnElem W.heap.size 0 (.map []) := World.ownsMap_made _ _ _ _
  have hb : Below (w.heap.size + 1) W (W.alloc (.map #[] 0)) := (Below.refl _ _).alloc (by omega) _
  rw [hWs] at hown
  have hW : w.heap.size + 1 ≤ w.heap.size + 1 := Nat.le_refl _
  have hu : (∃ Kf c, (tabD w.heap.size).atKey (.int .i64 2) (.agg []) = fnD Kf c ∧ fnV 133 (w.heap.size + 1) = fnV Kf c) ∨ ((tabD w.heap.size).atKey (.int .i64 2) (.agg []) = .agg [] ∧ fnV 133 (w.heap.size + 1) = .nilFunc) := .inl ⟨_, _, rfl, rfl⟩
  have hs : w.heap.size + 1 ≤ (W.alloc (.map #[] 0)).heap.size := by simp; omega
  subst hW0
  clear hWs
  go_enter Tryd.func61, Tryd.ntmps61
  go_wp2_with fail
  refine (opWraps_any _ _).mono ?_
  rintro e w' ⟨rfl, rfl⟩
  go_wp2_with (first | (guard_target =~ wpList _ _ _ (Oper.mk _ (Op.insert _ _ _ _) _ _ _ _ :: _) _ _; go_must (refine wpList_insert_fn _ rfl _ _ _ 118 rfl 3 36 intKey Tryd.underlying118 fnElem (w.heap.size + 1) _ _ rfl hown (by decide) _ _ _ rfl rfl (keyInt _ (by decide)) _ [] (by first | exact fnElem_held _ _ | exact fnElem_plain _) ?_); clear hown; intro w1 hown ht; replace hb := hb.grown ht.grown hs (fun j hj => by cases hj; exact hW); replace hs := Nat.le_trans hs ht.grown.size; clear ht) | (at_lookup; refine wpList_lookup_fn _ rfl _ _ 118 rfl 3 36 intKey Tryd.underlying118 (zeroFn _) (w.heap.size + 1) _ _ rfl hown _ _ rfl (keyInt _ (by decide)) _ hu ?_))
  go_ret
  refine ⟨rfl, ?_, hs, hWb.trans (hb.mono (Nat.le_succ _))⟩
  rw [hb.cell (p := ⟨w.heap.size, 0, none⟩) (Nat.lt_succ_self _)]
  exact hWc
set_option maxRecDepth 100000 in
set_option maxHeartbeats 4000000 in
theorem restOper_3 (w : World) :
    Calls Tryd.prog 61 #[.int .i64 3] w fun e w' => e = .returned (fnV 134 (w.heap.size + 1)) ∧ w'.cell? ⟨w.heap.size, 0, none⟩ = some (.int .i64 0) ∧ w.heap.size < w'.heap.size ∧ Below w.heap.size w w' := by
  have hmm := @run_makeMap Tryd.prog
  have hmf : ∀ (fn : Fn) (first cap : Array Value) (w : World), (Instr.makeFunc fn first cap).run Tryd.prog w = .ok (.func fn first cap) w := fun _ _ _ _ => rfl
  obtain ⟨W, hW0⟩ : ∃ W, W = w.alloc (.cells #[.int .i64 0] 3) := ⟨_, rfl⟩
  have hWs : W.heap.size = w.heap.size + 1 := by rw [hW0]; simp
  have hWc : W.cell? ⟨w.heap.size, 0, none⟩ = some (.int .i64 0) := by rw [hW0]; simp [go_sem]
  have hWb : Below w.heap.size w W := by rw [hW0]; exact (Below.refl _ _).alloc (Nat.le_refl _) _
  have hown : (W.alloc (.map #[] 0)).ownsMap Tryd.prog 3 fnElem W.heap.size 0 (.map []) := World.ownsMap_made _ _ _ _
  have hb : Below (w.heap.size + 1) W (W.alloc (.map #[] 0)) := (Below.refl _ _).alloc (by omega) _
  rw [hWs] at hown
  have hW : w.heap.size + 1 ≤ w.heap.size + 1 := Nat.le_refl _
  have hu : (∃ Kf c, (tabD w.heap.size).atKey (.int .i64 3) (.agg []) = fnD Kf c ∧ fnV 134 (w.heap.size + 1) = fnV Kf c) ∨ ((tabD w.heap.size).atKey (.int .i64 3) (.agg []) = .agg [] ∧ fnV 134 (w.heap.size + 1) = .nilFunc) := .inl ⟨_, _, rfl, rfl⟩
  have hs : w.heap.size + 1 ≤ (W.alloc (.map #[] 0)).heap.size := by simp; omega
  subst hW0
  clear hWs
  go_enter Tryd.func61, Tryd.ntmps61
  go_wp2_with fail
  refine (opWraps_any _ _).mono ?_
  rintro e w' ⟨rfl, rfl⟩
  go_wp2_with (first | (guard_target =~ wpList _ _ _ (Oper.mk _ (Op.insert _ _ _ _) _ _ _ _ :: _) _ _; go_must (refine wpList_insert_fn _ rfl _ _ _ 118 rfl 3 36 intKey Tryd.underlying118 fnElem (w.heap.size + 1) _ _ rfl hown (by decide) _ _ _ rfl rfl (keyInt _ (by decide)) _ [] (by first | exact fnElem_held _ _ | exact fnElem_plain _) ?_); clear hown; intro w1 hown ht; replace hb := hb.grown ht.grown hs (fun j hj => by cases hj; exact hW); replace hs := Nat.le_trans hs ht.grown.size; clear ht) | (at_lookup; refine wpList_lookup_fn _ rfl _ _ 118 rfl 3 36 intKey Tryd.underlying118 (zeroFn _) (w.heap.size + 1) _ _ rfl hown _ _ rfl (keyInt _ (by decide)) _ hu ?_))
  go_ret
  refine ⟨rfl, ?_, hs, hWb.trans (hb.mono (Nat.le_succ _))⟩
  rw [hb.cell (p := ⟨w.heap.size, 0, none⟩) (Nat.lt_succ_self _)]
  exact hWc
set_option maxRecDepth 100000 in
set_option maxHeartbeats 4000000 in
theorem restOper_11 (w : World) :
    Calls Tryd.prog 61 #[.int .i64 11] w fun e w' => e = .returned (fnV 132 (w.heap.size + 1)) ∧ w'.cell? ⟨w.heap.size, 0, none⟩ = some (.int .i64 4294967296) ∧ w.heap.size < w'.heap.size ∧ Below w.heap.size w w' := by
  have hmm := @run_makeMap Tryd.prog
  have hmf : ∀ (fn : Fn) (first cap : Array Value) (w : World), (Instr.makeFunc fn first cap).run Tryd.prog w = .ok (.func fn first cap) w := fun _ _ _ _ => rfl
  obtain ⟨W, hW0⟩ : ∃ W, W = w.alloc (.cells #[.int .i64 4294967296] 3) := ⟨_, rfl⟩
  have hWs : W.heap.size = w.heap.size + 1 := by rw [hW0]; simp
  have hWc : W.cell? ⟨w.heap.size, 0, none⟩ = some (.int .i64 4294967296) := by rw [hW0]; simp [go_sem]
  have hWb : Below w.heap.size w W := by rw [hW0]; exact (Below.refl _ _).alloc (Nat.le_refl _) _
  have hown : (W.alloc (.map #[] 0)).ownsMap Tryd.prog 3 fnElem W.heap.size 0 (.map []) := World.ownsMap_made _ _ _ _
  have hb : Below (w.heap.size + 1) W (W.alloc (.map #[] 0)) := (Below.refl _ _).alloc (by omega) _
  rw [hWs] at hown
  have hW : w.heap.size + 1 ≤ w.heap.size + 1 := Nat.le_refl _
  have hu : (∃ Kf c, (tabD w.heap.size).atKey (.int .i64 11) (.agg []) = fnD Kf c ∧ fnV 132 (w.heap.size + 1) = fnV Kf c) ∨ ((tabD w.heap.size).atKey (.int .i64 11) (.agg []) = .agg [] ∧ fnV 132 (w.heap.size + 1) = .nilFunc) := .inl ⟨_, _, rfl, rfl⟩
  have hs : w.heap.size + 1 ≤ (W.alloc (.map #[] 0)).heap.size := by simp; omega
  subst hW0
  clear hWs
  go_enter Tryd.func61, Tryd.ntmps61
  go_wp2_with fail
  refine (opWraps_any _ _).mono ?_
  rintro e w' ⟨rfl, rfl⟩
  go_wp2_with (first | (guard_target =~ wpList _ _ _ (Oper.mk _ (Op.insert _ _ _ _) _ _ _ _ :: _) _ _; go_must (refine wpList_insert_fn _ rfl _ _ _ 118 rfl 3 36 intKey Tryd.underlying118 fnElem (w.heap.size + 1) _ _ rfl hown (by decide) _ _ _ rfl rfl (keyInt _ (by decide)) _ [] (by first | exact fnElem_held _ _ | exact fnElem_plain _) ?_); clear hown; intro w1 hown ht; replace hb := hb.grown ht.grown hs (fun j hj => by cases hj; exact hW); replace hs := Nat.le_trans hs ht.grown.size; clear ht) | (at_lookup; refine wpList_lookup_fn _ rfl _ _ 118 rfl 3 36 intKey Tryd.underlying118 (zeroFn _) (w.heap.size + 1) _ _ rfl hown _ _ rfl (keyInt _ (by decide)) _ hu ?_))
  go_ret
  refine ⟨rfl, ?_, hs, hWb.trans (hb.mono (Nat.le_succ _))⟩
  rw [hb.cell (p := ⟨w.heap.size, 0, none⟩) (Nat.lt_succ_self _)]
  exact hWc
set_option maxRecDepth 100000 in
set_option maxHeartbeats 4000000 in
theorem restOper_12 (w : World) :
    Calls Tryd.prog 61 #[.int .i64 12] w fun e w' => e = .returned (fnV 133 (w.heap.size + 1)) ∧ w'.cell? ⟨w.heap.size, 0, none⟩ = some (.int .i64 4294967296) ∧ w.heap.size < w'.heap.size ∧ Below w.heap.size w w' := by
  have hmm := @run_makeMap Tryd.prog
  have hmf : ∀ (fn : Fn) (first cap : Array Value) (w : World), (Instr.makeFunc fn first cap).run Tryd.prog w = .ok (.func fn first cap) w := fun _ _ _ _ => rfl
  obtain ⟨W, hW0⟩ : ∃ W, W = w.alloc (.cells #[.int .i64 4294967296] 3) := ⟨_, rfl⟩
  have hWs : W.heap.size = w.heap.size + 1 := by rw [hW0]; simp
  have hWc : W.cell? ⟨w.heap.size, 0, none⟩ = some (.int .i64 4294967296) := by rw [hW0]; simp [go_sem]
  have hWb : Below w.heap.size w W := by rw [hW0]; exact (Below.refl _ _).alloc (Nat.le_refl _) _
  have hown : (W.alloc (.map #[] 0)).ownsMap Tryd.prog 3 fnElem W.heap.size 0 (.map []) := World.ownsMap_made _ _ _ _
  have hb : Below (w.heap.size + 1) W (W.alloc (.map #[] 0)) := (Below.refl _ _).alloc (by omega) _
  rw [hWs] at hown
  have hW : w.heap.size + 1 ≤ w.heap.size + 1 := Nat.le_refl _
  have hu : (∃ Kf c, (tabD w.heap.size).atKey (.int .i64 12) (.agg []) = fnD Kf c ∧ fnV 133 (w.heap.size + 1) = fnV Kf c) ∨ ((tabD w.heap.size).atKey (.int .i64 12) (.agg []) = .agg [] ∧ fnV 133 (w.heap.size + 1) = .nilFunc) := .inl ⟨_, _, rfl, rfl⟩
  have hs : w.heap.size + 1 ≤ (W.alloc (.map #[] 0)).heap.size := by simp; omega
  subst hW0
  clear hWs
  go_enter Tryd.func61, Tryd.ntmps61
  go_wp2_with fail
  refine (opWraps_any _ _).mono ?_
  rintro e w' ⟨rfl, rfl⟩
  go_wp2_with (first | (guard_target =~ wpList _ _ _ (Oper.mk _ (Op.insert _ _ _ _) _ _ _ _ :: _) _ _; go_must (refine wpList_insert_fn _ rfl _ _ _ 118 rfl 3 36 intKey Tryd.underlying118 fnElem (w.heap.size + 1) _ _ rfl hown (by decide) _ _ _ rfl rfl (keyInt _ (by decide)) _ [] (by first | exact fnElem_held _ _ | exact fnElem_plain _) ?_); clear hown; intro w1 hown ht; replace hb := hb.grown ht.grown hs (fun j hj => by cases hj; exact hW); replace hs := Nat.le_trans hs ht.grown.size; clear ht) | (at_lookup; refine wpList_lookup_fn _ rfl _ _ 118 rfl 3 36 intKey Tryd.underlying118 (zeroFn _) (w.heap.size + 1) _ _ rfl hown _ _ rfl (keyInt _ (by decide)) _ hu ?_))
  go_ret
  refine ⟨rfl, ?_, hs, hWb.trans (hb.mono (Nat.le_succ _))⟩
  rw [hb.cell (p := ⟨w.heap.size, 0, none⟩) (Nat.lt_succ_self _)]
  exact hWc
set_option maxRecDepth 100000 in
set_option maxHeartbeats 4000000 in
theorem restOper_13 (w : World) :
    Calls Tryd.prog 61 #[.int .i64 13] w fun e w' => e = .returned (fnV 134 (w.heap.size + 1)) ∧ w'.cell? ⟨w.heap.size, 0, none⟩ = some (.int .i64 4294967296) ∧ w.heap.size < w'.heap.size ∧ Below w.heap.size w w' := by
  have hmm := @run_makeMap Tryd.prog
  have hmf : ∀ (fn : Fn) (first cap : Array Value) (w : World), (Instr.makeFunc fn first cap).run Tryd.prog w = .ok (.func fn first cap) w := fun _ _ _ _ => rfl
  obtain ⟨W, hW0⟩ : ∃ W, W = w.alloc (.cells #[.int .i64 4294967296] 3) := ⟨_, rfl⟩
  have hWs : W.heap.size = w.heap.size + 1 := by rw [hW0]; simp
  have hWc : W.cell? ⟨w.heap.size, 0, none⟩ = some (.int .i64 4294967296) := by rw [hW0]; simp [go_sem]
  have hWb : Below w.heap.size w W := by rw [hW0]; exact (Below.refl _ _).alloc (Nat.le_refl _) _
  have hown : (W.alloc (.map #[] 0)).ownsMap Tryd.prog 3 fnElem W.heap.size 0 (.map []) := World.ownsMap_made _ _ _ _
  have hb : Below (w.heap.size + 1) W (W.alloc (.map #[] 0)) := (Below.refl _ _).alloc (by omega) _
  rw [hWs] at hown
  have hW : w.heap.size + 1 ≤ w.heap.size + 1 := Nat.le_refl _
  have hu : (∃ Kf c, (tabD w.heap.size).atKey (.int .i64 13) (.agg []) = fnD Kf c ∧ fnV 134 (w.heap.size + 1) = fnV Kf c) ∨ ((tabD w.heap.size).atKey (.int .i64 13) (.agg []) = .agg [] ∧ fnV 134 (w.heap.size + 1) = .nilFunc) := .inl ⟨_, _, rfl, rfl⟩
  have hs : w.heap.size + 1 ≤ (W.alloc (.map #[] 0)).heap.size := by simp; omega
  subst hW0
  clear hWs
  go_enter Tryd.func61, Tryd.ntmps61
  go_wp2_with fail
  refine (opWraps_any _ _).mono ?_
  rintro e w' ⟨rfl, rfl⟩
  go_wp2_with (first | (guard_target =~ wpList _ _ _ (Oper.mk _ (Op.insert _ _ _ _) _ _ _ _ :: _) _ _; go_must (refine wpList_insert_fn _ rfl _ _ _ 118 rfl 3 36 intKey Tryd.underlying118 fnElem (w.heap.size + 1) _ _ rfl hown (by decide) _ _ _ rfl rfl (keyInt _ (by decide)) _ [] (by first | exact fnElem_held _ _ | exact fnElem_plain _) ?_); clear hown; intro w1 hown ht; replace hb := hb.grown ht.grown hs (fun j hj => by cases hj; exact hW); replace hs := Nat.le_trans hs ht.grown.size; clear ht) | (at_lookup; refine wpList_lookup_fn _ rfl _ _ 118 rfl 3 36 intKey Tryd.underlying118 (zeroFn _) (w.heap.size + 1) _ _ rfl hown _ _ rfl (keyInt _ (by decide)) _ hu ?_))
  go_ret
  refine ⟨rfl, ?_, hs, hWb.trans (hb.mono (Nat.le_succ _))⟩
  rw [hb.cell (p := ⟨w.heap.size, 0, none⟩) (Nat.lt_succ_self _)]
  exact hWc
set_option maxRecDepth 100000 in
set_option maxHeartbeats 4000000 in
theorem restOper_9 (w : World) :
    Calls Tryd.prog 61 #[.int .i64 9] w fun e w' => e = .returned (fnV 136 0) ∧ w'.cell? ⟨w.heap.size, 0, none⟩ = some (.int .i64 0) ∧ w.heap.size < w'.heap.size ∧ Below w.heap.size w w' := by
  have hmm := @run_makeMap Tryd.prog
  have hmf : ∀ (fn : Fn) (first cap : Array Value) (w : World), (Instr.makeFunc fn first cap).run Tryd.prog w = .ok (.func fn first cap) w := fun _ _ _ _ => rfl
  obtain ⟨W, hW0⟩ : ∃ W, W = w.alloc (.cells #[.int .i64 0] 3) := ⟨_, rfl⟩
  have hWs : W.heap.size = w.heap.size + 1 := by rw [hW0]; simp
  have hWc : W.cell? ⟨w.heap.size, 0, none⟩ = some (.int .i64 0) := by rw [hW0]; simp [go_sem]
  have hWb : Below w.heap.size w W := by rw [hW0]; exact (Below.refl _ _).alloc (Nat.le_refl _) _
  have hown : (W.alloc (.map #[] 0)).ownsMap Tryd.prog 3 fnElem W.heap.size 0 (.map []) := World.ownsMap_made _ _ _ _
  have hb : Below (w.heap.size + 1) W (W.alloc (.map #[] 0)) := (Below.refl _ _).alloc (by omega) _
  rw [hWs] at hown
  have hW : w.heap.size + 1 ≤ w.heap.size + 1 := Nat.le_refl _
  have hu : (∃ Kf c, (tabD w.heap.size).atKey (.int .i64 9) (.agg []) = fnD Kf c ∧ fnV 136 0 = fnV Kf c) ∨ ((tabD w.heap.size).atKey (.int .i64 9) (.agg []) = .agg [] ∧ fnV 136 0 = .nilFunc) := .inl ⟨_, _, rfl, rfl⟩
  have hs : w.heap.size + 1 ≤ (W.alloc (.map #[] 0)).heap.size := by simp; omega
  subst hW0
  clear hWs
  go_enter Tryd.func61, Tryd.ntmps61
  go_wp2_with fail
  refine (opWraps_any _ _).mono ?_
  rintro e w' ⟨rfl, rfl⟩
  go_wp2_with (first | (guard_target =~ wpList _ _ _ (Oper.mk _ (Op.insert _ _ _ _) _ _ _ _ :: _) _ _; go_must (refine wpList_insert_fn _ rfl _ _ _ 118 rfl 3 36 intKey Tryd.underlying118 fnElem (w.heap.size + 1) _ _ rfl hown (by decide) _ _ _ rfl rfl (keyInt _ (by decide)) _ [] (by first | exact fnElem_held _ _ | exact fnElem_plain _) ?_); clear hown; intro w1 hown ht; replace hb := hb.grown ht.grown hs (fun j hj => by cases hj; exact hW); replace hs := Nat.le_trans hs ht.grown.size; clear ht) | (at_lookup; refine wpList_lookup_fn _ rfl _ _ 118 rfl 3 36 intKey Tryd.underlying118 (zeroFn _) (w.heap.size + 1) _ _ rfl hown _ _ rfl (keyInt _ (by decide)) _ hu ?_))
  go_ret
  refine ⟨rfl, ?_, hs, hWb.trans (hb.mono (Nat.le_succ _))⟩
  rw [hb.cell (p := ⟨w.heap.size, 0, none⟩) (Nat.lt_succ_self _)]
  exact hWc
set_option maxRecDepth 100000 in
set_option maxHeartbeats 4000000 in
theorem restOper_5 (w : World) :
    Calls Tryd.prog 61 #[.int .i64 5] w fun e w' => e = .returned (fnV 137 0) ∧ w'.cell? ⟨w.heap.size, 0, none⟩ = some (.int .i64 0) ∧ w.heap.size < w'.heap.size ∧ Below w.heap.size w w' := by
  have hmm := @run_makeMap Tryd.prog
  have hmf : ∀ (fn : Fn) (first cap : Array Value) (w : World), (Instr.makeFunc fn first cap).run Tryd.prog w = .ok (.func fn first cap) w := fun _ _ _ _ => rfl
  obtain ⟨W, hW0⟩ : ∃ W, W = w.alloc (.cells #[.int .i64 0] 3) := ⟨_, rfl⟩
  have hWs : W.heap.size = w.heap.size + 1 := by rw [hW0]; simp
  have hWc : W.cell? ⟨w.heap.size, 0, none⟩ = some (.int .i64 0) := by rw [hW0]; simp [go_sem]
  have hWb : Below w.heap.size w W := by rw [hW0]; exact (Below.refl _ _).alloc (Nat.le_refl _) _
  have hown : (W.alloc (.map #[] 0)).ownsMap Tryd.prog 3 fnElem W.heap.size 0 (.map []) := World.ownsMap_made _ _ _ _
  have hb : Below (w.heap.size + 1) W (W.alloc (.map #[] 0)) := (Below.refl _ _).alloc (by omega) _
  rw [hWs] at hown
  have hW : w.heap.size + 1 ≤ w.heap.size + 1 := Nat.le_refl _
  have hu : (∃ Kf c, (tabD w.heap.size).atKey (.int .i64 5) (.agg []) = fnD Kf c ∧ fnV 137 0 = fnV Kf c) ∨ ((tabD w.heap.size).atKey (.int .i64 5) (.agg []) = .agg [] ∧ fnV 137 0 = .nilFunc) := .inl ⟨_, _, rfl, rfl⟩
  have hs : w.heap.size + 1 ≤ (W.alloc (.map #[] 0)).heap.size := by simp; omega
  subst hW0
  clear hWs
  go_enter Tryd.func61, Tryd.ntmps61
  go_wp2_with fail
  refine (opWraps_any _ _).mono ?_
  rintro e w' ⟨rfl, rfl⟩
  go_wp2_with (first | (guard_target =~ wpList _ _ _ (Oper.mk _ (Op.insert _ _ _ _) _ _ _ _ :: _) _ _; go_must (refine wpList_insert_fn _ rfl _ _ _ 118 rfl 3 36 intKey Tryd.underlying118 fnElem (w.heap.size + 1) _ _ rfl hown (by decide) _ _ _ rfl rfl (keyInt _ (by decide)) _ [] (by first | exact fnElem_held _ _ | exact fnElem_plain _) ?_); clear hown; intro w1 hown ht; replace hb := hb.grown ht.grown hs (fun j hj => by cases hj; exact hW); replace hs := Nat.le_trans hs ht.grown.size; clear ht) | (at_lookup; refine wpList_lookup_fn _ rfl _ _ 118 rfl 3 36 intKey Tryd.underlying118 (zeroFn _) (w.heap.size + 1) _ _ rfl hown _ _ rfl (keyInt _ (by decide)) _ hu ?_))
  go_ret
  refine ⟨rfl, ?_, hs, hWb.trans (hb.mono (Nat.le_succ _))⟩
  rw [hb.cell (p := ⟨w.heap.size, 0, none⟩) (Nat.lt_succ_self _)]
  exact hWc
end Go.Proofs.YtjpiihjgbllieaaDoor.num
