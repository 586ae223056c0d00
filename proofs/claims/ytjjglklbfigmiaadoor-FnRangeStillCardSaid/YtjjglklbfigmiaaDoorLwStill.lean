/-
  For every code the law FnRangeStill returns true and writes nothing that was there; its package variables as the program's text lays them.
-/
import Derived.Test.YtjjglklbfigmiaaDoorSs8
import Derived.Test.YtjjglklbfigmiaaDoorTf
import Derived.Test.YtjjglklbfigmiaaDoorWa
import Derived.Test.YtjjglklbfigmiaaDoorTk
import Derived.Test.YtjjglklbfigmiaaDoorTj
import Derived.Test.YtjjglklbfigmiaaDoorTg
import Derived.Test.YtjjglklbfigmiaaDoorSg
import Derived.Test.YtjjglklbfigmiaaDoorTie
import Derived.Test.YtjjglklbfigmiaaDoorCards
import Derived.SevenTiedAt
import Derived.Stop.LaidErr
import Derived.ShutString
import Derived.ChangeOld
import Derived.Below
namespace Go.Proofs.YtjjglklbfigmiaaDoor.fnRangeStill
open Go.ChangeShapes Go.WideShapes Go.ChangeAt Go.RowKit Go.Proofs.YtjjglklbfigmiaaDoor.num
set_option linter.unusedVariables false

/-- The variables that the row lists. -/
abbrev laid : List (String × DataW Unit) := Rows.fnRangeStillRow.laid
/-- The door's own heap meets the condition. -/
theorem door_met (os : Os) (args : Array Value) : laidMetH Tryd.prog laid ((World.doorLaid Tryd.prog 400 os).forCall (fun _ _ => 0) ⟨#[], args, []⟩).memory :=
  laidMetH_of_parts3 (fuel := 8) (laidMet_of_run' 8 (by kernel_rfl) (by kernel_rfl)) (by kernel_rfl) (by kernel_rfl)
theorem laid_of {W : World} (h : laidMetH Tryd.prog laid W) : Gv W 0 (1, 0) := by
  rw [MakeChecks.laidMetH_plain _ _ _ (by kernel_rfl)] at h
  exact gv_of_head (by kernel_rfl) (by kernel_rfl) h
set_option maxRecDepth 100000 in
set_option maxHeartbeats 4000000 in
theorem walk (a0 : Option Addr) (len0 cap0 : Nat) (z0 : List Int) (w : World) (w0 : IsRow .u8 w a0 len0 cap0 z0) (h : Gv w 0 (1, 0)) :
    Calls Tryd.prog 17 #[.slice a0 len0 cap0] w fun e w' => e = .returned (.bool true) ∧ Below w.heap.size w w' := by
  obtain ⟨hc, hl, hm⟩ := code_of_row w0
  have HC := hide hc
  clear hc w0
  by_cases hlen : 1048576 < len0
  · go_enter Tryd.func17, Tryd.ntmps17
    go_wp2
    go_ret
    exact ⟨rfl, Below.refl _ _⟩
  replace hlen : len0 ≤ 1048576 := by omega
  go_enter Tryd.func17, Tryd.ntmps17
  go_wp2_with fail
  refine (drawWiden8_any _ _ _ _ (unhide HC) hl hm).mono ?_
  rintro e w1 ⟨⟨lo, hi, lo2, hi2, sv, l, rfl, hbd, hl5, hI, hrow⟩, hb⟩
  have hN := h.below hb
  have hCC := hide ((unhide HC).below hb)
  have hS : rws.Seq 1 rws.ci (fun _ => True) w.heap.size w1 sv l := by
    refine rws.Row.seq (e := 3) ?_ (fun _ => rfl) (fun _ _ _ => trivial)
    have e : (l.map rws.ci).flatten = l.map (Value.int .i64) := by
      clear hrow hl5 hI
      induction l with
      | nil => rfl
      | cons t l ih => simp [rws.ci] at ih ⊢; exact ih
    show w1.ownsRow w.heap.size 3 1 sv l.length _
    rw [e]
    exact hrow
  obtain ⟨sa, scap, rfl, hs1, hs2⟩ := hS.shape
  unfold maxLen at hs2
  obtain ⟨W, hW, H⟩ := Hd.two w1 (.int .i64 lo) (.int .i64 hi) (.int .i64 lo2) (.int .i64 hi2) 25 25
  have hup : ∀ {w'}, Below w1.heap.size w1 w' → Below w.heap.size w w' := fun k => below_up hb hb.size k
  clear hb HC hrow hbd hI h
  have c0 := H.get (b := w1.heap.size) (o := 0) (v := .int .i64 lo) (by simp)
  have c1 := H.get (b := w1.heap.size) (o := 1) (v := .int .i64 hi) (by simp)
  have hseq := fun {w'} (k : Below w1.heap.size w1 w') => rws.Seq.below hS k
  cases k : rOk (lo, hi)
  · have e : widen8 (lo, hi) (lo, hi) l = none8 := by
      unfold widen8 join8
      rw [if_pos (by simp [k]), if_pos (by simp [k])]
    go_wp2_with fail
    rw [← hW]
    clear hW
    go_wp2_with (first | (go_at_call 18; refine (RangeOk_xy _ _ _).mono ?_; rintro e w2 ⟨rfl, hb⟩; rw [k]; replace H := H.call hb; have d0 := H.get (b := w1.heap.size) (o := 0) (v := .int .i64 lo) (by simp); have d1 := H.get (b := w1.heap.size) (o := 1) (v := .int .i64 hi) (by simp)) | (go_at_call 32; refine (iWiden_xy _ _ _ _ l _ _ (hseq H.below) (hN.below H.below)).mono ?_; rintro e' w2 ⟨rfl, hb⟩; rw [e]; replace H := H.call hb))
    go_ret
    exact ⟨rfl, hup H.below⟩
  · go_wp2_with fail
    rw [← hW]
    clear hW
    go_wp2_with (go_at_call 18; refine (RangeOk_xy _ _ _).mono ?_; rintro e w2 ⟨rfl, hb⟩; rw [k]; replace H := H.call hb; have d0 := H.get (b := w1.heap.size) (o := 0) (v := .int .i64 lo) (by simp); have d1 := H.get (b := w1.heap.size) (o := 1) (v := .int .i64 hi) (by simp))
    have H1 := H.weak (L' := [(w1.heap.size, 0, .int .i64 lo), (w1.heap.size, 1, .int .i64 hi)]) (by simp)
    clear H d0 d1 c0 c1
    go_loopw [6, 7, 8, 9] (fun n kk v b wr => ∃ (a : R8) (nn : Nat) (j : Nat), n = .int .i64 nn ∧ kk = .int .i64 j ∧ j ≤ 40 ∧ rOk a = true ∧ nn + pot8 l a ≤ 2 * l.length + 3 ∧ Hd w1 [(w1.heap.size, 0, .int .i64 a.1), (w1.heap.size, 1, .int .i64 a.2)] wr) (fun _ kk _ _ _ => 40 - (intOf kk).toNat)
    case atStart => exact ⟨(lo, hi), 0, 0, rfl, rfl, by omega, k, by have := pot8_le l (lo, hi); omega, H1⟩
    case round =>
      clear H1 k
      obtain ⟨a, nn, j, rfl, rfl, hj, hok, hpot, H⟩ := hrel
      have hnn : nn ≤ 13 := by omega
      have HP := hide hpot
      clear hpot
      have c0 := H.get (b := w1.heap.size) (o := 0) (v := .int .i64 a.1) (by simp)
      have c1 := H.get (b := w1.heap.size) (o := 1) (v := .int .i64 a.2) (by simp)
      have l0 := H.lt (b := w1.heap.size) (o := 0) (v := .int .i64 a.1) (by simp)
      have z0 := H.fz (b := w1.heap.size) (o := 0) (v := .int .i64 a.1) (by simp)
      have z1 := H.fz (b := w1.heap.size) (o := 1) (v := .int .i64 a.2) (by simp)
      by_cases hlt : j < 40
      · have e3 : IntKind.i64.wrap ((j : Int) * 3) = (j : Int) * 3 := IntWalk.i64_in _ ⟨by omega, by omega⟩
        go_upto_region 11 with (first | (go_at_call 53; refine (wide_any _ _ _ _ _ ((unhide hCC).below H.below) hlen (by omega) (by omega)).mono ?_; rintro e w2 ⟨v, rfl, v0, v1, hb⟩; replace H := H.call hb) | (go_at_call 52; refine (specWrap_any _ _).mono ?_; rintro e w3 ⟨rfl, rfl⟩))
        have hx := w32_ok v
        generalize wrap32 v = x at *
        cases hm3 : ((j : Int) % 3 == 0)
        · go_upto_region 13 with fail
          have c0 := H.get (b := w1.heap.size) (o := 0) (v := .int .i64 a.1) (by simp)
          have c1 := H.get (b := w1.heap.size) (o := 1) (v := .int .i64 a.2) (by simp)
          go_upto_region 14 with (go_at_call 32; refine (iWiden_xy _ _ _ _ l _ _ (hseq H.below) (hN.below H.below)).mono ?_; rintro e w4 ⟨rfl, hb⟩; replace H := H.call hb)
          have hr : rOk (widen8 (a.1, a.2) (x, x) l) = true ∧ rIn (a.1, a.2) (widen8 (a.1, a.2) (x, x) l) = true ∧ (widen8 (a.1, a.2) (x, x) l = a ∨ pot8 l (widen8 (a.1, a.2) (x, x) l) + 1 ≤ pot8 l a) := widen8_rest (s := l) hok hx
          generalize hq : widen8 (a.1, a.2) (x, x) l = q at *
          obtain ⟨r1, r2, r3⟩ := hr
          have HR := hide r3
          have hrin : rIn (a.1, a.2) (q.1, q.2) = true := r2
          clear r2 r3
          have l0 := H.lt (b := w1.heap.size) (o := 0) (v := .int .i64 a.1) (by simp)
          have H2 := H.box (.int .i64 q.1) (.int .i64 q.2) 25
          generalize w4.alloc (.cells #[.int .i64 q.1, .int .i64 q.2] 25) = W4 at H2 ⊢
          generalize w4.heap.size = g at *
          clear H c0 c1
          have H := H2
          clear H2
          have k0 := fun p : Over W4 => H.over (b := w1.heap.size) (o := 0) (v := .int .i64 a.1) (by simp) p
          have k1 := fun p : Over W4 => H.over (b := w1.heap.size) (o := 1) (v := .int .i64 a.2) (by simp) p
          have k2 := fun p : Over W4 => H.over (b := g) (o := 0) (v := .int .i64 q.1) (by simp) p
          have k3 := fun p : Over W4 => H.over (b := g) (o := 1) (v := .int .i64 q.2) (by simp) p
          have hsq := hseq H.below
          have hg := hN.below H.below
          refine wp_region_over (by kernel_rfl) (by kernel_rfl) ?_
          repeat (go_big_quiet_step (first | (go_at_call 30; rename_i p; refine (RangeWiden_xy _ _ _ _ l _ _ (hsq.below p.below)).mono ?_; rintro e' w' ⟨rfl, hb1⟩; exact ⟨by rw [hq], p.next hb1⟩) | (go_at_call 24; rename_i p; refine (iIn_xy _ _ _ _ _ (hg.over p)).mono ?_; rintro e' w' ⟨rfl, hb1⟩; exact ⟨by rw [hrin], p.next hb1⟩)))
          refine wpQuiet_nil ?_
          rintro _ ⟨p, rfl⟩
          replace H := H.call p.below
          clear k0 k1 k2 k3 hsq hg
          obtain ⟨W5, hW5⟩ : ∃ W5, W5 = p.w := ⟨_, rfl⟩
          rw [← hW5] at H ⊢
          clear hW5 p
          have c0 := H.get (b := w1.heap.size) (o := 0) (v := .int .i64 a.1) (by simp)
          have c1 := H.get (b := w1.heap.size) (o := 1) (v := .int .i64 a.2) (by simp)
          have z0 := H.fz (b := w1.heap.size) (o := 0) (v := .int .i64 a.1) (by simp)
          have z1 := H.fz (b := w1.heap.size) (o := 1) (v := .int .i64 a.2) (by simp)
          have d0 := H.get (b := g) (o := 0) (v := .int .i64 q.1) (by simp)
          have d1 := H.get (b := g) (o := 1) (v := .int .i64 q.2) (by simp)
          have H6 := (H.weak (L' := [(w1.heap.size, 0, .int .i64 a.1), (w1.heap.size, 1, .int .i64 a.2)]) (by simp)).set2 (Nat.le_refl _) (by simp) (.int .i64 q.1) (.int .i64 q.2)
          clear H
          by_cases e : q.1 = a.1 ∧ q.2 = a.2
          · have he : ∀ {α : Type} (u v : α), (if q.1 = a.1 then (if q.2 = a.2 then u else v) else v) = u := by
              intro α u v
              rw [if_pos e.1, if_pos e.2]
            have e1 := e.1
            have e2 := e.2
            rw [e1, e2] at H6
            clear e
            go_wp2
            exact ⟨⟨a, nn, j + 1, rfl, by go_num, by omega, hok, unhide HP, H6⟩, by simp [intOf]; omega⟩
          · have he : ∀ {α : Type} (u v : α), (if q.1 = a.1 then (if q.2 = a.2 then u else v) else v) = v := by
              intro α u v
              by_cases e1 : q.1 = a.1
              · rw [if_pos e1, if_neg (fun k => e ⟨e1, k⟩)]
              · rw [if_neg e1]
            have hpp : (nn + 1 : Nat) + pot8 l q ≤ 2 * l.length + 3 := by
              have h1 := unhide HP
              rcases unhide HR with h2 | h2
              · exact absurd ⟨congrArg Prod.fst h2, congrArg Prod.snd h2⟩ e
              · omega
            clear e
            go_wp2
            exact ⟨⟨q, nn + 1, j + 1, by go_num, by go_num, by omega, r1, hpp, H6⟩, by simp [intOf]; omega⟩
        · go_upto_region 13 with (go_at_call 54; refine (at_any _ _ _ _ _ ((unhide hCC).below H.below) hlen (by omega) (by omega)).mono ?_; rintro e w2 ⟨v2, rfl, u0, u1, hb⟩; replace H := H.call hb)
          have hy : okB (v2 - 128) = true := by rw [okB_iff]; omega
          generalize v2 - 128 = y at *
          have c0 := H.get (b := w1.heap.size) (o := 0) (v := .int .i64 a.1) (by simp)
          have c1 := H.get (b := w1.heap.size) (o := 1) (v := .int .i64 a.2) (by simp)
          go_upto_region 14 with (go_at_call 32; refine (iWiden_xy _ _ _ _ l _ _ (hseq H.below) (hN.below H.below)).mono ?_; rintro e w4 ⟨rfl, hb⟩; replace H := H.call hb)
          have hr : rOk (widen8 (a.1, a.2) (y, y) l) = true ∧ rIn (a.1, a.2) (widen8 (a.1, a.2) (y, y) l) = true ∧ (widen8 (a.1, a.2) (y, y) l = a ∨ pot8 l (widen8 (a.1, a.2) (y, y) l) + 1 ≤ pot8 l a) := widen8_rest (s := l) hok hy
          generalize hq : widen8 (a.1, a.2) (y, y) l = q at *
          obtain ⟨r1, r2, r3⟩ := hr
          have HR := hide r3
          have hrin : rIn (a.1, a.2) (q.1, q.2) = true := r2
          clear r2 r3
          have l0 := H.lt (b := w1.heap.size) (o := 0) (v := .int .i64 a.1) (by simp)
          have H2 := H.box (.int .i64 q.1) (.int .i64 q.2) 25
          generalize w4.alloc (.cells #[.int .i64 q.1, .int .i64 q.2] 25) = W4 at H2 ⊢
          generalize w4.heap.size = g at *
          clear H c0 c1
          have H := H2
          clear H2
          have k0 := fun p : Over W4 => H.over (b := w1.heap.size) (o := 0) (v := .int .i64 a.1) (by simp) p
          have k1 := fun p : Over W4 => H.over (b := w1.heap.size) (o := 1) (v := .int .i64 a.2) (by simp) p
          have k2 := fun p : Over W4 => H.over (b := g) (o := 0) (v := .int .i64 q.1) (by simp) p
          have k3 := fun p : Over W4 => H.over (b := g) (o := 1) (v := .int .i64 q.2) (by simp) p
          have hsq := hseq H.below
          have hg := hN.below H.below
          refine wp_region_over (by kernel_rfl) (by kernel_rfl) ?_
          repeat (go_big_quiet_step (first | (go_at_call 30; rename_i p; refine (RangeWiden_xy _ _ _ _ l _ _ (hsq.below p.below)).mono ?_; rintro e' w' ⟨rfl, hb1⟩; exact ⟨by rw [hq], p.next hb1⟩) | (go_at_call 24; rename_i p; refine (iIn_xy _ _ _ _ _ (hg.over p)).mono ?_; rintro e' w' ⟨rfl, hb1⟩; exact ⟨by rw [hrin], p.next hb1⟩)))
          refine wpQuiet_nil ?_
          rintro _ ⟨p, rfl⟩
          replace H := H.call p.below
          clear k0 k1 k2 k3 hsq hg
          obtain ⟨W5, hW5⟩ : ∃ W5, W5 = p.w := ⟨_, rfl⟩
          rw [← hW5] at H ⊢
          clear hW5 p
          have c0 := H.get (b := w1.heap.size) (o := 0) (v := .int .i64 a.1) (by simp)
          have c1 := H.get (b := w1.heap.size) (o := 1) (v := .int .i64 a.2) (by simp)
          have z0 := H.fz (b := w1.heap.size) (o := 0) (v := .int .i64 a.1) (by simp)
          have z1 := H.fz (b := w1.heap.size) (o := 1) (v := .int .i64 a.2) (by simp)
          have d0 := H.get (b := g) (o := 0) (v := .int .i64 q.1) (by simp)
          have d1 := H.get (b := g) (o := 1) (v := .int .i64 q.2) (by simp)
          have H6 := (H.weak (L' := [(w1.heap.size, 0, .int .i64 a.1), (w1.heap.size, 1, .int .i64 a.2)]) (by simp)).set2 (Nat.le_refl _) (by simp) (.int .i64 q.1) (.int .i64 q.2)
          clear H
          by_cases e : q.1 = a.1 ∧ q.2 = a.2
          · have he : ∀ {α : Type} (u v : α), (if q.1 = a.1 then (if q.2 = a.2 then u else v) else v) = u := by
              intro α u v
              rw [if_pos e.1, if_pos e.2]
            have e1 := e.1
            have e2 := e.2
            rw [e1, e2] at H6
            clear e
            go_wp2
            exact ⟨⟨a, nn, j + 1, rfl, by go_num, by omega, hok, unhide HP, H6⟩, by simp [intOf]; omega⟩
          · have he : ∀ {α : Type} (u v : α), (if q.1 = a.1 then (if q.2 = a.2 then u else v) else v) = v := by
              intro α u v
              by_cases e1 : q.1 = a.1
              · rw [if_pos e1, if_neg (fun k => e ⟨e1, k⟩)]
              · rw [if_neg e1]
            have hpp : (nn + 1 : Nat) + pot8 l q ≤ 2 * l.length + 3 := by
              have h1 := unhide HP
              rcases unhide HR with h2 | h2
              · exact absurd ⟨congrArg Prod.fst h2, congrArg Prod.snd h2⟩ e
              · omega
            clear e
            go_wp2
            exact ⟨⟨q, nn + 1, j + 1, by go_num, by go_num, by omega, r1, hpp, H6⟩, by simp [intOf]; omega⟩
      · obtain rfl : j = 40 := by omega
        have := unhide HP
        go_wp2
        go_ret
        exact ⟨ret_bool (by simp; omega), hup H.below⟩
set_option maxRecDepth 100000 in
theorem lifted (os : Os) (started : os.Started) (H : Type) (enc : TypeId × Value → H) :
    ReturnsInHanded {} Tryd.checked os 17 .any (fun w args => (Rows.fnRangeStillSpec.pre enc Tryd.prog Tryd.f17 [] false w args ∧ laidMetH Tryd.prog laid w) ∧ sizedMet enc Tryd.prog Tryd.f17 (OpenSpec.ofChange Rows.fnRangeStillSpec) false w args)
      (Rows.fnRangeStillSpec.post enc Tryd.prog Tryd.f17 false true false false) := by
  refine returnsInHanded_of_change_and (C := Tryd.checked) (X := fun w _ => laidMetH Tryd.prog laid w) (fun _ _ _ hh h => h.of_heap hh) own started (by kernel_rfl) Tryd.func17
    (ChangeSpec.witness_shaped (enc := enc) (C := Tryd.checked) (os := os) (X := fun w _ => laidMetH Tryd.prog laid w) false (World.doorLaid Tryd.prog 400 os) #[.slice none 0 0] 8 rfl (World.shaped_of_RefB (by kernel_rfl) (by kernel_rfl)) (by kernel_rfl) (by kernel_rfl) (by kernel_rfl) (door_met os _)) ?_
  intro W base args ds gs before hval0 hW _ _ hL _
  have hval : ∀ (j : Nat) t v, Tryd.f17.params[j]? = some t → args[j]? = some v → Value.okWide Tryd.prog W .any base t v := hval0
  have hW' := hW
  obtain ⟨p, q, hA0, hV0, rfl, hfz, hnd⟩ := hW
  have hA : DataW.TrodAll enc Tryd.prog W 0 (fun _ => true) true Tryd.f17.params.toList args.toList ds p := hA0
  have hV : DataW.TrodVars enc Tryd.prog W (fun _ => true) Rows.fnRangeStillSpec.vars gs q := hV0
  rw [Tryd.params17] at hA hval
  obtain ⟨v0, vs0, d0, ds0, p0, q0, hargs, rfl, rfl, h0, r0⟩ := trodAll_cons hA
  obtain ⟨rfl, rfl, rfl⟩ := trodAll_nil r0
  obtain rfl : args = #[v0] := by cases args; simp_all
  have k0 := h0
  have lt0 : ∀ x ∈ p0, x.block < W.heap.size := by obtain ⟨m, hm⟩ := k0; exact DataW.trod_lt m _ _ _ hm
  obtain ⟨a0, len0, cap0, rfl⟩ := okWide_slice Tryd.underlying44 (hval 0 44 v0 rfl rfl)
  obtain ⟨z0, w0⟩ : ∃ zs, IsRow .u8 W a0 len0 cap0 zs := by
    obtain ⟨fuel, hf⟩ := h0
    rcases open_ints Tryd.underlying44 Tryd.underlying5 (by kernel_rfl) hf with ⟨hcs, _⟩ | ⟨x, l, c, zs, hcs, _, hl, hm, hz, _, hcell, hwz⟩
    · simp [Value.cells] at hcs
      obtain ⟨rfl, rfl, rfl⟩ := hcs
      exact ⟨[], .inl ⟨rfl, rfl, rfl, rfl⟩⟩
    · simp [Value.cells] at hcs
      obtain ⟨rfl, rfl, rfl⟩ := hcs
      exact ⟨zs, .inr ⟨_, rfl, hl, hm, by simpa using hz, hcell, hwz⟩⟩
  have hL' := laid_of hL
  clear hA0 hval0
  refine (walk a0 len0 cap0 z0 W w0 hL').mono fun e W' ⟨he, bel⟩ => ?_
  subst he
  have kV := Below.trodVars laidOut bel (ns := Rows.fnRangeStillSpec.vars) (by kernel_rfl) hV
  have hlen : gs.length = 1 := vars_len hV
  match gs, hlen with
  | [g0], _ =>
    exact ⟨_, rfl, _, _, _, [], _, _, hW', trodAll_mk1 (shut_bool Tryd.underlying4 _), (trodAll_cons_mk (Below.trod laidOut (by kernel_rfl) (of_decide_eq_true (by kernel_rfl)) k0 bel lt0) trodAll_mk0), kV, bel.frame _, fun h => by cases h⟩

theorem over : Rows.FnRangeStillSaid :=
  OpenClaim.holds_of_wide 17 Tryd.f17 rfl rfl rfl rfl rfl rfl rfl ⟨rfl, rfl, rfl, rfl, rfl⟩ rfl rfl rfl rfl rfl (by kernel_rfl) Tryd.func17 (by kernel_rfl)
    (of_decide_eq_true (by kernel_rfl)) (by unfold Func.isWrapper; first | (rw [if_pos (by decide +kernel)]; kernel_rfl) | (rw [if_neg (by decide +kernel)]; exact ⟨rfl, rfl⟩))
    (fun os started H enc _ => lifted os started H enc)
end Go.Proofs.YtjjglklbfigmiaaDoor.fnRangeStill
namespace Go.Proofs.YtjjglklbfigmiaaDoor
open Go
/-- THE STATEMENT: the tied card. -/
theorem fnRangeStill_holds : Rows.FnRangeStillCardSaid :=
  Claim7.holds_tied_plain_at .later [] [.data] true Rows.fnRangeStillCard.stood.harness true
    fnRangeStill.over (fun _ h => by cases h) (by kernel_rfl) (fun _ h => by cases h) fnRangeStill_row_tie rfl ⟨rfl, rfl⟩ (by kernel_rfl) rfl
    (fun f fn hf hfn => by
      obtain rfl : f = 17 := Option.some.inj ((show Tryd.prog.funcNamed Rows.fnRangeStillRow.func = some 17 by kernel_rfl).symm.trans hf) |>.symm
      obtain rfl : fn = Tryd.f17 := (Option.some.inj (Tryd.func17.symm.trans hfn)).symm
      exact ⟨by kernel_rfl, fun j t ht => by
        rw [Tryd.params17] at ht
        have hm : t ∈ [44] := by simpa using Array.mem_of_getElem? ht
        have hall : ([44].all fun u => !Tryd.prog.wantsStandIn u) = true := by kernel_rfl
        exact (show Tryd.prog.wantsStandIn t = false by simpa using List.all_eq_true.1 hall t hm)⟩)
    (by kernel_rfl)
#print axioms fnRangeStill_holds
end Go.Proofs.YtjjglklbfigmiaaDoor
