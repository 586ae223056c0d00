/-
  The scope within a function, walked.
-/
import Derived.Test.YtkfikpapgmamdaaQ
namespace Go.Proofs.Ytkfikpapgmamdaa.nk
open Go.RowKit Go.Maps Go.Proofs.Ytkfikpapgmamdaa.num
set_option linter.unusedVariables false

/-- What comes back: the scope of a function, or of all. -/
def Scope (t : Tb) (fn : ByteArray) (v : Value) (w' : World) : Prop :=
  ∃ g m n c, NS w' g 0 m n (MP t t.arrays.length t.globals.length t.funcs.length) c ∧
    ((pos (t.funcs.map (·.name)) fn = none ∧ v = .iface 64 (.pointer (some ⟨g, 0, none⟩))) ∨
     ∃ f u g2 m2 n2 c2, pos (t.funcs.map (·.name)) fn = some f ∧ t.funcs[f]? = some u ∧ NS w' g2 1 m2 n2 (MF u u.ints.length u.refs.length) c2 ∧ w'.cell? ⟨g2, 0, none⟩ = some (.pointer (some ⟨g, 0, none⟩)) ∧ v = .iface 75 (.pointer (some ⟨g2, 0, none⟩)))

theorem SW.start {w w1 : World} {va vg vf : Value} {fn : ByteArray} {m : Nat} (hb : Below ((w.alloc (.cells #[va, vg, vf] 33)).alloc (.cells #[.string fn] 9)).heap.size ((w.alloc (.cells #[va, vg, vf] 33)).alloc (.cells #[.string fn] 9)) w1)
    (hm : m = w.heap.size + 1 + 1 + 1) (hs : w1.heap.size = w.heap.size + 4) (hown : w1.ownsMap Try.prog 9 meanElem m 0 (.map [])) :
    SW w va vg vf fn w1.heap.size m 0 [] (cnt 0 0 0) (w1.alloc (.cells #[.map (some m), .int .i64 0, .int .i64 0, .int .i64 0, .int .i64 0, .int .i64 0, .int .i64 0] 71)) := by
  have z0 := at_alloc (a := .cells #[.map (some m), .int .i64 0, .int .i64 0, .int .i64 0, .int .i64 0, .int .i64 0, .int .i64 0] 71) (at_below hb (at_alloc (at_new _ _)))
  have z1 := at_alloc (a := .cells #[.map (some m), .int .i64 0, .int .i64 0, .int .i64 0, .int .i64 0, .int .i64 0, .int .i64 0] 71) (at_below hb (at_new1 _ _ _))
  have zn := at_new w1 (.cells #[.map (some m), .int .i64 0, .int .i64 0, .int .i64 0, .int .i64 0, .int .i64 0, .int .i64 0] 71)
  have b2 := below2 w (.cells #[va, vg, vf] 33) (.cells #[.string fn] 9)
  refine ⟨cell_of z0 rfl, cell_of z0 rfl, cell_of z0 rfl, cell_of z1 rfl, by simp; omega, by omega, by omega, ⟨cell_of zn rfl, fun i hi => ?_, fun i => frozen_of zn, ⟨_, hown.alloc _, rep_nil⟩, by omega, by simp⟩, ?_⟩
  · match i, hi with
    | 0, _ => exact cell_of zn rfl
    | 1, _ => exact cell_of zn rfl
    | 2, _ => exact cell_of zn rfl
    | 3, _ => exact cell_of zn rfl
    | 4, _ => exact cell_of zn rfl
    | 5, _ => exact cell_of zn rfl
  · exact (b2.trans (hb.mono b2.size)).alloc (by omega) _

/-- A function's set, beside the program's. -/
structure SF (g m X : Nat) (n2 : Nat) (M2 : List (ByteArray × Int × Int)) (c2 : Nat → Int) (wr : World) : Prop where
  ns : NS wr (X + 2) 1 (X + 1) n2 M2 c2
  p : wr.cell? ⟨X + 2, 0, none⟩ = some (.pointer (some ⟨g, 0, none⟩))
  gX : g < X
  mX : m < X
theorem SF.turn {g m X n2 n2' q : Nat} {M2 M2' : List (ByteArray × Int × Int)} {c2 c2' : Nat → Int} {wr wx : World} (h : SF g m X n2 M2 c2 wr) (hn : NS wx (X + 2) 1 (X + 1) n2' M2' c2') (T : Turn wr wx (X + 2) (X + 1) q) (hq : q ≠ 0) : SF g m X n2' M2' c2' wx :=
  ⟨hn, by rw [T.cell 0 (Ne.symm hq)]; exact h.p, h.gX, h.mX⟩
theorem SF.start {g m X : Nat} {w1 : World} (hX : w1.heap.size = X + 2) (hown : w1.ownsMap Try.prog 9 meanElem (X + 1) 0 (.map [])) (hg : g < X) (hm : m < X) :
    SF g m X 0 [] (cnt2 0 0) (w1.alloc (.cells #[.pointer (some ⟨g, 0, none⟩), .map (some (X + 1)), .int .i64 0, .int .i64 0, .int .i64 0, .int .i64 0, .int .i64 0, .int .i64 0] 77)) := by
  have zn := at_new w1 (.cells #[.pointer (some ⟨g, 0, none⟩), .map (some (X + 1)), .int .i64 0, .int .i64 0, .int .i64 0, .int .i64 0, .int .i64 0, .int .i64 0] 77)
  rw [hX] at zn
  refine ⟨⟨cell_of zn rfl, fun i hi => ?_, fun i => frozen_of zn, ⟨_, hown.alloc _, rep_nil⟩, by omega, by simp; omega⟩, cell_of zn rfl, hg, hm⟩
  match i, hi with
  | 0, _ => exact cell_of zn rfl
  | 1, _ => exact cell_of zn rfl
  | 2, _ => exact cell_of zn rfl
  | 3, _ => exact cell_of zn rfl
  | 4, _ => exact cell_of zn rfl
  | 5, _ => exact cell_of zn rfl

section
variable {w : World} {va vg vf : Value} {fn : ByteArray} {g m : Nat} {wr : World} {t : Tb}
theorem SW.addA {j : Nat} {u : Ar} (h : SW w va vg vf fn g m j (MP t j 0 0) (cnt j 0 0) wr) (hu : t.arrays[j]? = some u) (hsz : u.name.size ≤ maxLen) (hj : j < 1048576) :
    Calls Try.prog 27 #[.pointer (some ⟨g, 0, none⟩), .int .i64 1, .int .i64 0, .string u.name] wr fun e w' => e = .returned (.tuple #[]) ∧ SW w va vg vf fn g m (j + 1) (MP t (j + 1) 0 0) (cnt (j + 1) 0 0) w' := by
  refine (add_any 1 u.name h.ns (by omega) (by omega) hsz (by omega) (by simp [cnt]) (by simp [cnt]; omega)).mono ?_
  rintro e w' ⟨rfl, hns, T⟩
  refine ⟨rfl, h.turn ?_ T⟩
  rw [MP_a hu, ← bump1]
  exact hns
theorem SW.addG {a j : Nat} {u : ByteArray} (h : SW w va vg vf fn g m (a + j) (MP t a j 0) (cnt a j 0) wr) (hu : t.globals[j]? = some u) (hsz : u.size ≤ maxLen) (ha : a ≤ 1048576) (hj : j < 1048576) :
    Calls Try.prog 27 #[.pointer (some ⟨g, 0, none⟩), .int .i64 2, .int .i64 0, .string u] wr fun e w' => e = .returned (.tuple #[]) ∧ SW w va vg vf fn g m (a + (j + 1)) (MP t a (j + 1) 0) (cnt a (j + 1) 0) w' := by
  refine (add_any 2 u h.ns (by omega) (by omega) hsz (by omega) (by simp [cnt]) (by simp [cnt]; omega)).mono ?_
  rintro e w' ⟨rfl, hns, T⟩
  refine ⟨rfl, h.turn ?_ T⟩
  rw [MP_g hu, ← bump2]
  exact hns
theorem SW.addF {a b j : Nat} {u : Fu} (h : SW w va vg vf fn g m (a + b + j) (MP t a b j) (cnt a b j) wr) (hu : t.funcs[j]? = some u) (hsz : u.name.size ≤ maxLen) (ha : a ≤ 1048576) (hb : b ≤ 1048576) (hj : j < 1048576) :
    Calls Try.prog 27 #[.pointer (some ⟨g, 0, none⟩), .int .i64 5, .int .i64 0, .string u.name] wr fun e w' => e = .returned (.tuple #[]) ∧ SW w va vg vf fn g m (a + b + (j + 1)) (MP t a b (j + 1)) (cnt a b (j + 1)) w' := by
  refine (add_any 5 u.name h.ns (by omega) (by omega) hsz (by omega) (by simp [cnt]) (by simp [cnt]; omega)).mono ?_
  rintro e w' ⟨rfl, hns, T⟩
  refine ⟨rfl, h.turn ?_ T⟩
  rw [MP_f hu, ← bump5]
  exact hns
/-- Both sets. -/
structure SB (w : World) (va vg vf : Value) (fn : ByteArray) (g m n : Nat) (M : List (ByteArray × Int × Int)) (c : Nat → Int) (X n2 : Nat) (M2 : List (ByteArray × Int × Int)) (c2 : Nat → Int) (wr : World) : Prop where
  sw : SW w va vg vf fn g m n M c wr
  sf : SF g m X n2 M2 c2 wr
  wX : w.heap.size + 1 < X
theorem SB.addI {n : Nat} {M : List (ByteArray × Int × Int)} {c : Nat → Int} {X j : Nat} {u : Fu} {s : ByteArray} (h : SB w va vg vf fn g m n M c X j (MF u j 0) (cnt2 j 0) wr) (hu : u.ints[j]? = some s) (hsz : s.size ≤ maxLen) (hj : j < 1048576) :
    Calls Try.prog 27 #[.pointer (some ⟨X + 2, 1, none⟩), .int .i64 3, .int .i64 0, .string s] wr fun e w' => e = .returned (.tuple #[]) ∧ SB w va vg vf fn g m n M c X (j + 1) (MF u (j + 1) 0) (cnt2 (j + 1) 0) w' := by
  have e1 := h.sf.gX
  have e2 := h.sf.mX
  have e3 := h.wX
  refine (add_any 3 s h.sf.ns (by omega) (by omega) hsz (by omega) (by simp [cnt2]) (by simp [cnt2]; omega)).mono ?_
  rintro e w' ⟨rfl, hns, T⟩
  refine ⟨rfl, h.sw.other T (by omega) (by omega) (by omega) (by omega) (by omega) (by omega), h.sf.turn ?_ T (by omega), e3⟩
  rw [MF_i hu, ← bump3]
  exact hns
theorem SB.addR {n : Nat} {M : List (ByteArray × Int × Int)} {c : Nat → Int} {X a j : Nat} {u : Fu} {s : ByteArray} (h : SB w va vg vf fn g m n M c X (a + j) (MF u a j) (cnt2 a j) wr) (hu : u.refs[j]? = some s) (hsz : s.size ≤ maxLen) (ha : a ≤ 1048576) (hj : j < 1048576) :
    Calls Try.prog 27 #[.pointer (some ⟨X + 2, 1, none⟩), .int .i64 4, .int .i64 0, .string s] wr fun e w' => e = .returned (.tuple #[]) ∧ SB w va vg vf fn g m n M c X (a + (j + 1)) (MF u a (j + 1)) (cnt2 a (j + 1)) w' := by
  have e1 := h.sf.gX
  have e2 := h.sf.mX
  have e3 := h.wX
  refine (add_any 4 s h.sf.ns (by omega) (by omega) hsz (by omega) (by simp [cnt2]) (by simp [cnt2]; omega)).mono ?_
  rintro e w' ⟨rfl, hns, T⟩
  refine ⟨rfl, h.sw.other T (by omega) (by omega) (by omega) (by omega) (by omega) (by omega), h.sf.turn ?_ T (by omega), e3⟩
  rw [MF_r hu, ← bump4]
  exact hns
end

variable {base : Nat}
set_option maxHeartbeats 16000000 in
set_option maxRecDepth 100000 in
theorem scope_any (t : Tb) (fn : ByteArray) (va vg vf : Value) (w : World) (h : TbAt base w va vg vf t) (hs : t.Small) (hfn : fn.size ≤ maxLen) :
    Calls Try.prog 18 #[.agg #[va, vg, vf], .string fn] w fun e w' => (∃ v, e = .returned v ∧ Scope t fn v w') ∧ Below w.heap.size w w' := by
  obtain ⟨aa, ca, rfl, ha1, ha2, -⟩ := id h.arrays
  obtain ⟨ag, cg, rfl, hg1, hg2, -⟩ := id h.globals
  obtain ⟨af, cf, rfl, hf1, hf2, -⟩ := id h.funcs
  have hsa := hs.arrays
  have hsg := hs.globals
  have hsf := hs.funcs
  unfold maxLen at ha2 hg2 hf2
  have H := hide (And.intro h hs)
  clear h hs
  generalize hna : t.arrays.length = na at *
  generalize hng : t.globals.length = ng at *
  generalize hnf : t.funcs.length = nf at *
  have HN := hide (And.intro hna (And.intro hng hnf))
  clear hna hng hnf
  go_enter Try.func18, Try.ntmps18
  go_wp2_with (go_at_call 26; refine (newSet_any _).mono ?_; rintro e w1 ⟨rfl, hown, hsz, hb⟩; have hsz2 : w1.heap.size = w.heap.size + 4 := (by simpa using hsz); have S0 := SW.start hb (m := w.heap.size + 1 + 1 + 1) rfl hsz2 (by simpa using hown); rw [hsz2] at S0; replace S0 := hide S0; have q0 : w1.cell? ⟨w.heap.size, 0, none⟩ = some (.slice aa na ca) := cell_of (at_below hb (at_alloc (at_new _ _))) rfl; clear hown hb hsz)
  clear q0
  have wl0 : w.heap.size < w1.heap.size := by omega
  go_loopw [24] (fun i wr => ∃ j : Nat, j ≤ na ∧ i = .int .i64 j ∧ Hid (SW w (.slice aa na ca) (.slice ag ng cg) (.slice af nf cf) fn (w.heap.size + 4) (w.heap.size + 1 + 1 + 1) j (MP t j 0 0) (cnt j 0 0) wr)) (fun i _ => na - (intOf i).toNat)
  case atStart => exact ⟨0, by omega, rfl, S0⟩
  clear S0 hsz2 wl0
  case round =>
    obtain ⟨j, hj, rfl, HS⟩ := hrel
    by_cases hlt : j < na
    · have hl := (unhide HN).1
      obtain ⟨u, hu⟩ : ∃ u, t.arrays[j]? = some u := ⟨_, List.getElem?_eq_getElem (by omega)⟩
      obtain ⟨b, off, rfl, hb, c0, c1, hsz⟩ := ((unhide H).1.arrays.abelow (unhide HS).bel).aget hu
      have hadd := ((unhide HS).alloc (.cells #[.string u.name, .int .i64 u.size] 61)).drew.addA hu hsz (by omega)
      clear hl hu hsz
      go_wp2
      go_region_with (go_at_call 27; refine hadd.mono ?_; rintro e w2 ⟨rfl, HS2⟩; replace HS2 := hide HS2; clear hadd)
      all_goals go_wp2
      all_goals go_roundw
      all_goals first
        | exact ⟨j + 1, by omega, by go_num, HS2⟩
        | (simp [intOf]; omega)
    · obtain rfl : na = j := by omega
      clear hlt hj
      have b1 := (unhide HS).b1
      have wl := (unhide HS).lt
      have wl' : w.heap.size < wr.heap.size := by omega
      go_wp2
      clear b1 wl wl'
      go_loopw [38] (fun i wr => ∃ j : Nat, j ≤ ng ∧ i = .int .i64 j ∧ Hid (SW w (.slice aa na ca) (.slice ag ng cg) (.slice af nf cf) fn (w.heap.size + 4) (w.heap.size + 1 + 1 + 1) (na + j) (MP t na j 0) (cnt na j 0) wr)) (fun i _ => ng - (intOf i).toNat)
      case atStart => exact ⟨0, by omega, rfl, HS⟩
      clear HS
      case round =>
        obtain ⟨j, hj, rfl, HS⟩ := hrel
        by_cases hlt : j < ng
        · have hl := (unhide HN).2.1
          obtain ⟨u, hu⟩ : ∃ u, t.globals[j]? = some u := ⟨_, List.getElem?_eq_getElem (by omega)⟩
          obtain ⟨b, off, rfl, hb, c0, hsz⟩ := ((unhide H).1.globals.sbelow (unhide HS).bel).sget hu
          have hadd := (unhide HS).addG hu hsz (by omega) (by omega)
          clear hl hu hsz
          go_wp2_with (go_at_call 27; refine hadd.mono ?_; rintro e w2 ⟨rfl, HS2⟩; replace HS2 := hide HS2; clear hadd)
          go_roundw
          case rel => exact ⟨j + 1, by omega, by go_num, HS2⟩
          case measure => simp [intOf]; omega
        · obtain rfl : ng = j := by omega
          clear hlt hj
          have b2 := (unhide HS).b2
          have wl := (unhide HS).lt
          have wl' : w.heap.size < wr.heap.size := by omega
          go_wp2
          clear b2 wl wl'
          go_loopw [51] (fun i wr => ∃ j : Nat, j ≤ nf ∧ i = .int .i64 j ∧ Hid (SW w (.slice aa na ca) (.slice ag ng cg) (.slice af nf cf) fn (w.heap.size + 4) (w.heap.size + 1 + 1 + 1) (na + ng + j) (MP t na ng j) (cnt na ng j) wr)) (fun i _ => nf - (intOf i).toNat)
          case atStart => exact ⟨0, by omega, rfl, HS⟩
          clear HS
          case round =>
            obtain ⟨j, hj, rfl, HS⟩ := hrel
            by_cases hlt : j < nf
            · have hl := (unhide HN).2.2
              obtain ⟨u, hu⟩ : ∃ u, t.funcs[j]? = some u := ⟨_, List.getElem?_eq_getElem (by omega)⟩
              obtain ⟨b, off, vi, vr, rfl, hb, c0, c1, c2, c3, c4, hsz, si, sr⟩ := ((unhide H).1.funcs.fbelow (unhide HS).bel).fget hu
              obtain ⟨pi, qi, rfl, -⟩ := id si
              obtain ⟨pr, qr, rfl, -⟩ := id sr
              have hadd := ((unhide HS).alloc (.cells #[.string u.name, .int .i64 u.params, .slice pi u.ints.length qi, .slice pr u.refs.length qr, .int .i64 u.body] 43)).drew.addF hu hsz (by omega) (by omega) (by omega)
              clear hl hu hsz si sr
              go_wp2
              go_region_with (go_at_call 27; refine hadd.mono ?_; rintro e w2 ⟨rfl, HS2⟩; replace HS2 := hide HS2; clear hadd)
              all_goals go_wp2
              all_goals go_roundw
              all_goals first
                | exact ⟨j + 1, by omega, by go_num, HS2⟩
                | (simp [intOf]; omega)
            · obtain rfl : nf = j := by omega
              clear hlt hj
              have b2 := (unhide HS).b2
              have wl := (unhide HS).lt
              have wl' : w.heap.size < wr.heap.size := by omega
              have hix := indexFunc_any t.funcs fn _ (w.heap.size + 1) wr ((unhide H).1.funcs.fbelow (unhide HS).bel) wl (unhide HS).b3
              cases hp : pos (t.funcs.map (·.name)) fn with
              | none =>
                rw [posI_none hp] at hix
                go_wp2_with (go_at_call 28; refine hix.mono ?_; rintro e w2 ⟨rfl, hb⟩; have HS2 := hide ((unhide HS).below hb); clear hb hix)
                go_ret
                obtain ⟨e1, e2, e3⟩ := unhide HN
                exact ⟨⟨_, rfl, _, _, _, _, by rw [e1, e2, e3]; exact (unhide HS2).ns, .inl ⟨hp, rfl⟩⟩, (unhide HS2).bel⟩
              | some f =>
                rw [posI_some hp] at hix
                obtain ⟨u, hu⟩ : ∃ u, t.funcs[f]? = some u := by
                  have := pos_some hp
                  rw [List.getElem?_map] at this
                  cases e : t.funcs[f]? with
                  | none => simp [e] at this
                  | some u => exact ⟨u, rfl⟩
                have hfl : f < nf := by
                  have := (List.getElem?_eq_some_iff.1 hu).1
                  have := (unhide HN).2.2
                  omega
                obtain ⟨b, off, vi, vr, rfl, hbw, -, -, d2, d3, -, -, si, sr⟩ := (unhide H).1.funcs.fget hu
                obtain ⟨pi, qi, rfl, hi1, hi2, -⟩ := id si
                obtain ⟨pr, qr, rfl, hr1, hr2, -⟩ := id sr
                have hin := (unhide H).2.inn u (List.mem_of_getElem? hu)
                have hin1 := hin.1
                have hin2 := hin.2
                unfold maxLen at hi2 hr2
                have HU := hide (And.intro hp (And.intro hu (And.intro si (And.intro sr (And.intro d2 d3)))))
                clear hp hu si sr d2 d3 hin
                generalize hni : u.ints.length = ni at *
                generalize hnr : u.refs.length = nr at *
                have HI := hide (And.intro hni hnr)
                clear hni hnr
                go_wp2_with (first
                  | (go_at_call 28; refine hix.mono ?_; rintro e w2 ⟨rfl, hb⟩; have HS2 := hide ((unhide HS).below hb); clear hb hix b2 wl wl')
                  | (go_at_call 26; refine (newSet_any _).mono ?_; rintro e w3 ⟨rfl, hown, hsz, hb⟩; have B0 := hide (SB.mk (((unhide HS2).below hb).alloc (.cells #[.pointer (some ⟨w.heap.size + 4, 0, none⟩), .map (some (w2.heap.size + 1)), .int .i64 0, .int .i64 0, .int .i64 0, .int .i64 0, .int .i64 0, .int .i64 0] 77)) (SF.start hsz hown (unhide HS2).ns.lt (by obtain ⟨D, q1, -⟩ := (unhide HS2).ns.own; exact q1.lt)) (unhide HS2).lt); have b2 := ((unhide HS2).below hb).b2; have wl : w.heap.size < w2.heap.size + 2 := (by have := (unhide HS2).lt; omega); have d2 : w3.cell? ⟨b, off + f * 5 + 2, none⟩ = some (.slice pi ni qi) := (by rw [((unhide HS2).below hb).bel.cell (by exact hbw)]; exact (unhide HU).2.2.2.2.1); have hbw3 : b < w2.heap.size + 2 := (by have := (unhide HS2).lt; omega); clear hown hb))
                clear b2 wl d2 hbw3
                go_loopw [81] (fun i wr => ∃ j : Nat, j ≤ ni ∧ i = .int .i64 j ∧ Hid (SB w (.slice aa na ca) (.slice ag ng cg) (.slice (some ⟨b, off, none⟩) nf cf) fn (w.heap.size + 4) (w.heap.size + 1 + 1 + 1) (na + ng + nf) (MP t na ng nf) (cnt na ng nf) w2.heap.size j (MF u j 0) (cnt2 j 0) wr)) (fun i _ => ni - (intOf i).toNat)
                case atStart => exact ⟨0, by omega, rfl, B0⟩
                clear B0 hsz HS2 HS
                case round =>
                  obtain ⟨j, hj, rfl, HS⟩ := hrel
                  by_cases hlt : j < ni
                  · have hl := (unhide HI).1
                    obtain ⟨x, hx⟩ : ∃ x, u.ints[j]? = some x := ⟨_, List.getElem?_eq_getElem (by omega)⟩
                    obtain ⟨b', off', rfl, hb', c0, hsz⟩ := ((unhide HU).2.2.1.sbelow (unhide HS).sw.bel).sget hx
                    have hadd := (unhide HS).addI hx hsz (by omega)
                    clear hl hx hsz
                    go_wp2_with (go_at_call 27; refine hadd.mono ?_; rintro e w4 ⟨rfl, HS2⟩; replace HS2 := hide HS2; clear hadd)
                    go_roundw
                    case rel => exact ⟨j + 1, by omega, by go_num, HS2⟩
                    case measure => simp [intOf]; omega
                  · obtain rfl : ni = j := by omega
                    clear hlt hj
                    have b2 := (unhide HS).sw.b2
                    have wl : w.heap.size < wr.heap.size := by have := (unhide HS).sw.lt; omega
                    have d3 : wr.cell? ⟨b, off + f * 5 + 3, none⟩ = some (.slice pr nr qr) := by rw [(unhide HS).sw.bel.cell (by exact hbw)]; exact (unhide HU).2.2.2.2.2
                    have hbw3 : b < wr.heap.size := Nat.lt_of_lt_of_le hbw (unhide HS).sw.bel.size
                    go_wp2
                    clear b2 wl d3 hbw3
                    go_loopw [98] (fun i wr => ∃ j : Nat, j ≤ nr ∧ i = .int .i64 j ∧ Hid (SB w (.slice aa na ca) (.slice ag ng cg) (.slice (some ⟨b, off, none⟩) nf cf) fn (w.heap.size + 4) (w.heap.size + 1 + 1 + 1) (na + ng + nf) (MP t na ng nf) (cnt na ng nf) w2.heap.size (ni + j) (MF u ni j) (cnt2 ni j) wr)) (fun i _ => nr - (intOf i).toNat)
                    case atStart => exact ⟨0, by omega, rfl, HS⟩
                    clear HS
                    case round =>
                      obtain ⟨j, hj, rfl, HS⟩ := hrel
                      by_cases hlt : j < nr
                      · have hl := (unhide HI).2
                        obtain ⟨x, hx⟩ : ∃ x, u.refs[j]? = some x := ⟨_, List.getElem?_eq_getElem (by omega)⟩
                        obtain ⟨b', off', rfl, hb', c0, hsz⟩ := ((unhide HU).2.2.2.1.sbelow (unhide HS).sw.bel).sget hx
                        have hadd := (unhide HS).addR hx hsz (by omega) (by omega)
                        clear hl hx hsz
                        go_wp2_with (go_at_call 27; refine hadd.mono ?_; rintro e w4 ⟨rfl, HS2⟩; replace HS2 := hide HS2; clear hadd)
                        go_roundw
                        case rel => exact ⟨j + 1, by omega, by go_num, HS2⟩
                        case measure => simp [intOf]; omega
                      · obtain rfl : nr = j := by omega
                        go_wp2
                        go_ret
                        obtain ⟨e1, e2, e3⟩ := unhide HN
                        obtain ⟨e4, e5⟩ := unhide HI
                        obtain ⟨hp, hu, -⟩ := unhide HU
                        exact ⟨⟨_, rfl, _, _, _, _, by rw [e1, e2, e3]; exact (unhide HS).sw.ns, .inr ⟨f, u, _, _, _, _, hp, hu, by rw [e4, e5]; exact (unhide HS).sf.ns, (unhide HS).sf.p, rfl⟩⟩, (unhide HS).sw.bel⟩
end Go.Proofs.Ytkfikpapgmamdaa.nk
