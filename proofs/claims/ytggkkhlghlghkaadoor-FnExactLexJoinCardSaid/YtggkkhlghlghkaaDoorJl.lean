/-
  The program's own join: the tokens' Texts, spaced.
-/
import Derived.Test.YtggkkhlghlghkaaDoorJs
import Derived.Test.YtggkkhlghlghkaaDoorBd
namespace Go.Proofs.YtggkkhlghlghkaaDoor.lex
open Go.RowKit Go.Proofs.YtggkkhlghlghkaaDoor.num
set_option linter.unusedVariables false

/-- A Builder that holds these bytes. -/
def Bld (B : Nat) (L : List UInt8) (w : World) : Prop := Lib.IsBuilder 78 5 B B (Lib.byteCells L) w ∧ B ≤ w.heap.size
theorem Bld.new (w : World) : Bld w.heap.size [] (w.alloc (.cells #[.pointer none, .slice none 0 0] 78)) := ⟨Lib.fresh_isBuilder 78 5 w, by simp⟩
theorem bat_alloc {B b : Nat} {p : Value} {bs : List Value} {w : World} (h : Lib.BuilderAt 78 5 B b p bs w) (o : Obj) : Lib.BuilderAt 78 5 B b p bs (w.alloc o) := by
  obtain ⟨hB, v, hbk, hown, hne⟩ := h
  exact ⟨hB, v, keep_alloc hbk, hown.alloc o, hne⟩
theorem Bld.alloc {B : Nat} {L : List UInt8} {w : World} (h : Bld B L w) (o : Obj) : Bld B L (w.alloc o) := by
  refine ⟨?_, by have := h.2; simp; omega⟩
  rcases h.1 with h | h
  · exact Or.inl (bat_alloc h o)
  · exact Or.inr (bat_alloc h o)
theorem Bld.lt {B : Nat} {L : List UInt8} {w : World} (h : Bld B L w) : B < w.heap.size := by
  rcases h.1 with h | h
  · exact h.lt
  · exact h.lt
theorem bld_byte (B : Nat) (L : List UInt8) (hL : L.length ≤ 3000) (w : World) (h : Bld B L w) :
    Calls Tryd.prog 56 #[.pointer (some ⟨B, 0, none⟩), .int .u8 32] w fun e w' => e = .returned .nilIface ∧ Bld B (L ++ [32]) w' ∧ Below B w w' ∧ Lib.OthersKept 5 (some B) w w' := by
  refine (writeByte_any B B _ 32 w h.1 (by rw [Lib.byteCells_length]; omega) h.2).mono ?_
  rintro e w' ⟨rfl, h1, hb, hk⟩
  refine ⟨rfl, ⟨Or.inr ?_, Nat.le_trans h.2 hb.size⟩, hb, hk⟩
  rw [Lib.byteCells_append]
  exact h1
theorem bld_text (B : Nat) (L : List UInt8) (hL : L.length ≤ 3001) (s : ByteArray) (hs : s.size ≤ 1048576) (w : World) (h : Bld B L w) :
    Calls Tryd.prog 58 #[.pointer (some ⟨B, 0, none⟩), .string s] w fun e w' => e = .returned (.tuple #[.int .i64 s.size, .nilIface]) ∧ Bld B (L ++ s.data.toList) w' ∧ Below B w w' ∧ Lib.OthersKept 5 (some B) w w' := by
  refine (writeString_any B B _ s w h.1 (by rw [Lib.byteCells_length]; omega) h.2).mono ?_
  rintro e w' ⟨rfl, h1, hb, hk⟩
  refine ⟨rfl, ⟨Or.inr ?_, Nat.le_trans h.2 hb.size⟩, hb, hk⟩
  rw [Lib.byteCells_append, ← Lib.strCells_eq]
  exact h1
theorem bld_len (B : Nat) (L : List UInt8) (n : Nat) (hn : L.length = n) (w : World) (h : Bld B L w) :
    Calls Tryd.prog 57 #[.pointer (some ⟨B, 0, none⟩)] w fun e w' => e = .returned (.int .i64 n) ∧ w' = w := by
  have := Tryd.Builder_Len B B _ w h.1
  rwa [Lib.byteCells_length, hn] at this
theorem bld_string (B : Nat) (L : List UInt8) (w : World) (h : Bld B L w) :
    Calls Tryd.prog 59 #[.pointer (some ⟨B, 0, none⟩)] w fun e w' => e = .returned (.string ⟨L.toArray⟩) ∧ Below B w w' := Tryd.Builder_String_any B B L w h.1 h.2

/-- Behind the blank: the rest of a round. -/
structure Ks (w : World) (k : Nat) (o : Obj) (L : List UInt8) (wx : World) : Prop where
  bd : Bld w.heap.size L wx
  box : wx.heap[k]? = some o
  below : Below w.heap.size w wx

theorem Ks.drew {w : World} {k : Nat} {o : Obj} {L : List UInt8} {wx : World} (h : Ks w k o L wx) : Ks w k o L wx.drew := ⟨h.bd, h.box, ⟨h.below.os, h.below.tape, h.below.output, h.below.size, h.below.block⟩⟩

set_option maxHeartbeats 4000000 in
set_option maxRecDepth 100000 in
theorem spaced_any (l : List Tok) (v : Value) (base : Nat) (w : World) (hl : l.length ≤ 1048576) (hx : ∀ t ∈ l, t.text.size ≤ 1048576) (h : w.ownsRow base 32 4 v l.length (rowOf l)) :
    Calls Tryd.prog 31 #[v] w fun e w' => (e = .returned (.tuple (if 3000 < (joinS l).length then #[.string ⟨#[]⟩, .bool false] else #[.string ⟨(joinS l).toArray⟩, .bool true]))) ∧ Below w.heap.size w w' := by
  obtain ⟨a1, q1, rfl⟩ := row_slice h
  have HR := hide h
  clear h
  have HX := hide hx
  clear hx
  go_enter Tryd.func31, Tryd.ntmps31
  go_wp2
  go_loopw [9] (fun i wr => ∃ j : Nat, j ≤ l.length ∧ i = .int .i64 j ∧ (joinS (l.take j)).length ≤ 3000 ∧ Hid (Bld w.heap.size (joinS (l.take j)) wr) ∧ Hid (Below w.heap.size w wr)) (fun i _ => l.length - (intOf i).toNat)
  case atStart => exact ⟨0, by omega, rfl, by simp [joinS], hide (Bld.new w), hide ((Below.refl _ w).alloc (Nat.le_refl _) _)⟩
  case round =>
    obtain ⟨j, hj, rfl, hsz, HD, HB⟩ := hrel
    by_cases hlt : j < l.length
    · obtain ⟨t, ht⟩ : ∃ t, l[j]? = some t := ⟨_, List.getElem?_eq_getElem hlt⟩
      obtain ⟨g, cap1, hv, _, hc1, hg1, r1⟩ := row_read (row_below (unhide HR) (unhide HB)) (by omega)
      obtain ⟨rfl, rfl⟩ : a1 = some ⟨g, 0, none⟩ ∧ q1 = cap1 := by cases hv; exact ⟨rfl, rfl⟩
      obtain ⟨c0, c1, c2, c3⟩ := r1 j t ht
      have hstep := joinS_step l j t ht
      have hxt := unhide HX t (List.mem_of_getElem? ht)
      have hmono := hide (joinS_mono l (j + 1))
      obtain ⟨tk, tp, tx, tn⟩ := t
      simp only at c0 c1 c2 c3 hstep hxt
      have htx : tx.data.toList.length = tx.size := (Lib.size_eq tx).symm
      clear hv r1 ht
      generalize hO : (Obj.cells #[.int .i64 tk, .int .i64 tp, .string tx, .int .i64 tn] 32) = O
      have K1 : Hid (Ks w wr.heap.size O (joinS (l.take j)) (wr.alloc O)) := hide ⟨(unhide HD).alloc O, one_first wr O, (unhide HB).alloc (unhide HB).size O⟩
      have HDl := hide (unhide HD).lt
      by_cases h0 : j = 0
      · subst h0
        rw [if_pos rfl] at hstep
        have hn : (joinS (l.take 0)).length = 0 := rfl
        have hnx : joinS (l.take 0) ++ tx.data.toList = joinS (l.take (0 + 1)) := by rw [hstep]; rfl
        have hle : (joinS (l.take (0 + 1))).length = 0 + tx.size := by rw [hstep, htx]; omega
        have HL := hide hnx
        have HM := hide hle
        have hLn := fun wx hw => bld_len w.heap.size (joinS (l.take 0)) 0 hn wx hw
        have hWt := fun wx hw => bld_text w.heap.size (joinS (l.take 0)) (by omega) tx hxt wx hw
        generalize joinS (l.take 0) = L at *
        clear hstep hnx hle htx HD hn
        subst hO
        go_wp2
        generalize hW : wr.alloc (Obj.cells #[.int .i64 tk, .int .i64 tp, .string tx, .int .i64 tn] 32) = W at *
        have d2 : W.drew.cell? ⟨wr.heap.size, 2, none⟩ = some (.string tx) := cell_of (unhide K1).box rfl
        have gw : IntKind.i64.wrap (tx.size : Int) = (tx.size : Int) := IntWalk.i64_in _ ⟨by omega, by omega⟩
        by_cases hbig : 3000 < tx.size
        · have hbig' : 3000 < (tx.size : Int) := by omega
          have hlong : 3000 < (joinS l).length := by have := unhide HM; have := unhide hmono; omega
          go_region_with (go_at_call 57; refine (hLn _ (by exact (unhide K1).bd)).mono ?_; rintro e' w' ⟨rfl, rfl⟩)
          all_goals go_wp2
          all_goals go_ret2
          all_goals refine ⟨?_, (unhide K1).drew.below⟩
          all_goals first | (rw [if_pos hlong]; rfl) | rfl
        · have hbig' : ¬ 3000 < (tx.size : Int) := by omega
          go_region_with (go_at_call 57; refine (hLn _ (by exact (unhide K1).bd)).mono ?_; rintro e' w' ⟨rfl, rfl⟩)
          all_goals go_wp2_with (go_at_call 58; refine (hWt _ (by exact (unhide K1).drew.bd)).mono ?_; rintro e' w' ⟨rfl, hbd, hb, hk⟩)
          all_goals go_roundw
          all_goals first
            | exact ⟨0 + 1, by omega, by go_num, by have := unhide HM; omega, hide (by rw [← unhide HL]; exact hbd), hide ((unhide K1).drew.below.trans hb)⟩
            | (simp [intOf]; omega)
      · rw [if_neg h0] at hstep
        have h0' : 0 < (j : Int) := by omega
        have hn : (joinS (l.take j) ++ [32]).length = (joinS (l.take j)).length + 1 := by simp
        have hnx : (joinS (l.take j) ++ [32]) ++ tx.data.toList = joinS (l.take (j + 1)) := by rw [hstep]; simp
        have hle : (joinS (l.take (j + 1))).length = (joinS (l.take j)).length + 1 + tx.size := by rw [hstep, List.length_append, List.length_cons, htx]; omega
        have HL := hide hnx
        have HM := hide hle
        have hWb := fun wx hw => bld_byte w.heap.size (joinS (l.take j)) hsz wx hw
        have hLn := fun wx hw => bld_len w.heap.size (joinS (l.take j) ++ [32]) ((joinS (l.take j)).length + 1) hn wx hw
        have hWt := fun wx hw => bld_text w.heap.size (joinS (l.take j) ++ [32]) (by omega) tx hxt wx hw
        clear hstep hnx hle htx hn HD
        generalize joinS (l.take j) = L at *
        generalize L.length = n at *
        subst hO
        go_wp2_with fail
        generalize hW : wr.alloc (Obj.cells #[.int .i64 tk, .int .i64 tp, .string tx, .int .i64 tn] 32) = W at *
        refine (hWb _ (unhide K1).bd).mono ?_
        rintro e' wy ⟨rfl, hbd, hb, hk⟩
        have K2 : Hid (Ks w wr.heap.size (Obj.cells #[.int .i64 tk, .int .i64 tp, .string tx, .int .i64 tn] 32) (L ++ [32]) wy) := hide ⟨hbd, hk _ _ (unhide K1).box (fun e => by have := Option.some.inj e; have := unhide HDl; omega) (fun c fz e => by cases e), (unhide K1).below.trans hb⟩
        have d2 : wy.drew.cell? ⟨wr.heap.size, 2, none⟩ = some (.string tx) := cell_of (unhide K2).box rfl
        clear hbd hb hk K1 hWb
        go_wp2
        have gw : IntKind.i64.wrap ((n : Int) + 1 + (tx.size : Int)) = (n : Int) + 1 + (tx.size : Int) := IntWalk.i64_in _ ⟨by omega, by omega⟩
        by_cases hbig : 3000 < n + 1 + tx.size
        · have hbig' : 3000 < (n : Int) + 1 + (tx.size : Int) := by omega
          have hlong : 3000 < (joinS l).length := by have := unhide HM; have := unhide hmono; omega
          go_region_with (go_at_call 57; refine (hLn _ (by exact (unhide K2).bd)).mono ?_; rintro e' w' ⟨rfl, rfl⟩)
          all_goals go_wp2
          all_goals go_ret2
          all_goals refine ⟨?_, (unhide K2).drew.below⟩
          all_goals first | (rw [if_pos hlong]; rfl) | rfl
        · have hbig' : ¬ 3000 < (n : Int) + 1 + (tx.size : Int) := by omega
          go_region_with (go_at_call 57; refine (hLn _ (by exact (unhide K2).bd)).mono ?_; rintro e' w' ⟨rfl, rfl⟩)
          all_goals go_wp2_with (go_at_call 58; refine (hWt _ (by exact (unhide K2).drew.bd)).mono ?_; rintro e' w' ⟨rfl, hbd, hb, hk⟩)
          all_goals go_roundw
          all_goals first
            | exact ⟨j + 1, by omega, by go_num, by have := unhide HM; omega, hide (by rw [← unhide HL]; exact hbd), hide ((unhide K2).drew.below.trans hb)⟩
            | (simp [intOf]; omega)
    · obtain rfl : j = l.length := by omega
      rw [List.take_length] at *
      have hif : ¬ 3000 < (joinS l).length := by omega
      go_wp2_with fail
      refine (bld_string w.heap.size (joinS l) wr (unhide HD)).mono ?_
      rintro e' w' ⟨rfl, hb⟩
      go_wp2
      go_ret2
      refine ⟨?_, (unhide HB).trans hb⟩
      first | (rw [if_neg hif]; rfl) | rfl
end Go.Proofs.YtggkkhlghlghkaaDoor.lex
