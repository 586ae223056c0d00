/-
  The program's own join, whole.
-/
import Derived.Test.YtggkkhlghlghkaaDoorJl
import Derived.Test.YtggkkhlghlghkaaDoorJe
namespace Go.Proofs.YtggkkhlghlghkaaDoor.lex
open Go.RowKit Go.Proofs.YtggkkhlghlghkaaDoor.num
set_option linter.unusedVariables false

set_option maxHeartbeats 4000000 in
set_option maxRecDepth 100000 in
theorem implJoin_any (l : List Tok) (v : Value) (base : Nat) (w : World) (hg : Sg w) (hl : l.length ≤ 1048576) (hx : ∀ t ∈ l, t.text.size ≤ 1048576) (h : w.ownsRow base 32 4 v l.length (rowOf l)) :
    Calls Tryd.prog 12 #[v] w fun e w' => e = .returned (.tuple #[.string (joinOut l).1, .bool (joinOut l).2]) ∧ Below w.heap.size w w' := by
  obtain ⟨a1, q1, rfl⟩ := row_slice h
  have hsp := spaced_any l _ base w hl hx h
  have HR := hide h
  have HG := hide hg
  clear h hg hx
  by_cases hlong : 3000 < (joinS l).length
  · rw [if_pos hlong] at hsp
    rw [joinOut_long l hlong]
    go_enter Tryd.func12, Tryd.ntmps12
    go_wp2_with fail
    refine hsp.mono ?_
    rintro e w1 ⟨rfl, hb⟩
    go_wp2
    go_ret2
    exact ⟨rfl, hb⟩
  · rw [if_neg hlong] at hsp
    have hO : (ByteArray.mk (joinS l).toArray).size = (joinS l).length := rfl
    have hI0 := fun w hg => implLex_any ⟨(joinS l).toArray⟩ w (by omega) hg
    have hfew := lexAll_few ⟨(joinS l).toArray⟩
    have hsame := joinOut_same l hlong
    have hother := joinOut_other l hlong
    generalize hOO : ByteArray.mk (joinS l).toArray = O at *
    generalize lexAll O = R at *
    obtain ⟨l', c, p⟩ := R
    have hI : ∀ w, Sg w → Calls Tryd.prog 10 #[.string O] w fun e w' => ∃ v, e = .returned (.tuple #[v, .agg #[.int .i64 c, .int .i64 p]]) ∧ w'.ownsRow w.heap.size 32 4 v l'.length (rowOf l') ∧ Below w.heap.size w w' := hI0
    clear hI0 hOO hO
    simp only at hfew hsame hother
    go_enter Tryd.func12, Tryd.ntmps12
    go_wp2_with fail
    refine hsp.mono ?_
    rintro e w1 ⟨rfl, hb⟩
    have G1 := hide ((unhide HG).below hb (unhide HG).size)
    have R1 := hide (row_below (unhide HR) hb)
    have B1 := hide hb
    clear hb HG HR hsp
    go_wp2_with fail
    refine (hI _ (unhide G1)).mono ?_
    rintro e w2 ⟨v2, rfl, hr2, hb⟩
    have R2 := hide (row_below (unhide R1) hb)
    have B2 := hide (((unhide B1).trans (hb.mono (unhide B1).size)).alloc (Nat.le_trans (unhide B1).size hb.size) (.cells #[.int .i64 c, .int .i64 p] 26))
    have hEq := equalFunc_any l l' _ _ _ _ (w2.alloc (.cells #[.int .i64 c, .int .i64 p] 26)) hl (by omega) ((unhide R2).alloc _) (hr2.alloc _)
    clear hb hr2 G1 R1 B1 hI
    by_cases he : l'.map Tok.bare = l.map Tok.bare
    · rw [decide_eq_true he] at hEq
      have hyes := hsame he
      clear hsame hother he
      go_wp2_with fail
      refine hEq.mono ?_
      rintro e w3 ⟨rfl, hb⟩
      go_wp2
      go_ret2
      refine ⟨?_, (unhide B2).trans (hb.mono (unhide B2).size)⟩
      first | (rw [hyes]; rfl) | rfl
    · rw [decide_eq_false he] at hEq
      have hno := hother he
      clear hsame hother he
      go_wp2_with fail
      refine hEq.mono ?_
      rintro e w3 ⟨rfl, hb⟩
      go_wp2
      go_ret2
      refine ⟨?_, (unhide B2).trans (hb.mono (unhide B2).size)⟩
      first | (rw [hno]; rfl) | rfl
end Go.Proofs.YtggkkhlghlghkaaDoor.lex
