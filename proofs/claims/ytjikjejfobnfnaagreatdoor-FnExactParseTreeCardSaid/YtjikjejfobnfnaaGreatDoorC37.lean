/-
  Marks laid into tokens, and read again.
-/
import Derived.Test.YtjikjejfobnfnaaGreatDoorC09
import Derived.Laws.BytesArg
namespace Go.Proofs.YtjikjejfobnfnaaGreatDoor.lex
open Go.RowKit Go.Proofs.YtjikjejfobnfnaaGreatDoor.num
set_option linter.unusedVariables false
def mkFrom (j : Nat) (out : ByteArray) : ByteArray := if j = 0 then out else mkFrom (j / 10) (strOfNums [48 + (j : Int) % 10] ++ out)
termination_by j
/-- The text of a mark. -/
def markS (k : Nat) : ByteArray := ⟨#[109]⟩ ++ mkFrom k ⟨#[]⟩
theorem mkFrom_go (j : Nat) (out : ByteArray) (h : ¬ j = 0) : mkFrom j out = mkFrom (j / 10) (strOfNums [48 + (j : Int) % 10] ++ out) := by rw [mkFrom, if_neg h]
theorem mkFrom_end (out : ByteArray) : mkFrom 0 out = out := by rw [mkFrom, if_pos rfl]

set_option maxHeartbeats 1000000 in
set_option maxRecDepth 100000 in
theorem markText_any (k : Nat) (h : 0 < k) (hk : k ≤ 1000000) (w : World) : Calls Tryz.prog 29 #[.int .i64 (k : Int)] w fun e w' => e = .returned (.string (markS k)) ∧ Below w.heap.size w w' := by
  go_enter Tryz.func29, Tryz.ntmps29
  go_wp2
  go_loopw [0, 3] (fun i o wr => ∃ (j : Nat) (out : ByteArray), j ≤ k ∧ i = .int .i64 j ∧ o = .string out ∧ Hid (mkFrom j out = mkFrom k ⟨#[]⟩) ∧ out.size + j ≤ k ∧ Below w.heap.size w wr) (fun i _ _ => (intOf i).toNat)
  case atStart => exact ⟨k, ⟨#[]⟩, by omega, rfl, rfl, hide rfl, by simp [ByteArray.size], Below.refl _ _⟩
  case round =>
    obtain ⟨j, out, hj, rfl, rfl, HM, hsz, hb⟩ := hrel
    by_cases hlt : 0 < j
    · have hcell : ∀ i, i < 1 → (wr.alloc (.cells #[.int .u8 (48 + (j : Int) % 10)] 5)).cell? ⟨wr.heap.size, 0 + i, none⟩ = some (.int .u8 ([48 + (j : Int) % 10].getD i 0)) := by
        intro i hi
        obtain rfl : i = 0 := by omega
        exact cell_of (one_first wr _) rfl
      have hcv := run_convert_bytes_arg (P := Tryz.prog) (wr.alloc (.cells #[.int .u8 (48 + (j : Int) % 10)] 5)) 22 5 Tryz.underlying22 Tryz.underlying5 wr.heap.size 0 1 1 [48 + (j : Int) % 10] rfl hcell 9 Tryz.underlying9
      clear hcell
      have HM2 := hide ((mkFrom_go j out (by omega)).symm.trans (unhide HM))
      have HB := hide hb
      have hds : (strOfNums [48 + (j : Int) % 10]).size = 1 := strOfNums_size _
      clear hb HM
      generalize strOfNums [48 + (j : Int) % 10] = D at *
      have h109 : ¬ (9223372036854775807 < 1 + out.size) := by omega
      go_wp2
      go_roundw
      case rel => exact ⟨j / 10, D ++ out, by omega, by go_num, rfl, HM2, by simp [hds]; omega, (unhide HB).alloc (unhide HB).size _⟩
      case measure => simp [intOf]; omega
    · obtain rfl : j = 0 := by omega
      have hm := hide ((mkFrom_end out).symm.trans (unhide HM))
      have h109 : ¬ (9223372036854775807 < 1 + out.size) := by omega
      have HB := hide hb
      clear hb HM
      go_wp2
      all_goals first
        | (exfalso; omega)
        | (go_ret; refine ⟨?_, unhide HB⟩; rw [markS, ← unhide hm]; rfl)
end Go.Proofs.YtjikjejfobnfnaaGreatDoor.lex
