/-
  The program's edges of a point, and the law.
-/
import Derived.Test.YtcdpfpdoiiaggaaRh
namespace Go.Proofs.Ytcdpfpdoiiaggaa.rws
open Go.RowKit Go.ChangeShapes Go.Deep Go.Maps Go.WideAt Go.WideShapes Go.ChangeMaps Go.Proofs.Ytcdpfpdoiiaggaa.num
set_option linter.unusedVariables false

set_option maxHeartbeats 4000000 in
set_option maxRecDepth 100000 in
theorem implOut_any {base : Nat} (es : List Ed) (p : Int) (v0 v1 v2 v3 : Value) (w : World) (h : Eds base w v3 es) (h20 : es.length ≤ 1048576) (hp : (Lit.int .i64 p).wf = true) :
    Calls Try.prog 7 #[.agg #[v0, v1, v2, v3], .int .i64 p] w fun e w' => (∃ v', e = .returned v' ∧ RInts w.heap.size w' v' (outs es p es.length)) ∧ Below w.heap.size w w' := by
  have hkey : keyOf Try.prog 3 (.int .i64 p) = some (.int .i64 p) := keyOf_int_mk Try.underlying3 hp
  have b0 := below1 w (.cells #[v0, v1, v2, v3] 31)
  have hk := edgesFrom_any es v3 _ (h.below b0) h20
  clear h
  go_enter Try.func7, Try.ntmps7
  go_wp2_with fail
  refine hk.mono ?_
  rintro e w1 ⟨rfl, ⟨D, hown, hrep⟩, hb, hs⟩
  have HB := hide (b0.trans (hb.mono b0.size))
  have HR := hide hrep
  have hs2 : w.heap.size ≤ (w.alloc (.cells #[v0, v1, v2, v3] 31)).heap.size := b0.size
  have HS := hide hs2
  rw [size_alloc1] at hown
  clear hk b0 hb hrep hs hs2
  go_wp2_with (first | (at_lookup; refine wpList_lookup_groups _ rfl _ _ 45 rfl 3 22 3 .i64 intKey Try.underlying45 (zeroRow _) _ _ es.length D rfl hown (by unfold maxLen; omega) _ _ rfl hkey ?_; intro v zs hat hoi hzl hback; obtain rfl := (unhide HR).row hat hoi; have HO := hide hoi.1; clear hat hoi hzl hback hown))
  go_ret
  refine ⟨⟨_, rfl, ?_⟩, unhide HB⟩
  unfold RInts Row
  rw [flat_ci]
  exact row_mono (unhide HO) (by omega)
end Go.Proofs.Ytcdpfpdoiiaggaa.rws
