/-
  The program's edges of a point: a map of rows.
-/
import Derived.Test.YtcdpfpdoiiaggaaRf
import Derived.Deep.RegionLaw
namespace Go.Proofs.Ytcdpfpdoiiaggaa.rws
open Go.RowKit Go.ChangeShapes Go.Deep Go.Maps Go.WideAt Go.WideShapes Go.ChangeMaps Go.Proofs.Ytcdpfpdoiiaggaa.num
set_option linter.unusedVariables false

/-- append onto a row of one's own, as a step of a region that draws. -/
theorem step_append_own {P : Program} {ops : Array Oper} {o : Oper} {a : Act} {w : World} {K : Act → World → Prop} {Q : Exit → Act → World → Prop} {E : Prop}
    (hg : o.guard = none) (s x : Operand) (t : TypeId) (hop : o.op = Op.call { callee := Callee.builtin Builtin.append, args := #[s, x], argTypes := #[t, t] })
    (base : Nat) (e : TypeId) (i : TypeInfo) (z : Value) (size bytes : Nat) (h1 : P.underlying t = some (.slice e)) (h2 : P.info? e = some i) (h3 : i.zero = some z) (h4 : i.size = size) (h5 : i.bytes = bytes) (h6 : z.cells.size = size) (h7 : 0 < size)
    (v : Value) (n : Nat) (xs : List Value) (hs : a.eval s = v) (hown : w.ownsRow base e size v n xs)
    (ad : Addr) (m c : Nat) (news : List Value) (hx : a.eval x = .slice (some ad) m c) (hn : news.length = m * size) (hc : ∀ j u, news[j]? = some u → w.cell? (ad.add j) = some u) (h1c : ∀ u ∈ news, u.oneCell' = true)
    (b1 : n + m ≤ maxLen) (b2 : (n + m) * bytes ≤ 140737488355328) (hbase : base ≤ w.heap.size)
    (hK : ∀ v' w', w'.ownsRow base e size v' (n + m) (xs ++ news) → w.grownBy w' v.ownBlock → (v'.ownBlock = v.ownBlock ∨ v'.ownBlock = some w.heap.size) → K (a.put o.dst v') w') :
    if Region.wanted o (yielded ops a.tmps) = true then Oper.wp P o a w K Q else E := by
  have hw : Region.wanted o (yielded ops a.tmps) = true := by simp [Region.wanted, hg]
  rw [if_pos hw]
  obtain ⟨v', w', hrun, r1, r2, _, r3⟩ := run_append_own_at (P := P) w base t o.type e i z size bytes h1 h2 h3 h4 h5 h6 h7 v n xs hown ad m c news hn hc h1c b1 b2 hbase
  unfold Oper.wp
  simp [execOp, hop, resolve, invoke, builtin, hs, hx, hrun, Result.andThen]
  exact hK v' w' r1 r2 r3

theorem intKey : Keyed Try.prog 3 := int_keyed Try.underlying3
theorem zeroRow (w : World) : (zeroValue 22).run Try.prog w = .ok (.slice none 0 0) w := by kernel_rfl
/-- The numbers of an element. -/
def items : DataW Unit → List (DataW Unit)
  | .slice es _ => es
  | _ => []
theorem lits_inj : ∀ {a b : List Int}, lits (H := Unit) .i64 a = lits .i64 b → a = b := by
  intro a
  induction a with
  | nil => intro b h; cases b with
    | nil => rfl
    | cons y r => simp [lits] at h
  | cons x r ih => intro b h; cases b with
    | nil => simp [lits] at h
    | cons y s =>
      simp [lits] at h ih
      rw [h.1, ih h.2]
/-- What the map holds behind j edges. -/
def Rep (D : DataW Unit) (es : List Ed) (j : Nat) : Prop := IsMap D ∧ ∀ p : Int, items (D.atKey (.int .i64 p) .nil) = lits .i64 (outs es p j)
theorem rep_nil (es : List Ed) : Rep (.map []) es 0 := ⟨⟨[], rfl⟩, fun p => rfl⟩
theorem items_row {w : World} {base : Nat} {v : Value} {zs : List Int} (h : w.ownsInts base 3 .i64 v zs) : items (rowDatum .i64 v zs) = lits .i64 zs := by
  rcases h.datum (H := Unit) with ⟨e, rfl⟩ | e
  · rw [e]; rfl
  · rw [e]; rfl
theorem Rep.row {D : DataW Unit} {es : List Ed} {j : Nat} {w : World} {base : Nat} {v : Value} {zs : List Int} {p : Int} (h : Rep D es j) (hat : D.atKey (.int .i64 p) .nil = rowDatum .i64 v zs) (ho : w.ownsInts base 3 .i64 v zs) : zs = outs es p j := by
  have := h.2 p
  rw [hat, items_row ho] at this
  exact lits_inj this
theorem Rep.put {D : DataW Unit} {es : List Ed} {j : Nat} {w : World} {base : Nat} {v : Value} {t : Ed} (h : Rep D es j) (ht : es[j]? = some t) (ho : w.ownsInts base 3 .i64 v (outs es t.a j ++ [(j : Int)])) :
    Rep (D.put (.int .i64 t.a) (rowDatum .i64 v (outs es t.a j ++ [(j : Int)]))) es (j + 1) := by
  refine ⟨h.1.put _ _, fun p => ?_⟩
  by_cases e : t.a = p
  · subst e
    rw [atKey_put_same h.1 (show IsKeyLit (.int .i64 t.a) from trivial), items_row ho, outs_yes ht rfl]
  · rw [atKey_put_other (fun e2 => e (by injection e2 with _ e3; exact e3.symm)), h.2 p, outs_no ht e]
end Go.Proofs.Ytcdpfpdoiiaggaa.rws
