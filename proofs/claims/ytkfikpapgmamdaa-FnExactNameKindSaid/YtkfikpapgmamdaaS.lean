/-
  What a name stands for: the program's answer, and that it is the model's.
-/
import Derived.Test.YtkfikpapgmamdaaR
namespace Go.Proofs.Ytkfikpapgmamdaa.nk
open Go.RowKit Go.Maps Go.Proofs.Ytkfikpapgmamdaa.num
set_option linter.unusedVariables false

theorem look_cons (n : ByteArray) (k p : Int) (r : List (ByteArray × Int × Int)) (s : ByteArray) : look ((n, k, p) :: r) s = if n = s then (k, p) else look r s := rfl
theorem pos_cons (a : ByteArray) (r : List ByteArray) (s : ByteArray) : pos (a :: r) s = if a = s then some 0 else (pos r s).map (· + 1) := rfl
theorem look_enum_aux (k : Int) (l : List ByteArray) (r : List (ByteArray × Int × Int)) (s : ByteArray) (o : Nat) :
    look (l.mapIdx (fun i n => (n, k, ((i + o : Nat) : Int))) ++ r) s = match pos l s with | some n => (k, ((n + o : Nat) : Int)) | none => look r s := by
  induction l generalizing o with
  | nil => rfl
  | cons a l ih =>
    rw [List.mapIdx_cons, List.cons_append, look_cons, pos_cons]
    by_cases h : a = s
    · simp [h]
    · rw [if_neg h, if_neg h]
      have := ih (o + 1)
      have e : (fun i (n : ByteArray) => (n, k, ((i + 1 + o : Nat) : Int))) = (fun i n => (n, k, ((i + (o + 1) : Nat) : Int))) := by
        funext i n; rw [Nat.add_assoc, Nat.add_comm 1 o]
      rw [e, this]
      cases hp : pos l s with
      | none => simp
      | some n => simp; omega
theorem look_enum (k : Int) (l : List ByteArray) (r : List (ByteArray × Int × Int)) (s : ByteArray) :
    look (enum k l ++ r) s = match pos l s with | some n => (k, (n : Int)) | none => look r s := by
  have := look_enum_aux k l r s 0
  simpa [enum] using this
theorem look_MP (t : Tb) (s : ByteArray) : look (MP t t.arrays.length t.globals.length t.funcs.length) s = outer t s := by
  unfold MP outer
  rw [show (t.arrays.map (·.name)).take t.arrays.length = t.arrays.map (·.name) from List.take_of_length_le (by simp), List.take_of_length_le (Nat.le_refl _),
    show (t.funcs.map (·.name)).take t.funcs.length = t.funcs.map (·.name) from List.take_of_length_le (by simp), List.append_assoc, look_enum, look_enum]
  have := look_enum 5 (t.funcs.map (·.name)) [] s
  rw [List.append_nil] at this
  rw [this]
  cases pos (t.arrays.map (·.name)) s <;> cases pos t.globals s <;> cases pos (t.funcs.map (·.name)) s <;> simp [look]
theorem look_MF (u : Fu) (s : ByteArray) : look (MF u u.ints.length u.refs.length) s = inner u s := by
  unfold MF inner
  rw [List.take_of_length_le (Nat.le_refl _), List.take_of_length_le (Nat.le_refl _), look_enum]
  have := look_enum 4 u.refs [] s
  rw [List.append_nil] at this
  rw [this]
  cases pos u.ints s <;> cases pos u.refs s <;> simp [look]

/-- The method's name, out of the row's own. -/
def nFind : String := String.append (Rows.fnExactNameKindRow.func.take 19).toString "impl.find"
theorem meth64 {nm : String} (h : nm = nFind) (v : Value) (w : World) : (method 199 64 v nm).run Try.prog w = .ok (48, v) w := by subst h; kernel_rfl
theorem meth75 {nm : String} (h : nm = nFind) (v : Value) (w : World) : (method 199 75 v nm).run Try.prog w = .ok (49, v) w := by subst h; kernel_rfl

variable {base : Nat}
set_option maxHeartbeats 16000000 in
set_option maxRecDepth 100000 in
theorem implKind_any (t : Tb) (fn name : ByteArray) (va vg vf : Value) (w : World) (h : TbAt base w va vg vf t) (hs : t.Small) (hfn : fn.size ≤ maxLen) (hnm : name.size ≤ maxLen) :
    Calls Try.prog 7 #[.agg #[va, vg, vf], .string fn, .string name] w fun e w' => e = .returned (.tuple #[.int .i64 (kindOf t fn name).1, .int .i64 (kindOf t fn name).2]) ∧ Below w.heap.size w w' := by
  have b0 : Below w.heap.size w (w.alloc (.cells #[va, vg, vf] 33)) := (Below.refl _ _).alloc (Nat.le_refl _) _
  have hsc := scope_any t fn va vg vf _ (h.below b0) hs hfn
  clear h
  obtain ⟨r, hr⟩ : ∃ r, r = kindOf t fn name := ⟨_, rfl⟩
  rw [← hr]
  have HR := hide hr
  clear hr
  go_enter Try.func7, Try.ntmps7
  go_wp2_with fail
  refine hsc.mono ?_
  rintro e w1 ⟨⟨v, rfl, g, m, n, c, hns, hv⟩, hb⟩
  have bb := hide (b0.trans (hb.mono b0.size))
  clear hb hsc b0
  rcases hv with ⟨hp, rfl⟩ | ⟨f, u, g2, m2, n2, c2, hp, hu, hns2, hpt, rfl⟩
  · have hk : kindOf t fn name = look (MP t t.arrays.length t.globals.length t.funcs.length) name := by
      rw [look_MP]; simp [kindOf, hp]
    have hf := findP_any name hns hnm
    rw [← hk, ← unhide HR] at hf
    clear hns hp hk
    go_wp2_with fail
    rw [meth64 (by kernel_rfl)]
    go_wp2_with (go_at_call 48; refine hf.mono ?_; rintro e w2 ⟨rfl, hb⟩; replace bb := bel_next bb hb; clear hb hf)
    go_region
    go_wp2
    go_ret2
    exact ⟨rfl, unhide (bel_drew (bel_next bb ((Below.refl _ _).alloc (Nat.le_refl _) _)))⟩
  · have hk : kindOf t fn name = look2 (MF u u.ints.length u.refs.length) (MP t t.arrays.length t.globals.length t.funcs.length) name := by
      unfold look2
      rw [look_MP, look_MF]; simp [kindOf, hp, hu]
    have hf := findF_any name hns hns2 hpt hnm
    rw [← hk, ← unhide HR] at hf
    clear hns hns2 hp hu hpt hk
    go_wp2_with fail
    rw [meth75 (by kernel_rfl)]
    go_wp2_with (go_at_call 49; refine hf.mono ?_; rintro e w2 ⟨rfl, hb⟩; replace bb := bel_next bb hb; clear hb hf)
    go_region
    go_wp2
    go_ret2
    exact ⟨rfl, unhide (bel_drew (bel_next bb ((Below.refl _ _).alloc (Nat.le_refl _) _)))⟩
end Go.Proofs.Ytkfikpapgmamdaa.nk
