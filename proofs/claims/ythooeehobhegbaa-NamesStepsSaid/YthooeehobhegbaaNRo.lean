/- Rows of numbers of a law's own, that grow. -/
import Derived.Test.YthooeehobhegbaaNHl
import Derived.Deep.AppendSrc
import Derived.Lib.AppendZeros
namespace Go.Proofs.Ythooeehobhegbaa
set_option maxRecDepth 1000000
open Go.ChangeShapes Go.WideShapes Go.ChangeAt Go.RowKit

theorem append_nil_run {w : World} {base n : Nat} {v : Value} {xs : List Value} (hown : w.ownsRow base 3 1 v n xs) (c : Nat) (ty : TypeId) :
    (Builtin.append_ #[23, 23] ty #[v, .slice none 0 c]).run Try.prog w = .ok v w := by
  obtain ⟨i0, hi, hz0, hz1, hz2⟩ := info_parts Try.info3
  rcases hown.2 with ⟨rfl, h0⟩ | ⟨g, cap, cur, rfl, hb, hg, hn, _⟩
  · simp [Builtin.append_, run_underlying Try.underlying23, sizeOf, typeInfo, hi, Builtin.lenOf, Builtin.firstCells]
  · have := run_append_room_src (P := Try.prog) (w := w) 23 23 ty 3 i0 Try.underlying23 hi g 0 n cap (.slice none 0 c) 0 [] (Src.ofNil _ Try.underlying23 c) (by omega) (by simp) (by simp)
    simpa [World.setCells] using this
/-- append(b, x...) where b is one's own and x is any row of numbers. -/
theorem append_ints {N : Nat → Prop} {ops : Array Oper} {rest : List Oper} {o : Oper} {a : Act} {Q : Exit → Act → World → Prop} {w : World} (hgd : o.guard = none) (s x : Operand)
    (ho : o.op = .call { callee := .builtin .append, args := #[s, x], argTypes := #[23, 23] }) (base : Nat) (v : Value) (xs : List Int) (hs : a.eval s = v)
    (hown : w.ownsRow base 3 1 v xs.length (xs.map (Value.int .i64))) (vx : Value) (ys : List Int) (hx : a.eval x = vx) (hb : Ints N w vx ys) (hl : xs.length + ys.length ≤ 1000000) (hbase : base ≤ w.heap.size)
    (h : ∀ v' w', w'.ownsRow base 3 1 v' (xs ++ ys).length ((xs ++ ys).map (Value.int .i64)) → Below base w w' → w.grownBy w' v.ownBlock → wpList Try.prog ops Q rest (a.put o.dst v') w') : wpList Try.prog ops Q (o :: rest) a w := by
  obtain ⟨i0, hi, hz0, hz1, hz2⟩ := info_parts Try.info3
  obtain ⟨a', c, rfl, hyc, hb⟩ := hb
  rw [List.length_map] at hx hyc
  rcases a' with _ | ⟨b, off, spot⟩
  · have h0 : ys = [] := by
      rcases hb with h | ⟨b, off, ha, _⟩
      · exact List.map_eq_nil_iff.1 h
      · cases ha
    subst h0
    refine Lib.wpList_append_run w hgd s x 23 23 ho v _ hs hx v w (append_nil_run hown c _) (h v w ?_ (Below.refl _ _) ⟨rfl, rfl, rfl, Nat.le_refl _, fun _ _ _ => rfl⟩)
    rw [List.append_nil]; exact hown
  · refine wpList_append_own _ hgd s x 23 ho base 3 i0 (.int .i64 0) 1 8 Try.underlying23 hi hz0 hz1 hz2 rfl (by decide) v _ _ hs hown ⟨b, off, spot⟩ ys.length c (ys.map (Value.int .i64)) hx (by simp) ?_ ?_ ?_ (by omega) hbase ?_
    · rcases hb with h0 | ⟨b', off', ha, _, hb⟩
      · intro j u hu; rw [h0] at hu; simp at hu
      · injection ha with ha
        injection ha with e1 e2 e3
        subst e1 e2 e3
        intro j u hu
        rw [add_plain]
        exact hb j u hu
    · intro u hu; simp at hu; obtain ⟨x, _, rfl⟩ := hu; rfl
    · unfold maxLen; omega
    · intro v' w' h1 h2 _
      refine h v' w' ?_ ((Below.refl _ _).grown h2 hbase fun g hg => (hown.lt g hg).1) h2
      rw [List.length_append, List.map_append]; exact h1
/-- A row of one's own, read. -/
theorem own_row {w : World} {base : Nat} {u : Value} {xs : List Int} (h : w.ownsRow base 3 1 u xs.length (xs.map (Value.int .i64))) : Ints (fun b => base ≤ b ∧ b < w.heap.size) w u xs := by
  have e : xs.length = (xs.map (Value.int .i64)).length := (List.length_map _).symm
  rw [e] at h
  have hv := Vals.of_own h
  exact Vals.kind (N := (base ≤ ·)) hv (fun b hb hN => ⟨hN, hb⟩)
end Go.Proofs.Ythooeehobhegbaa
