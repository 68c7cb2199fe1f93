/- Rows of numbers of a law's own, that grow. -/
import Derived.Test.YtgfjfpfhalblgaaHZe
import Derived.Deep.AppendSrc
namespace Go.Proofs.Ytgfjfpfhalblgaa
set_option maxRecDepth 1000000
open Go.ChangeShapes Go.WideShapes Go.ChangeAt Go.RowKit

theorem append_nil_run {w : World} {base n : Nat} {v : Value} {xs : List Value} (hown : w.ownsRow base 3 1 v n xs) (c : Nat) (ty : TypeId) :
    (Builtin.append_ #[29, 29] ty #[v, .slice none 0 c]).run Try.prog w = .ok v w := by
  obtain ⟨i0, hi, hz0, hz1, hz2⟩ := info_parts Try.info3
  rcases hown.2 with ⟨rfl, h0⟩ | ⟨g, cap, cur, rfl, hb, hg, hn, _⟩
  · simp [Builtin.append_, run_underlying Try.underlying29, sizeOf, typeInfo, hi, Builtin.lenOf, Builtin.firstCells]
  · have := run_append_room_src (P := Try.prog) (w := w) 29 29 ty 3 i0 Try.underlying29 hi g 0 n cap (.slice none 0 c) 0 [] (Src.ofNil _ Try.underlying29 c) (by omega) (by simp) (by simp)
    simpa [World.setCells] using this
/-- append(b, x...) where b is one's own and x is any row of numbers. -/
theorem append_ints {N : Nat → Prop} {ops : Array Oper} {rest : List Oper} {o : Oper} {a : Act} {Q : Exit → Act → World → Prop} {w : World} (hgd : o.guard = none) (s x : Operand)
    (ho : o.op = .call { callee := .builtin .append, args := #[s, x], argTypes := #[29, 29] }) (base : Nat) (v : Value) (xs : List Int) (hs : a.eval s = v)
    (hown : w.ownsRow base 3 1 v xs.length (xs.map (Value.int .i64))) (vx : Value) (ys : List Int) (hx : a.eval x = vx) (hb : Ints N w vx ys) (hl : xs.length + ys.length ≤ 1000000) (hbase : base ≤ w.heap.size)
    (h : ∀ v' w', w'.ownsRow base 3 1 v' (xs ++ ys).length ((xs ++ ys).map (Value.int .i64)) → Below base w w' → w.grownBy w' v.ownBlock → wpList Try.prog ops Q rest (a.put o.dst v') w') : wpList Try.prog ops Q (o :: rest) a w := by
  obtain ⟨i0, hi, hz0, hz1, hz2⟩ := info_parts Try.info3
  obtain ⟨a', c, rfl, hyc, hb⟩ := hb
  rw [List.length_map] at hx hyc
  rcases a' with _ | ⟨b, off, spot⟩
  · have h0 : ys = [] := by
      rcases hb with h | ⟨b, off, ha, _⟩
      · exact List.map_eq_nil_iff.1 h
      · cases ha
    subst h0
    refine Lib.wpList_append_run w hgd s x 29 29 ho v _ hs hx v w (append_nil_run hown c _) (h v w ?_ (Below.refl _ _) ⟨rfl, rfl, rfl, Nat.le_refl _, fun _ _ _ => rfl⟩)
    rw [List.append_nil]; exact hown
  · refine wpList_append_own _ hgd s x 29 ho base 3 i0 (.int .i64 0) 1 8 Try.underlying29 hi hz0 hz1 hz2 rfl (by decide) v _ _ hs hown ⟨b, off, spot⟩ ys.length c (ys.map (Value.int .i64)) hx (by simp) ?_ ?_ ?_ (by omega) hbase ?_
    · rcases hb with h0 | ⟨b', off', ha, _, hb⟩
      · intro j u hu; rw [h0] at hu; simp at hu
      · injection ha with ha
        injection ha with e1 e2 e3
        subst e1 e2 e3
        intro j u hu
        rw [add_plain]
        exact hb j u hu
    · intro u hu; simp at hu; obtain ⟨x, _, rfl⟩ := hu; rfl
    · unfold maxLen; omega
    · intro v' w' h1 h2 _
      refine h v' w' ?_ ((Below.refl _ _).grown h2 hbase fun g hg => (hown.lt g hg).1) h2
      rw [List.length_append, List.map_append]; exact h1
/-- append(b, make([]int, k)...) where b is one's own. -/
theorem append_zs {ops : Array Oper} {rest : List Oper} {o : Oper} {a : Act} {Q : Exit → Act → World → Prop} {w : World} (hgd : o.guard = none) (s x : Operand)
    (ho : o.op = .call { callee := .builtin .append, args := #[s, x], argTypes := #[29, 3] }) (base : Nat) (v : Value) (xs : List Int) (hs : a.eval s = v)
    (hown : w.ownsRow base 3 1 v xs.length (xs.map (Value.int .i64))) (k : Nat) (z : Int) (hz : z = k) (hx : a.eval x = .int .i64 z) (hl : xs.length + k ≤ 1000000) (hbase : base ≤ w.heap.size)
    (h : ∀ v' w', w'.ownsRow base 3 1 v' (xs ++ List.replicate k 0).length ((xs ++ List.replicate k 0).map (Value.int .i64)) → Below base w w' → w.grownBy w' v.ownBlock → wpList Try.prog ops Q rest (a.put o.dst v') w') : wpList Try.prog ops Q (o :: rest) a w := by
  subst hz
  obtain ⟨v', w', hr, own, gr⟩ := append_zeros w hown k hl hbase o.type
  refine Lib.wpList_append_run w hgd s x 29 3 ho v _ hs hx v' w' hr (h v' w' ?_ ((Below.refl _ _).grown gr hbase fun g hg => (hown.lt g hg).1) gr)
  rw [List.length_append, List.length_replicate, List.map_append, List.map_replicate]; exact own
/-- A row of one's own, read. -/
theorem own_row {w : World} {base : Nat} {u : Value} {xs : List Int} (h : w.ownsRow base 3 1 u xs.length (xs.map (Value.int .i64))) : Ints (fun b => base ≤ b ∧ b < w.heap.size) w u xs := by
  have e : xs.length = (xs.map (Value.int .i64)).length := (List.length_map _).symm
  rw [e] at h
  have hv := Vals.of_own h
  exact Vals.kind (N := (base ≤ ·)) hv (fun b hb hN => ⟨hN, hb⟩)
theorem take_snoc {xs : List Int} {k : Nat} (hk : k < xs.length) : xs.take (k + 1) = xs.take k ++ [xs.getD k 0] := by
  rw [List.take_succ_eq_append_getElem hk, List.getD, List.getElem?_eq_getElem hk]; rfl
end Go.Proofs.Ytgfjfpfhalblgaa
