/- How an argument of type []uint8, or of type []websterref09.Do, of a law of layer 9 is read. -/
import Derived.Test.YtechbageefmclaaCKn
import Derived.Deep.Slices
import Derived.Deep.Fields
namespace Go.Proofs.Ytechbageefmclaa
open Go.ChangeShapes Go.WideShapes Go.ChangeAt Go.RowKit

theorem Try.laidOut : laidOutB Try.prog = true := by kernel_rfl
theorem Try.own : ownKnob Try.prog.godebug = none := by kernel_rfl
theorem Try.cells3 : Try.prog.cellsOf 3 = 1 := by kernel_rfl
theorem Try.cells31 : Try.prog.cellsOf 31 = 2 := by kernel_rfl
theorem Try.cells5 : Try.prog.cellsOf 5 = 1 := by kernel_rfl

theorem wf_u8 {n : Int} (h : (Lit.int .u8 n).wf = true) : 0 ≤ n ∧ n ≤ 255 := by
  have h1 : IntKind.u8.min = 0 := rfl
  have h2 : IntKind.u8.max = 255 := rfl
  simp only [Lit.wf, Bool.and_eq_true, decide_eq_true_eq] at h
  omega
theorem wf_i64 {n : Int} (h : (Lit.int .i64 n).wf = true) : -9223372036854775808 ≤ n ∧ n ≤ 9223372036854775807 := by
  have h1 : IntKind.i64.min = -9223372036854775808 := rfl
  have h2 : IntKind.i64.max = 9223372036854775807 := rfl
  simp only [Lit.wf, Bool.and_eq_true, decide_eq_true_eq] at h
  omega
/-- The slice value v has the whole numbers xs of a kind. -/
def ArgN (k : IntKind) (w : World) (v : Value) (xs : List Int) : Prop := Vals (· < w.heap.size) w v (xs.map (Value.int k)) ∧ (∀ x ∈ xs, (Lit.int k x).wf = true) ∧ xs.length ≤ maxLen
theorem ints_cells {H : Type} {enc : TypeId × Value → H} {W : World} {fuel ty el : Nat} {kd : IntKind} {cs : List Value} {x : DataW H × List MemPlace} (u1 : Try.prog.underlying ty = some (.slice el)) (u2 : Try.prog.underlying el = some (.int kd)) (hc1 : Try.prog.cellsOf el = 1)
    (h : DataW.trod enc Try.prog W 0 (fun _ => true) true fuel ty cs = some x) : ∃ v xs, cs = [v] ∧ ArgN kd W v xs := by
  rcases open_ints u1 u2 hc1 h with ⟨rfl, _⟩ | ⟨a, len, cap, zs, rfl, _, hl, hm, hz, _, hcell, hwz⟩
  · exact ⟨_, [], rfl, ⟨none, 0, rfl, by simp, .inl rfl⟩, by intro n hn; simp at hn, by simp⟩
  · simp only [if_true] at hz
    have e1 : (zs.take len).length = len := by rw [List.length_take]; omega
    refine ⟨_, zs.take len, rfl, ⟨some a, cap, by rw [List.length_map, e1], by rw [List.length_map, e1]; exact hl, ?_⟩, fun n hn => hwz n (List.mem_of_mem_take hn), by omega⟩
    by_cases h0 : len = 0
    · left; subst h0; rfl
    · obtain ⟨b, off, spot⟩ := a
      have hspot : spot = none := by simpa [Addr.add] using World.cell?_spot (hcell 0 (by omega))
      subst hspot
      have hlt : b < W.heap.size := by
        have := World.block_lt_of_cell? _ _ (hcell 0 (by omega))
        simpa [Addr.add] using this
      refine .inr ⟨b, off, rfl, hlt, fun j u hu => ?_⟩
      rw [List.getElem?_map] at hu
      by_cases hj : j < len
      · have := hcell j (by omega)
        rw [add_plain] at this
        rw [this, ← hu, List.getElem?_take, if_pos hj, List.getD]
        cases hq : zs[j]? with
        | none => rw [List.getElem?_eq_none_iff] at hq; omega
        | some q => rfl
      · rw [List.getElem?_eq_none (by rw [e1]; omega)] at hu
        cases hu
/-- An argument of type []uint8. -/
theorem open_u8s {H : Type} {enc : TypeId × Value → H} {W : World} {base : Nat} {v : Value} {d : DataW H} {ps : List MemPlace} (hok : Value.okWide Try.prog W .any base 43 v)
    (h : DataW.Trod enc Try.prog W 0 (fun _ => true) true 43 v d ps) : ∃ xs, ArgN .u8 W v xs := by
  obtain ⟨a0, len, cap, rfl⟩ := okWide_slice Try.underlying43 hok
  obtain ⟨fuel, hf⟩ := h
  obtain ⟨v', xs, hv, hx⟩ := ints_cells Try.underlying43 Try.underlying5 Try.cells5 hf
  simp [Value.cells] at hv
  subst hv
  exact ⟨xs, hx⟩

/-- Something to do: its kind, its number. -/
structure Todo where
  q : Int
  k : Int
/-- The slice value v has the things L to do. -/
def Dos (w : World) (v : Value) (L : List Todo) : Prop :=
  ∃ a c, v = .slice a L.length c ∧ L.length ≤ maxLen ∧ (∀ t ∈ L, (Lit.int .i64 t.q).wf = true ∧ (Lit.int .i64 t.k).wf = true) ∧
    (L.length = 0 ∨ ∃ b off, a = some ⟨b, off, none⟩ ∧ ∀ (j : Nat) (t : Todo), L[j]? = some t → w.cell? ⟨b, off + j * 2, none⟩ = some (.int .i64 t.q) ∧ w.cell? ⟨b, off + j * 2 + 1, none⟩ = some (.int .i64 t.k))
theorem int_field {H : Type} {enc : TypeId × Value → H} {W : World} {fuel : Nat} {cs : List Value} {x : DataW H × List MemPlace} {j : Nat} (hl : j < cs.length)
    (h : DataW.trod enc Try.prog W 0 (fun _ => true) true fuel 3 ((cs.drop j).take (Try.prog.cellsOf 3)) = some x) : ∃ n : Int, cs[j]? = some (.int .i64 n) ∧ (Lit.int .i64 n).wf = true := by
  obtain ⟨n, hn, _, hw⟩ := DataW.trod_int Try.underlying3 h
  rw [Try.cells3, List.drop_eq_getElem_cons hl] at hn
  have hn : cs[j] = .int .i64 n := (List.cons.inj hn).1
  exact ⟨n, by rw [List.getElem?_eq_getElem hl, hn], hw⟩
theorem list_of {n : Nat} {P : Nat → Todo → Prop} (h : ∀ i, i < n → ∃ t, P i t) : ∃ L : List Todo, L.length = n ∧ ∀ i t, L[i]? = some t → P i t := by
  induction n with
  | zero => exact ⟨[], rfl, fun i t hi => by simp at hi⟩
  | succ n ih =>
    obtain ⟨L, h1, h2⟩ := ih fun i hi => h i (by omega)
    obtain ⟨t, ht⟩ := h n (by omega)
    refine ⟨L ++ [t], by simp [h1], fun i t' hi => ?_⟩
    rcases Nat.lt_or_ge i L.length with h3 | h3
    · rw [List.getElem?_append_left h3] at hi; exact h2 i t' hi
    · rw [List.getElem?_append_right h3] at hi
      by_cases h4 : i - L.length = 0
      · rw [h4] at hi; simp at hi; subst hi
        rw [show i = n by omega]; exact ht
      · rw [List.getElem?_eq_none (by simp; omega)] at hi; cases hi
theorem open_dos {H : Type} {enc : TypeId × Value → H} {W : World} {base : Nat} {v : Value} {d : DataW H} {ps : List MemPlace} (hok : Value.okWide Try.prog W .any base 22 v)
    (h : DataW.Trod enc Try.prog W 0 (fun _ => true) true 22 v d ps) : ∃ L, Dos W v L := by
  obtain ⟨a0, len, cap, rfl⟩ := okWide_slice Try.underlying22 hok
  obtain ⟨fuel, hf⟩ := h
  rcases Deep.open_slice Try.underlying22 hf with ⟨hcs, _⟩ | ⟨a, len', cap', m, n, D, Pl, hcs, _, hl, hm, hmm, _, hi⟩
  · simp [Value.cells] at hcs
    obtain ⟨rfl, rfl, rfl⟩ := hcs
    exact ⟨[], none, 0, rfl, Nat.zero_le _, fun _ ht => (by cases ht), .inl rfl⟩
  · simp [Value.cells] at hcs
    obtain ⟨rfl, rfl, rfl⟩ := hcs
    simp only [if_true] at hmm
    subst hmm
    have all : ∀ i, i < len → ∃ t : Todo, ((Lit.int .i64 t.q).wf = true ∧ (Lit.int .i64 t.k).wf = true) ∧
        W.cell? (a.add (i * 2)) = some (.int .i64 t.q) ∧ W.cell? (a.add (i * 2 + 1)) = some (.int .i64 t.k) := fun i hlt => by
      obtain ⟨cs', hc, ht⟩ := hi i (by omega)
      rw [Try.cells31] at hc
      obtain ⟨_, hcl, hat⟩ := World.cells?_some hc
      obtain ⟨xs, n', _, _, _, hxl, hfs⟩ := DataW.trod_struct Try.underlying31 ht
      have hxl2 : xs.length = 2 := hxl
      have g0 := hfs 0 _ rfl
      have g1 := hfs 1 _ rfl
      rw [List.getElem?_eq_getElem (by omega)] at g0 g1
      obtain ⟨q, q1, q2⟩ := int_field (j := 0) (by omega) g0
      obtain ⟨k, k1, k2⟩ := int_field (j := 1) (by omega) g1
      have c0 := hat 0 (by omega)
      have c1 := hat 1 (by omega)
      rw [Deep.add_add] at c0 c1
      exact ⟨⟨q, k⟩, ⟨q2, k2⟩, c0.trans q1, c1.trans k1⟩
    obtain ⟨L, hL, hat⟩ := list_of all
    refine ⟨L, some a, _, by rw [hL], by omega, fun t ht => ?_, ?_⟩
    · obtain ⟨j, hj, rfl⟩ := List.mem_iff_getElem.1 ht
      exact (hat j _ (List.getElem?_eq_getElem hj)).1
    · by_cases h0 : len = 0
      · exact .inl (by omega)
      · obtain ⟨b, off, spot⟩ := a
        obtain ⟨_, _, c0, _⟩ := all 0 (by omega)
        have hspot : spot = none := by simpa [Addr.add] using World.cell?_spot c0
        subst hspot
        refine .inr ⟨b, off, rfl, fun j t hj => ?_⟩
        have := (hat j t hj).2
        simp only [add_plain] at this
        exact this
end Go.Proofs.Ytechbageefmclaa
