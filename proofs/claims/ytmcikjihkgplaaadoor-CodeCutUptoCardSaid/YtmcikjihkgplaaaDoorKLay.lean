/- How an argument of type []byte, or of type []api.Op, of a law of layer 12 is read. -/
import Derived.Test.YtmcikjihkgplaaaDoorKBy
import Derived.Deep.Slices
import Derived.Deep.Fields
import Derived.SizedLaws
namespace Go.Proofs.YtmcikjihkgplaaaDoor
set_option maxRecDepth 1000000
open Go.ChangeShapes Go.WideShapes Go.ChangeAt Go.RowKit

def W64 (n : Int) : Prop := (Lit.int .i64 n).wf = true
theorem Tryd.laidOut : laidOutB Tryd.prog = true := by kernel_rfl
theorem Tryd.own : ownKnob Tryd.prog.godebug = none := by kernel_rfl
theorem Tryd.cells5 : Tryd.prog.cellsOf 5 = 1 := by kernel_rfl
theorem Tryd.cells3 : Tryd.prog.cellsOf 3 = 1 := by kernel_rfl
theorem Tryd.cells22 : Tryd.prog.cellsOf 22 = 1 := by kernel_rfl

theorem wf_u8 {n : Int} (h : (Lit.int .u8 n).wf = true) : 0 ≤ n ∧ n ≤ 255 := by
  have h1 : IntKind.u8.min = 0 := rfl
  have h2 : IntKind.u8.max = 255 := rfl
  simp only [Lit.wf, Bool.and_eq_true, decide_eq_true_eq] at h
  omega
theorem wf_i64 {n : Int} (h : (Lit.int .i64 n).wf = true) : -9223372036854775808 ≤ n ∧ n ≤ 9223372036854775807 := by
  have h1 : IntKind.i64.min = -9223372036854775808 := rfl
  have h2 : IntKind.i64.max = 9223372036854775807 := rfl
  simp only [Lit.wf, Bool.and_eq_true, decide_eq_true_eq] at h
  omega

/-- A row of bytes that came in. -/
def ArgB (w : World) (v : Value) (xs : List Int) : Prop := Bts (· < w.heap.size) w v xs ∧ Bytes xs ∧ xs.length ≤ maxLen

theorem bytes_cells {H : Type} {enc : TypeId × Value → H} {W : World} {fuel : Nat} {cs : List Value} {x : DataW H × List MemPlace}
    (h : DataW.trod enc Tryd.prog W 0 (fun _ => true) true fuel 22 cs = some x) : ∃ v xs, cs = [v] ∧ ArgB W v xs := by
  rcases open_ints Tryd.underlying22 Tryd.underlying5 Tryd.cells5 h with ⟨rfl, _⟩ | ⟨a, len, cap, zs, rfl, _, hl, hm, hz, _, hcell, hwz⟩
  · exact ⟨_, [], rfl, ⟨none, 0, rfl, by simp, .inl rfl⟩, by intro n hn; simp at hn, by simp⟩
  · simp only [if_true] at hz
    have e1 : (zs.take len).length = len := by rw [List.length_take]; omega
    refine ⟨_, zs.take len, rfl, ⟨some a, cap, by rw [List.length_map, e1], by rw [List.length_map, e1]; exact hl, ?_⟩, fun n hn => wf_u8 (hwz n (List.mem_of_mem_take hn)), by omega⟩
    by_cases h0 : len = 0
    · left; subst h0; rfl
    · obtain ⟨b, off, spot⟩ := a
      have hspot : spot = none := by simpa [Addr.add] using World.cell?_spot (hcell 0 (by omega))
      subst hspot
      have hlt : b < W.heap.size := by
        have := World.block_lt_of_cell? _ _ (hcell 0 (by omega))
        simpa [Addr.add] using this
      refine .inr ⟨b, off, rfl, hlt, fun j u hu => ?_⟩
      rw [List.getElem?_map] at hu
      by_cases hj : j < len
      · have := hcell j (by omega)
        rw [add_plain] at this
        rw [this, ← hu, List.getElem?_take, if_pos hj, List.getD]
        cases hq : zs[j]? with
        | none => rw [List.getElem?_eq_none_iff] at hq; omega
        | some q => rfl
      · rw [List.getElem?_eq_none (by rw [e1]; omega)] at hu
        cases hu

/-- An argument of type []byte. -/
theorem open_bts {H : Type} {enc : TypeId × Value → H} {W : World} {base : Nat} {v : Value} {d : DataW H} {ps : List MemPlace} (hok : Value.okWide Tryd.prog W .any base 22 v)
    (h : DataW.Trod enc Tryd.prog W 0 (fun _ => true) true 22 v d ps) : ∃ xs, ArgB W v xs := by
  obtain ⟨a0, len, cap, rfl⟩ := okWide_slice Tryd.underlying22 hok
  obtain ⟨fuel, hf⟩ := h
  obtain ⟨v', xs, hv, hx⟩ := bytes_cells hf
  simp [Value.cells] at hv
  subst hv
  exact ⟨xs, hx⟩

theorem Tryd.cells25 : Tryd.prog.cellsOf 25 = 4 := by kernel_rfl
theorem Tryd.bytes25 : Tryd.prog.bytesOf 25 = 32 := by kernel_rfl
theorem Tryd.bytes3 : Tryd.prog.bytesOf 3 = 8 := by kernel_rfl
def OpT.wf (t : OpT) : Prop := W64 t.k ∧ W64 t.n ∧ W64 t.m ∧ W64 t.l
/-- The slice value v has the things L to do. -/
def OpsIn (w : World) (v : Value) (L : List OpT) : Prop :=
  ∃ a c, v = .slice a L.length c ∧ (∀ t ∈ L, t.wf) ∧ (L.length = 0 ∨ ∃ b off, a = some ⟨b, off, none⟩ ∧ ∀ (j : Nat) (t : OpT), L[j]? = some t → RowO w b (off + j * 4) t)
theorem int_field {H : Type} {enc : TypeId × Value → H} {W : World} {fuel : Nat} {cs : List Value} {x : DataW H × List MemPlace} {j : Nat} (hl : j < cs.length)
    (h : DataW.trod enc Tryd.prog W 0 (fun _ => true) true fuel 3 ((cs.drop j).take (Tryd.prog.cellsOf 3)) = some x) : ∃ n : Int, cs[j]? = some (.int .i64 n) ∧ (Lit.int .i64 n).wf = true := by
  obtain ⟨n, hn, _, hw⟩ := DataW.trod_int Tryd.underlying3 h
  rw [Tryd.cells3, List.drop_eq_getElem_cons hl] at hn
  have hn : cs[j] = .int .i64 n := (List.cons.inj hn).1
  exact ⟨n, by rw [List.getElem?_eq_getElem hl, hn], hw⟩
theorem list_of {n : Nat} {P : Nat → OpT → Prop} (h : ∀ i, i < n → ∃ t, P i t) : ∃ L : List OpT, L.length = n ∧ ∀ i t, L[i]? = some t → P i t := by
  induction n with
  | zero => exact ⟨[], rfl, fun i t hi => by simp at hi⟩
  | succ n ih =>
    obtain ⟨L, h1, h2⟩ := ih fun i hi => h i (by omega)
    obtain ⟨t, ht⟩ := h n (by omega)
    refine ⟨L ++ [t], by simp [h1], fun i t' hi => ?_⟩
    rcases Nat.lt_or_ge i L.length with h3 | h3
    · rw [List.getElem?_append_left h3] at hi; exact h2 i t' hi
    · rw [List.getElem?_append_right h3] at hi
      by_cases h4 : i - L.length = 0
      · rw [h4] at hi; simp at hi; subst hi
        rw [show i = n by omega]; exact ht
      · rw [List.getElem?_eq_none (by simp; omega)] at hi; cases hi
theorem open_dosz {H : Type} {enc : TypeId × Value → H} {W : World} {base : Nat} {v : Value} {d : DataW H} {ps : List MemPlace} (hok : Value.okWide Tryd.prog W .any base 31 v)
    (h : DataW.Trod enc Tryd.prog W 0 (fun _ => true) true 31 v d ps) (hd : ∀ x ∈ d.weights Tryd.prog 31, x ≤ reachBytes) : ∃ L, OpsIn W v L ∧ L.length ≤ 5000000000000 := by
  have er : reachBytes = 140737488351232 := rfl
  obtain ⟨a0, len, cap, rfl⟩ := okWide_slice Tryd.underlying31 hok
  obtain ⟨fuel, hf⟩ := h
  rcases Deep.open_slice Tryd.underlying31 hf with ⟨hcs, _⟩ | ⟨a, len', cap', m, n, D, Pl, hcs, _, hl, hm, hmm, hxx, hi⟩
  · simp [Value.cells] at hcs
    obtain ⟨rfl, rfl, rfl⟩ := hcs
    exact ⟨[], ⟨none, 0, rfl, fun _ ht => (by cases ht), .inl rfl⟩, Nat.zero_le _⟩
  · simp [Value.cells] at hcs
    obtain ⟨rfl, rfl, rfl⟩ := hcs
    simp only [if_true] at hmm
    subst hmm
    have hdd : d = .slice ((List.range len).map D) ((List.range (m - len)).map fun j => D (len + j)) := congrArg Prod.fst hxx
    have hw : d.weights Tryd.prog 31 = (((List.range len).map D).length + ((List.range (m - len)).map fun j => D (len + j)).length) * Tryd.prog.bytesOf 25 :: (DataW.weightsAll Tryd.prog 25 ((List.range len).map D) ++ DataW.weightsAll Tryd.prog 25 ((List.range (m - len)).map fun j => D (len + j))) := by
      rw [hdd]
      simp only [DataW.weights, Tryd.underlying31]
    have hlen : len * 32 ≤ 140737488351232 := by
      have := hd _ (by rw [hw]; exact List.mem_cons_self)
      rw [Tryd.bytes25] at this
      simp at this
      omega
    have all : ∀ i, i < len → ∃ t : OpT, t.wf ∧
        W.cell? (a.add (i * 4)) = some (.int .i64 t.k) ∧ W.cell? (a.add (i * 4 + 1)) = some (.int .i64 t.n) ∧ W.cell? (a.add (i * 4 + 2)) = some (.int .i64 t.m) ∧ W.cell? (a.add (i * 4 + 3)) = some (.int .i64 t.l) := fun i hlt => by
      obtain ⟨cs', hc, ht⟩ := hi i (by omega)
      rw [Tryd.cells25] at hc
      obtain ⟨_, hcl, hat⟩ := World.cells?_some hc
      obtain ⟨xs, n', _, _, _, hxl, hfs⟩ := DataW.trod_struct Tryd.underlying25 ht
      have hxl2 : xs.length = 4 := hxl
      have g0 := hfs 0 _ rfl
      have g1 := hfs 1 _ rfl
      have g2 := hfs 2 _ rfl
      have g3 := hfs 3 _ rfl
      rw [List.getElem?_eq_getElem (by omega)] at g0 g1 g2 g3
      obtain ⟨q, q1, q2⟩ := int_field (j := 0) (by omega) g0
      obtain ⟨k, k1, k2⟩ := int_field (j := 1) (by omega) g1
      obtain ⟨r, r1, r2⟩ := int_field (j := 2) (by omega) g2
      obtain ⟨s, s1, s2⟩ := int_field (j := 3) (by omega) g3
      have c0 := hat 0 (by omega)
      have c1 := hat 1 (by omega)
      have c2 := hat 2 (by omega)
      have c3 := hat 3 (by omega)
      rw [Deep.add_add] at c0 c1 c2 c3
      exact ⟨⟨q, k, r, s⟩, ⟨q2, k2, r2, s2⟩, c0.trans q1, c1.trans k1, c2.trans r1, c3.trans s1⟩
    obtain ⟨L, hL, hat⟩ := list_of all
    refine ⟨L, ⟨some a, _, by rw [hL], fun t ht => ?_, ?_⟩, by omega⟩
    · obtain ⟨j, hj, rfl⟩ := List.mem_iff_getElem.1 ht
      exact (hat j _ (List.getElem?_eq_getElem hj)).1
    · by_cases h0 : len = 0
      · exact .inl (by omega)
      · obtain ⟨b, off, spot⟩ := a
        obtain ⟨_, _, c0, _⟩ := all 0 (by omega)
        have hspot : spot = none := by simpa [Addr.add] using World.cell?_spot c0
        subst hspot
        refine .inr ⟨b, off, rfl, fun j t hj => ?_⟩
        have := (hat j t hj).2
        simp only [add_plain] at this
        exact this
theorem OpsIn.ops {w : World} {v : Value} {L : List OpT} (h : OpsIn w v L) : OpsAt (· < w.heap.size) w v L := by
  obtain ⟨a, c, rfl, _, hz⟩ := h
  refine ⟨a, c, rfl, ?_⟩
  by_cases h0 : L.length = 0
  · exact .inl (List.eq_nil_of_length_eq_zero h0)
  · obtain ⟨b, off, ha, hc⟩ := hz.resolve_left h0
    exact .inr ⟨b, off, ha, World.block_lt_of_cell? _ _ (hc 0 _ (List.getElem?_eq_getElem (by omega))).1, hc⟩
end Go.Proofs.YtmcikjihkgplaaaDoor
