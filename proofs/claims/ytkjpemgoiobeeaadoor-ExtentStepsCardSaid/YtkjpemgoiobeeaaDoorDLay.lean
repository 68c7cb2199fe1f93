/- How an argument of type []byte, or of type []websterref04.Do, of a law of layer 3 is read. -/
import Derived.Test.YtkjpemgoiobeeaaDoorDClr
import Derived.Deep.Slices
import Derived.Deep.Fields
namespace Go.Proofs.YtkjpemgoiobeeaaDoor
set_option maxRecDepth 1000000
open Go.ChangeShapes Go.WideShapes Go.ChangeAt Go.RowKit

theorem Tryd.laidOut : laidOutB Tryd.prog = true := by kernel_rfl
theorem Tryd.own : ownKnob Tryd.prog.godebug = none := by kernel_rfl
theorem Tryd.cells5 : Tryd.prog.cellsOf 5 = 1 := by kernel_rfl
theorem Tryd.cells3 : Tryd.prog.cellsOf 3 = 1 := by kernel_rfl
theorem Tryd.cells33 : Tryd.prog.cellsOf 33 = 1 := by kernel_rfl
theorem Tryd.cells35 : Tryd.prog.cellsOf 35 = 3 := by kernel_rfl

theorem wf_u8 {n : Int} (h : (Lit.int .u8 n).wf = true) : 0 ≤ n ∧ n ≤ 255 := by
  have h1 : IntKind.u8.min = 0 := rfl
  have h2 : IntKind.u8.max = 255 := rfl
  simp only [Lit.wf, Bool.and_eq_true, decide_eq_true_eq] at h
  omega
theorem wf_i64 {n : Int} (h : (Lit.int .i64 n).wf = true) : -9223372036854775808 ≤ n ∧ n ≤ 9223372036854775807 := by
  have h1 : IntKind.i64.min = -9223372036854775808 := rfl
  have h2 : IntKind.i64.max = 9223372036854775807 := rfl
  simp only [Lit.wf, Bool.and_eq_true, decide_eq_true_eq] at h
  omega

/-- A row of bytes that came in. -/
def ArgB (w : World) (v : Value) (xs : List Int) : Prop := Bts (· < w.heap.size) w v xs ∧ Bytes xs ∧ xs.length ≤ maxLen

theorem bytes_cells {H : Type} {enc : TypeId × Value → H} {W : World} {fuel : Nat} {cs : List Value} {x : DataW H × List MemPlace}
    (h : DataW.trod enc Tryd.prog W 0 (fun _ => true) true fuel 33 cs = some x) : ∃ v xs, cs = [v] ∧ ArgB W v xs := by
  rcases open_ints Tryd.underlying33 Tryd.underlying5 Tryd.cells5 h with ⟨rfl, _⟩ | ⟨a, len, cap, zs, rfl, _, hl, hm, hz, _, hcell, hwz⟩
  · exact ⟨_, [], rfl, ⟨none, 0, rfl, by simp, .inl rfl⟩, by intro n hn; simp at hn, by simp⟩
  · simp only [if_true] at hz
    have e1 : (zs.take len).length = len := by rw [List.length_take]; omega
    refine ⟨_, zs.take len, rfl, ⟨some a, cap, by rw [List.length_map, e1], by rw [List.length_map, e1]; exact hl, ?_⟩, fun n hn => wf_u8 (hwz n (List.mem_of_mem_take hn)), by omega⟩
    by_cases h0 : len = 0
    · left; subst h0; rfl
    · obtain ⟨b, off, spot⟩ := a
      have hspot : spot = none := by simpa [Addr.add] using World.cell?_spot (hcell 0 (by omega))
      subst hspot
      have hlt : b < W.heap.size := by
        have := World.block_lt_of_cell? _ _ (hcell 0 (by omega))
        simpa [Addr.add] using this
      refine .inr ⟨b, off, rfl, hlt, fun j u hu => ?_⟩
      rw [List.getElem?_map] at hu
      by_cases hj : j < len
      · have := hcell j (by omega)
        rw [add_plain] at this
        rw [this, ← hu, List.getElem?_take, if_pos hj, List.getD]
        cases hq : zs[j]? with
        | none => rw [List.getElem?_eq_none_iff] at hq; omega
        | some q => rfl
      · rw [List.getElem?_eq_none (by rw [e1]; omega)] at hu
        cases hu

/-- An argument of type []byte. -/
theorem open_bts {H : Type} {enc : TypeId × Value → H} {W : World} {base : Nat} {v : Value} {d : DataW H} {ps : List MemPlace} (hok : Value.okWide Tryd.prog W .any base 33 v)
    (h : DataW.Trod enc Tryd.prog W 0 (fun _ => true) true 33 v d ps) : ∃ xs, ArgB W v xs := by
  obtain ⟨a0, len, cap, rfl⟩ := okWide_slice Tryd.underlying33 hok
  obtain ⟨fuel, hf⟩ := h
  obtain ⟨v', xs, hv, hx⟩ := bytes_cells hf
  simp [Value.cells] at hv
  subst hv
  exact ⟨xs, hx⟩

/-- The slice value v has len things to do. -/
def Dos (w : World) (v : Value) (len : Nat) : Prop :=
  ∃ a c, v = .slice a len c ∧ len ≤ maxLen ∧ (len = 0 ∨ ∃ b off, a = some ⟨b, off, none⟩ ∧ ∀ i, i < len → ∃ (k f : Int) (bv : Value) (bs : List Int), (Lit.int .i64 k).wf = true ∧ (Lit.int .i64 f).wf = true ∧ ArgB w bv bs ∧
    w.cell? ⟨b, off + i * 3, none⟩ = some (.int .i64 k) ∧ w.cell? ⟨b, off + i * 3 + 1, none⟩ = some (.int .i64 f) ∧ w.cell? ⟨b, off + i * 3 + 2, none⟩ = some bv)

/-- Something to do, read in a later world. -/
theorem Dos.at_ {w w' : World} {v : Value} {len k : Nat} (h : Dos w v len) (hk : k < len) (hb : Below w.heap.size w w') :
    ∃ b off c, v = .slice (some ⟨b, off, none⟩) len c ∧ ∃ (q f : Int) (ba : Option Addr) (bc : Nat) (bs : List Int), (Lit.int .i64 q).wf = true ∧ (Lit.int .i64 f).wf = true ∧ Bts (· < w.heap.size) w' (.slice ba bs.length bc) bs ∧ Bytes bs ∧ bs.length ≤ maxLen ∧
      w'.cell? ⟨b, off + k * 3, none⟩ = some (.int .i64 q) ∧ w'.cell? ⟨b, off + k * 3 + 1, none⟩ = some (.int .i64 f) ∧ w'.cell? ⟨b, off + k * 3 + 2, none⟩ = some (.slice ba bs.length bc) := by
  obtain ⟨a, c, rfl, _, h⟩ := h
  obtain ⟨b, off, rfl, h'⟩ := h.resolve_left (by omega)
  obtain ⟨q, f, bv, bs, w1, w2, hbv, c1, c2, c3⟩ := h' k hk
  obtain ⟨ba, bc, rfl, _⟩ := hbv.1.form
  have hl : b < w.heap.size := World.block_lt_of_cell? _ _ c1
  exact ⟨b, off, c, rfl, q, f, ba, bc, bs, w1, w2, hbv.1.only (Only.of_below (F := fun _ => False) hb) (fun _ _ h => h), hbv.2.1, hbv.2.2, (hb.cell (p := ⟨b, _, none⟩) hl).trans c1, (hb.cell (p := ⟨b, _, none⟩) hl).trans c2, (hb.cell (p := ⟨b, _, none⟩) hl).trans c3⟩

theorem int_field {H : Type} {enc : TypeId × Value → H} {W : World} {fuel : Nat} {cs : List Value} {x : DataW H × List MemPlace} {j : Nat} (hl : j < cs.length)
    (h : DataW.trod enc Tryd.prog W 0 (fun _ => true) true fuel 3 ((cs.drop j).take (Tryd.prog.cellsOf 3)) = some x) : ∃ n : Int, cs[j]? = some (.int .i64 n) ∧ (Lit.int .i64 n).wf = true := by
  obtain ⟨n, hn, _, hw⟩ := DataW.trod_int Tryd.underlying3 h
  rw [Tryd.cells3, List.drop_eq_getElem_cons hl] at hn
  have hn : cs[j] = .int .i64 n := (List.cons.inj hn).1
  exact ⟨n, by rw [List.getElem?_eq_getElem hl, hn], hw⟩
theorem bytes_field {H : Type} {enc : TypeId × Value → H} {W : World} {fuel : Nat} {cs : List Value} {x : DataW H × List MemPlace} {j : Nat} (hl : j < cs.length)
    (h : DataW.trod enc Tryd.prog W 0 (fun _ => true) true fuel 33 ((cs.drop j).take (Tryd.prog.cellsOf 33)) = some x) : ∃ v xs, cs[j]? = some v ∧ ArgB W v xs := by
  obtain ⟨v, xs, hv, hx⟩ := bytes_cells h
  rw [Tryd.cells33, List.drop_eq_getElem_cons hl] at hv
  have hv : cs[j] = v := (List.cons.inj hv).1
  exact ⟨v, xs, by rw [List.getElem?_eq_getElem hl, hv], hx⟩

theorem open_dos {H : Type} {enc : TypeId × Value → H} {W : World} {base : Nat} {v : Value} {d : DataW H} {ps : List MemPlace} (hok : Value.okWide Tryd.prog W .any base 22 v)
    (h : DataW.Trod enc Tryd.prog W 0 (fun _ => true) true 22 v d ps) : ∃ n, Dos W v n := by
  obtain ⟨a0, len, cap, rfl⟩ := okWide_slice Tryd.underlying22 hok
  obtain ⟨fuel, hf⟩ := h
  rcases Deep.open_slice Tryd.underlying22 hf with ⟨hcs, _⟩ | ⟨a, len', cap', m, n, D, Pl, hcs, _, hl, hm, hmm, _, hi⟩
  · simp [Value.cells] at hcs
    obtain ⟨rfl, rfl, rfl⟩ := hcs
    exact ⟨0, none, 0, rfl, Nat.zero_le _, .inl rfl⟩
  · simp [Value.cells] at hcs
    obtain ⟨rfl, rfl, rfl⟩ := hcs
    simp only [if_true] at hmm
    subst hmm
    have all : ∀ i, i < len → ∃ (k f : Int) (bv : Value) (bs : List Int), (Lit.int .i64 k).wf = true ∧ (Lit.int .i64 f).wf = true ∧ ArgB W bv bs ∧
        W.cell? (a.add (i * 3)) = some (.int .i64 k) ∧ W.cell? (a.add (i * 3 + 1)) = some (.int .i64 f) ∧ W.cell? (a.add (i * 3 + 2)) = some bv := fun i hlt => by
      obtain ⟨cs', hc, ht⟩ := hi i (by omega)
      rw [Tryd.cells35] at hc
      obtain ⟨_, hcl, hat⟩ := World.cells?_some hc
      obtain ⟨xs, n', _, _, _, hxl, hfs⟩ := DataW.trod_struct Tryd.underlying35 ht
      have hxl3 : xs.length = 3 := hxl
      have g0 := hfs 0 _ rfl
      have g1 := hfs 1 _ rfl
      have g2 := hfs 2 _ rfl
      rw [List.getElem?_eq_getElem (by omega)] at g0 g1 g2
      obtain ⟨k, k1, k2⟩ := int_field (j := 0) (by omega) g0
      obtain ⟨f, f1, f2⟩ := int_field (j := 1) (by omega) g1
      obtain ⟨bv, bs, n1, n2⟩ := bytes_field (j := 2) (by omega) g2
      have c0 := hat 0 (by omega)
      have c1 := hat 1 (by omega)
      have c2 := hat 2 (by omega)
      rw [Deep.add_add] at c0 c1 c2
      exact ⟨k, f, bv, bs, k2, f2, n2, c0.trans k1, c1.trans f1, c2.trans n1⟩
    refine ⟨len, some a, _, rfl, by omega, ?_⟩
    by_cases h0 : len = 0
    · exact .inl h0
    · obtain ⟨b, off, spot⟩ := a
      obtain ⟨_, _, _, _, _, _, _, c0, _⟩ := all 0 (by omega)
      have hspot : spot = none := by simpa [Addr.add] using World.cell?_spot c0
      subst hspot
      refine .inr ⟨b, off, rfl, fun i hi => ?_⟩
      have := all i hi
      simp only [add_plain] at this
      exact this
end Go.Proofs.YtkjpemgoiobeeaaDoor
