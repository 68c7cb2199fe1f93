/- How an argument of a law of layer 13 is read: bytes, rows of bytes, a text; and what the laws' own calls answer, both sides alike. -/
import Derived.Test.YtbfacdfmanffdaaGreatDoorGRd
import Derived.Deep.Slices
import Derived.Deep.Fields
import Derived.SizedLaws
namespace Go.Proofs.YtbfacdfmanffdaaGreatDoor
set_option maxRecDepth 1000000
open Go.ChangeShapes Go.WideShapes Go.ChangeAt Go.RowKit

theorem Tryz.laidOut : laidOutB Tryz.prog = true := by kernel_rfl
theorem Tryz.own : ownKnob Tryz.prog.godebug = none := by kernel_rfl
theorem Tryz.cells5 : Tryz.prog.cellsOf 5 = 1 := by kernel_rfl
theorem Tryz.cells3 : Tryz.prog.cellsOf 3 = 1 := by kernel_rfl
theorem Tryz.cells22 : Tryz.prog.cellsOf 22 = 1 := by kernel_rfl

theorem wf_u8 {n : Int} (h : (Lit.int .u8 n).wf = true) : 0 ≤ n ∧ n ≤ 255 := by
  have h1 : IntKind.u8.min = 0 := rfl
  have h2 : IntKind.u8.max = 255 := rfl
  simp only [Lit.wf, Bool.and_eq_true, decide_eq_true_eq] at h
  omega
theorem wf_i64 {n : Int} (h : (Lit.int .i64 n).wf = true) : -9223372036854775808 ≤ n ∧ n ≤ 9223372036854775807 := by
  have h1 : IntKind.i64.min = -9223372036854775808 := rfl
  have h2 : IntKind.i64.max = 9223372036854775807 := rfl
  simp only [Lit.wf, Bool.and_eq_true, decide_eq_true_eq] at h
  omega

/-- A row of bytes that came in. -/
def ArgB (w : World) (v : Value) (xs : List Int) : Prop := Bts (· < w.heap.size) w v xs ∧ Bytes xs ∧ xs.length ≤ maxLen

theorem bytes_cells {H : Type} {enc : TypeId × Value → H} {W : World} {fuel : Nat} {cs : List Value} {x : DataW H × List MemPlace}
    (h : DataW.trod enc Tryz.prog W 0 (fun _ => true) true fuel 22 cs = some x) : ∃ v xs, cs = [v] ∧ ArgB W v xs := by
  rcases open_ints Tryz.underlying22 Tryz.underlying5 Tryz.cells5 h with ⟨rfl, _⟩ | ⟨a, len, cap, zs, rfl, _, hl, hm, hz, _, hcell, hwz⟩
  · exact ⟨_, [], rfl, ⟨none, 0, rfl, by simp, .inl rfl⟩, by intro n hn; simp at hn, by simp⟩
  · simp only [if_true] at hz
    have e1 : (zs.take len).length = len := by rw [List.length_take]; omega
    refine ⟨_, zs.take len, rfl, ⟨some a, cap, by rw [List.length_map, e1], by rw [List.length_map, e1]; exact hl, ?_⟩, fun n hn => wf_u8 (hwz n (List.mem_of_mem_take hn)), by omega⟩
    by_cases h0 : len = 0
    · left; subst h0; rfl
    · obtain ⟨b, off, spot⟩ := a
      have hspot : spot = none := by simpa [Addr.add] using World.cell?_spot (hcell 0 (by omega))
      subst hspot
      have hlt : b < W.heap.size := by
        have := World.block_lt_of_cell? _ _ (hcell 0 (by omega))
        simpa [Addr.add] using this
      refine .inr ⟨b, off, rfl, hlt, fun j u hu => ?_⟩
      rw [List.getElem?_map] at hu
      by_cases hj : j < len
      · have := hcell j (by omega)
        rw [add_plain] at this
        rw [this, ← hu, List.getElem?_take, if_pos hj, List.getD]
        cases hq : zs[j]? with
        | none => rw [List.getElem?_eq_none_iff] at hq; omega
        | some q => rfl
      · rw [List.getElem?_eq_none (by rw [e1]; omega)] at hu
        cases hu

/-- An argument of type []byte. -/
theorem open_bts {H : Type} {enc : TypeId × Value → H} {W : World} {base : Nat} {v : Value} {d : DataW H} {ps : List MemPlace} (hok : Value.okWide Tryz.prog W .any base 22 v)
    (h : DataW.Trod enc Tryz.prog W 0 (fun _ => true) true 22 v d ps) : ∃ xs, ArgB W v xs := by
  obtain ⟨a0, len, cap, rfl⟩ := okWide_slice Tryz.underlying22 hok
  obtain ⟨fuel, hf⟩ := h
  obtain ⟨v', xs, hv, hx⟩ := bytes_cells hf
  simp [Value.cells] at hv
  subst hv
  exact ⟨xs, hx⟩

theorem list_of {α : Type} {n : Nat} {P : Nat → α → Prop} (h : ∀ i, i < n → ∃ t, P i t) : ∃ L : List α, L.length = n ∧ ∀ i t, L[i]? = some t → P i t := by
  induction n with
  | zero => exact ⟨[], rfl, fun i t hi => by simp at hi⟩
  | succ n ih =>
    obtain ⟨L, h1, h2⟩ := ih fun i hi => h i (by omega)
    obtain ⟨t, ht⟩ := h n (by omega)
    refine ⟨L ++ [t], by simp [h1], fun i t' hi => ?_⟩
    rcases Nat.lt_or_ge i L.length with h3 | h3
    · rw [List.getElem?_append_left h3] at hi; exact h2 i t' hi
    · rw [List.getElem?_append_right h3] at hi
      by_cases h4 : i - L.length = 0
      · rw [h4] at hi; simp at hi; subst hi
        rw [show i = n by omega]; exact ht
      · rw [List.getElem?_eq_none (by simp; omega)] at hi; cases hi
/-- An argument of type [][]byte. -/
theorem open_bss {H : Type} {enc : TypeId × Value → H} {W : World} {base : Nat} {v : Value} {d : DataW H} {ps : List MemPlace} (hok : Value.okWide Tryz.prog W .any base 66 v)
    (h : DataW.Trod enc Tryz.prog W 0 (fun _ => true) true 66 v d ps) : ∃ Ls, BssAt W v Ls ∧ ∀ x ∈ Ls, Bytes x ∧ x.length ≤ maxLen := by
  obtain ⟨a0, len, cap, rfl⟩ := okWide_slice Tryz.underlying66 hok
  obtain ⟨fuel, hf⟩ := h
  rcases Deep.open_slice1 Tryz.underlying66 Tryz.cells22 hf with ⟨hcs, _⟩ | ⟨a, len', cap', m, n, V, D, Pl, hcs, _, hl, hm, hmm, _, hi⟩
  · simp [Value.cells] at hcs
    obtain ⟨rfl, rfl, rfl⟩ := hcs
    exact ⟨[], ⟨none, 0, rfl, by simp, .inl rfl⟩, fun x hx => by cases hx⟩
  · simp [Value.cells] at hcs
    obtain ⟨rfl, rfl, rfl⟩ := hcs
    simp only [if_true] at hmm
    subst hmm
    have all : ∀ i, i < len → ∃ (bs : List Int), ∃ bv : Value, ArgB W bv bs ∧ W.cell? (a.add i) = some bv := fun i hlt => by
      obtain ⟨h1, h2⟩ := hi i (by omega)
      obtain ⟨v', xs, hv, hx⟩ := bytes_cells h2
      obtain rfl : V i = v' := by simpa using hv
      exact ⟨xs, _, hx, h1⟩
    obtain ⟨L, hL, hat⟩ := list_of all
    refine ⟨L, ⟨some a, _, by rw [hL], by rw [hL]; exact hl, ?_⟩, fun x hx => ?_⟩
    · by_cases h0 : len = 0
      · exact .inl (List.eq_nil_of_length_eq_zero (by omega))
      · obtain ⟨b, off, spot⟩ := a
        obtain ⟨_, _, _, c0⟩ := all 0 (by omega)
        have hspot : spot = none := by simpa [Addr.add] using World.cell?_spot c0
        subst hspot
        refine .inr ⟨b, off, rfl, fun j xs hj => ?_⟩
        obtain ⟨bv, h1, h2⟩ := hat j xs hj
        rw [add_plain] at h2
        exact ⟨bv, h2, Bts.kind h1.1 fun _ _ _ => trivial⟩
    · obtain ⟨j, hj⟩ := List.mem_iff_getElem?.1 hx
      obtain ⟨bv, h1, _⟩ := hat j x hj
      exact h1.2
theorem str_any (s : ByteArray) : ∃ cs : List Int, s = strOfNums cs ∧ Bytes cs ∧ cs.length = s.size := by
  refine ⟨s.data.toList.map fun b => (b.toNat : Int), ?_, fun n hn => ?_, by rw [List.length_map, Array.length_toList]; rfl⟩
  · apply ByteArray.ext
    simp [strOfNums, List.map_map, Function.comp_def]
  · obtain ⟨b, _, rfl⟩ := List.mem_map.1 hn
    have := b.toNat_lt
    omega
/-- A number and an error. -/
def NumB (e0 : Int) (xs : List Int) (w : World) (e : Ending) (w' : World) : Prop := ∃ v, e = .returned (.tuple #[v, .int .i64 e0]) ∧ Bts (fun _ => True) w' v xs ∧ Below w.heap.size w w'
def DivB (A B : List Int) (w : World) (e : Ending) (w' : World) : Prop := ∃ q r, e = .returned (.tuple #[q, r, .int .i64 (divE A B)]) ∧ Bts (fun _ => True) w' q (divQ A B) ∧ Bts (fun _ => True) w' r (divR A B) ∧ Below w.heap.size w w'
def ValB (v : Value) (w : World) (e : Ending) (w' : World) : Prop := e = .returned v ∧ Below w.heap.size w w'
theorem NumPost.b {e0 : Int} {xs : List Int} {w : World} {e : Ending} {w' : World} (h : NumPost e0 xs w e w') : NumB e0 xs w e w' := by
  obtain ⟨v, h1, h2, h3⟩ := h
  exact ⟨v, h1, Bts.kind h2.bts fun _ _ _ => trivial, h3⟩
theorem DivPost.b {A B : List Int} {w : World} {e : Ending} {w' : World} (h : DivPost A B w e w') : DivB A B w e w' := by
  obtain ⟨q, r, h1, h2, h3, h4⟩ := h
  exact ⟨q, r, h1, Bts.kind h2 fun _ _ _ => trivial, Bts.kind h3 fun _ _ _ => trivial, h4⟩
def ofE (n : Int) : Int := if n < 0 then 2 else 0
def ofO (n : Int) : List Int := if n < 0 then [] else dig n.toNat
end Go.Proofs.YtbfacdfmanffdaaGreatDoor
