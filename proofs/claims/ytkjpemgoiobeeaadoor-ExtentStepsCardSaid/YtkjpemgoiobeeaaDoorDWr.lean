/- What Write and Clear of package disk do. No condition but those that each statement names. -/
import Derived.Test.YtkjpemgoiobeeaaDoorDOps
namespace Go.Proofs.YtkjpemgoiobeeaaDoor
set_option maxRecDepth 1000000
open Go.ChangeShapes Go.WideShapes Go.ChangeAt Go.RowKit

/-- Bytes laid over a disk's, from place o on. -/
def over (D : Nat → Int) (o : Nat) (bs : List Int) : Nat → Int := fun j => if o ≤ j ∧ j < o + bs.length then bs.getD (j - o) 0 else D j
theorem over_put (D : Nat → Int) (i : Nat) (bs : List Int) (h : bs.length ≤ 64) : over (over D (64 * i) bs) (64 * i + bs.length) (List.replicate (64 - bs.length) 0) = put D i bs := by
  funext j
  simp only [over, put, List.length_replicate]
  by_cases h1 : 64 * i ≤ j ∧ j < 64 * i + 64
  · rw [if_pos h1]
    by_cases h2 : 64 * i + bs.length ≤ j
    · rw [if_pos (by omega)]
      simp only [List.getD, List.getElem?_replicate]
      rw [if_pos (by omega), List.getElem?_eq_none (by omega)]
      rfl
    · rw [if_neg (by omega), if_pos (by omega)]
  · rw [if_neg h1, if_neg (by omega), if_neg (by omega)]
theorem over_bytes {D : Nat → Int} (hD : ∀ j, 0 ≤ D j ∧ D j ≤ 255) (o : Nat) {bs : List Int} (hb : Bytes bs) : ∀ j, 0 ≤ over D o bs j ∧ over D o bs j ≤ 255 := by
  intro j
  simp only [over]
  split
  · rw [List.getD]
    cases h : bs[j - o]? with
    | none => simp
    | some n => exact hb n (List.mem_of_getElem? h)
  · exact hD j
theorem size_setCells (b : Nat) : ∀ (vs : List Value) (o : Nat) (w : World), (w.setCells b o vs).heap.size = w.heap.size
  | [], _, _ => rfl
  | v :: r, o, w => by rw [World.setCells, size_setCells b r]; simp [World.setCell]
theorem DiskAt.over {w : World} {m x n r c : Nat} {D : Nat → Int} (h : DiskAt w m x n r c D) (o : Nat) (bs : List Int) (hb : Bytes bs) (ho : o + bs.length ≤ 64 * n) :
    DiskAt (w.setCells x o (bs.map (Value.int .u8))) m x n r c (over D o bs) := by
  have ha := h.apart
  refine ⟨?_, ?_, ?_, fun j hj => ?_, fun j => ?_, fun j => ?_, h.apart, h.small, over_bytes h.rng o hb, by rw [size_setCells]; exact h.mlt, by rw [size_setCells]; exact h.xlt⟩
  · rw [World.cell?_setCells_out _ _ _ _ _ (fun e => absurd e ha)]; exact h.reads
  · rw [World.cell?_setCells_out _ _ _ _ _ (fun e => absurd e ha)]; exact h.writes
  · rw [World.cell?_setCells_out _ _ _ _ _ (fun e => absurd e ha)]; exact h.row
  · by_cases h1 : o ≤ j ∧ j < o + bs.length
    · obtain ⟨k, rfl⟩ : ∃ k, j = o + k := ⟨j - o, by omega⟩
      rw [World.cell?_setCells_in x _ o w (fun k hk => by rw [List.length_map] at hk; rw [h.byte _ (by omega)]; rfl) k (by rw [List.length_map]; omega)]
      simp only [YtkjpemgoiobeeaaDoor.over]
      rw [if_pos h1, List.getElem_map, show o + k - o = k by omega, List.getD, List.getElem?_eq_getElem (by omega)]
      rfl
    · rw [World.cell?_setCells_out _ _ _ _ _ (fun _ _ => by show j < o ∨ _ ≤ j; rw [List.length_map]; omega), h.byte j hj]
      simp only [YtkjpemgoiobeeaaDoor.over]
      rw [if_neg h1]
  · rw [World.frozen?_setCells]; exact h.thaw j
  · rw [World.frozen?_setCells]; exact h.thaw' j

theorem zero5 : ∀ w, (zeroValue 5).run Tryd.prog w = .ok (.int .u8 0) w := fun w => by
  obtain ⟨i0, hi, hz0, hz1, hz2⟩ := info_parts Tryd.info5
  simp [zeroValue, typeInfo, hi, hz0]
theorem clear_run {w : World} {m x n r c : Nat} {D : Nat → Int} (h : DiskAt w m x n r c D) (a : Option Addr) (o k cp : Nat) (ho : o + k ≤ 64 * n) (ha : 0 < k → a = some ⟨x, o, none⟩) (ty : TypeId) :
    (Builtin.clear_ #[33] ty #[.slice a k cp]).run Tryd.prog w = .ok (.tuple #[]) (w.setCells x o ((List.replicate k 0).map (Value.int .u8))) := by
  rw [List.map_replicate]
  rcases Nat.eq_zero_or_pos k with rfl | hk
  · cases a <;> simp [Builtin.clear_, run_underlying Tryd.underlying33, World.setCells]
  · rw [ha hk]
    exact Lib.run_clear_slice w 33 5 ty (.int .u8 0) Tryd.underlying33 zero5 rfl rfl x o k cp hk (fun j hj => by rw [h.byte _ (by omega)]; rfl) (fun j _ => h.thaw _)
theorem copy_run {N : Nat → Prop} {w : World} {m x n r c : Nat} {D : Nat → Int} (h : DiskAt w m x n r c D) (i : Nat) (hi : i < n) (v : Value) (bs : List Int) (hv : Bts N w v bs) (hl : bs.length ≤ 64) (ty : TypeId) :
    (Builtin.copy_ #[33, 33] ty #[.slice (some ⟨x, 64 * i, none⟩) 64 64, v]).run Tryd.prog w = .ok (.int .i64 bs.length) (w.setCells x (64 * i) (bs.map (Value.int .u8))) := by
  have hs : (Tryd.prog.info? 5).map (·.size) = some 1 := by
    obtain ⟨i0, hi, hz0, hz1, hz2⟩ := info_parts Tryd.info5
    simp [hi, hz1]
  obtain ⟨a, cp, rfl, _, h'⟩ := hv
  rw [List.length_map]
  rcases h' with h' | ⟨b, off, rfl, _, h'⟩
  · obtain rfl : bs = [] := List.map_eq_nil_iff.1 h'
    exact run_copy_none w 33 33 ty 5 _ a 64 64 0 cp Tryd.underlying33 hs (by simp)
  · have := run_copy_cells (P := Tryd.prog) w 33 33 ty 5 x (64 * i) 64 64 ⟨b, off, none⟩ bs.length cp (bs.map (Value.int .u8)) Tryd.underlying33 hs (by rw [List.length_map]; exact (Nat.min_eq_left hl).symm)
      (fun j u hu => by rw [add_plain]; exact h' j u hu) (fun j hj => by rw [List.length_map] at hj; rw [h.byte _ (by omega)]; rfl) (fun j _ => h.thaw _)
      (fun u hu => by obtain ⟨q, _, rfl⟩ := List.mem_map.1 hu; rfl)
    rw [List.length_map] at this
    exact this

theorem write_none (m x n r c : Nat) (D : Nat → Int) (i : Int) (v : Value) (w : World) (h : DiskAt w m x n r c D) (hi : ¬ (0 ≤ i ∧ i < n)) :
    Calls Tryd.prog 43 #[.pointer (some ⟨m, 0, none⟩), .int .i64 i, v] w fun e w' => e = .returned (.int .i64 4) ∧ Below w.heap.size w w' := by
  have hc := check_one m x n r c D i w h
  rw [chk_no (by rw [inB_one]; simpa using hi)] at hc
  have HC := Lib.hid hc
  clear hc h hi
  go_enter Tryd.func43, Tryd.ntmps43
  go_wp2_with (go_at_call 45; refine HC.out.mono ?_; rintro e w' ⟨rfl, _, hb⟩)
  go_ret
  exact ⟨rfl, hb⟩
theorem write_long {N : Nat → Prop} (m x n r c : Nat) (D : Nat → Int) (i : Nat) (v : Value) (bs : List Int) (w : World) (h : DiskAt w m x n r c D) (hi : i < n) (hv : Bts N w v bs) (hl : 64 < bs.length) (hl2 : bs.length ≤ 9223372036854775807) :
    Calls Tryd.prog 43 #[.pointer (some ⟨m, 0, none⟩), .int .i64 i, v] w fun e w' => e = .returned (.int .i64 2) ∧ Below w.heap.size w w' := by
  have hc := check_one m x n r c D i w h
  rw [chk_yes (by rw [inB_one]; simpa using hi)] at hc
  have HC := Lib.hid hc
  obtain ⟨a, cp, rfl, _⟩ := hv.form
  have hl' : (64 : Int) < bs.length := by omega
  clear hc h hi hv
  go_enter Tryd.func43, Tryd.ntmps43
  go_wp2_with (go_at_call 45; refine HC.out.mono ?_; rintro e w' ⟨rfl, _, hb⟩)
  go_ret
  exact ⟨rfl, hb⟩

/-- What a write that may be leaves. -/
def WritePost (m x n r c : Nat) (D : Nat → Int) (i : Nat) (bs : List Int) (w : World) (e : Ending) (w' : World) : Prop :=
  e = .returned (.int .i64 0) ∧ DiskAt w' m x n r (c + 1) (put D i bs) ∧ Only (dk m x) w w'

set_option maxHeartbeats 1000000 in
theorem write_yes {N : Nat → Prop} (m x n r c : Nat) (D : Nat → Int) (i : Nat) (v : Value) (bs : List Int) (w : World) (h : DiskAt w m x n r c D) (hi : i < n) (hc : c ≤ 4000000000000000000) (hv : Bts N w v bs) (hy : Bytes bs) (hl : bs.length ≤ 64) :
    Calls Tryd.prog 43 #[.pointer (some ⟨m, 0, none⟩), .int .i64 i, v] w (WritePost m x n r c D i bs w) := by
  have hc1 := check_one m x n r c D i w h
  rw [chk_yes (by rw [inB_one]; simpa using hi)] at hc1
  have HC := Lib.hid hc1
  have HV := Lib.hid hv
  obtain ⟨a, cp, rfl, _⟩ := hv.form
  have hl' : ¬ (64 : Int) < bs.length := by omega
  clear hc1 h hv
  go_enter Tryd.func43, Tryd.ntmps43
  go_wp2_with fail
  refine HC.out.mono ?_
  rintro e w1 ⟨rfl, h1, hb1⟩
  have hv1 := HV.out.only (Only.of_below (F := fun _ => False) hb1) (fun _ _ h => h)
  have hcp := copy_run h1 i hi _ bs hv1 hl
  have h2 := h1.over (64 * i) bs hy (by omega)
  have o2 : Only (dk m x) w (w1.setCells x (64 * i) (bs.map (Value.int .u8))) := Only.setCells x (.inl (.inr rfl)) _ _ _ (Only.of_below hb1)
  generalize w1.setCells x (64 * i) (bs.map (Value.int .u8)) = w2 at hcp h2 o2
  have h3 := h2.over (64 * i + bs.length) (List.replicate (64 - bs.length) 0) (zeros_bytes _) (by rw [List.length_replicate]; omega)
  rw [over_put D i bs hl] at h3
  have o3 : Only (dk m x) w (w2.setCells x (64 * i + bs.length) ((List.replicate (64 - bs.length) 0).map (Value.int .u8))) := Only.setCells x (.inl (.inr rfl)) _ _ _ o2
  have hcl := fun a cp ha => clear_run h2 a (64 * i + bs.length) (64 - bs.length) cp (by omega) ha
  generalize w2.setCells x (64 * i + bs.length) ((List.replicate (64 - bs.length) 0).map (Value.int .u8)) = w3 at hcl h3 o3
  have H4 := Lib.hid h3.write1
  have O4 : Hid (Only (dk m x) w (w3.setCell ⟨m, 1, none⟩ (.int .i64 ((c : Int) + 1)))) := o3.setCell ⟨m, 1, none⟩ (.inl (.inl rfl)) _
  have hrd := h3.writes
  have hth := h3.thaw' 1
  have HS := Lib.hid (sector_any m x n r c D i w1 h1 hi)
  clear h1 hb1 HC HV hv1 h2 o2 o3 h3
  go_wp2_with fail
  refine HS.out.mono ?_
  rintro e w' ⟨rfl, rfl⟩
  by_cases h64 : bs.length = 64
  · have hcl := hcl (some ⟨x, 64 * i, none⟩) 0 (by omega)
    rw [h64] at hcp hcl
    go_wp2_with fail
    go_ret
    exact ⟨rfl, H4.out, O4.out⟩
  · have hcl := hcl (some ⟨x, 64 * i + bs.length, none⟩) (64 - bs.length) (fun _ => rfl)
    have h65 : ¬ 64 = bs.length := fun e => h64 e.symm
    have h66 : ((bs.length : Nat) : Int) ≤ 64 := by omega
    go_wp2_with fail
    go_ret
    exact ⟨rfl, H4.out, O4.out⟩
end Go.Proofs.YtkjpemgoiobeeaaDoor
