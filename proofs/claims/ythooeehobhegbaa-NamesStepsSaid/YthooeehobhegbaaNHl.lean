/- What the laws of layer 8 share: two rows compared, all slots taken away together. No condition but those that each statement names. -/
import Derived.Test.YthooeehobhegbaaNLw
namespace Go.Proofs.Ythooeehobhegbaa
set_option maxRecDepth 1000000
open Go.ChangeShapes Go.WideShapes Go.ChangeAt Go.RowKit

set_option maxHeartbeats 1000000 in
/-- Two slices that read alike. -/
theorem sameInts_eq {N M : Nat → Prop} (v1 v2 : Value) (l : List Int) (w : World) (h1 : Ints N w v1 l) (h2 : Ints M w v2 l) (hl : l.length ≤ 3000000000000) :
    Calls Try.prog 20 #[v1, v2] w fun e w' => e = .returned (.bool true) ∧ ∃ d, w' = w.drewN d := by
  obtain ⟨a1, c1, rfl, _, h1⟩ := ints_form h1
  obtain ⟨a2, c2, rfl, _, h2⟩ := ints_form h2
  have H1 := Lib.hid h1
  have H2 := Lib.hid h2
  clear h1 h2
  go_enter Try.func20, Try.ntmps20
  go_wp2
  go_loopw [5] (fun s5 wx => ∃ k d : Nat, k ≤ l.length ∧ s5 = .int .i64 k ∧ wx = w.drewN d) (fun i _ => l.length - (intOf i).toNat)
  case atStart => exact ⟨0, 0, Nat.zero_le _, rfl, rfl⟩
  case round =>
    obtain ⟨k, d, hk, rfl, hw⟩ := hrel
    by_cases hlt : k < l.length
    · obtain ⟨b1, o1, rfl, q1⟩ := H1.out k hlt
      obtain ⟨b2, o2, rfl, q2⟩ := H2.out k hlt
      have r1 : wr.cell? ⟨b1, o1 + k, none⟩ = some (.int .i64 (l.getD k 0)) := by rw [hw]; exact q1
      have r2 : wr.cell? ⟨b2, o2 + k, none⟩ = some (.int .i64 (l.getD k 0)) := by rw [hw]; exact q2
      have hlt' : (k : Int) < l.length := by omega
      have HW := Lib.hid hw
      clear hw q1 q2
      generalize l.getD k 0 = z at r1 r2
      go_wp2
      go_quiet (fail)
      go_wp2
      go_roundw
      case rel => exact ⟨k + 1, d + nq, by omega, by go_num, by rw [HW.out, World.drewN_drewN]⟩
      case measure => simp [intOf]; omega
    · have HW := Lib.hid hw
      clear hw
      go_wp2
      go_ret
      exact ⟨rfl, d, HW.out⟩
/-- Numbers of slots. -/
def intsN (l : List Nat) : List Int := l.map fun (k : Nat) => (k : Int)
theorem intsN_len (l : List Nat) : (intsN l).length = l.length := List.length_map _
/-- A row of one's own numbers, as numbers. -/
theorem own_ints {w : World} {base : Nat} {u : Value} {l : List Nat} (h : w.ownsRow base 3 1 u l.length (valsN l)) : Ints (base ≤ ·) w u (intsN l) := by
  have e : (intsN l).map (Value.int .i64) = valsN l := by rw [intsN, List.map_map]; rfl
  show Vals _ _ _ _
  rw [e]
  have hl : l.length = (valsN l).length := (valsN_len l).symm
  rw [hl] at h
  exact Vals.of_own h
theorem mem_intsN {l : List Nat} {x : Int} : x ∈ intsN l ↔ ∃ k : Nat, k ∈ l ∧ (k : Int) = x := by simp [intsN]
theorem intsN_nodup {l : List Nat} (h : l.Nodup) : (intsN l).Nodup := by
  unfold intsN List.Nodup
  rw [List.pairwise_map]
  exact List.Pairwise.imp (fun hab he => hab (by omega)) h
section
variable {n : Nat} {I : Nat → Int}
theorem all_bound : ∀ x ∈ intsN (slotsN I n), idOf n I x ≠ 0 := fun x hx => by
  obtain ⟨k, hk, rfl⟩ := mem_intsN.1 hx
  obtain ⟨h1, h2, h3⟩ := mem_slotsN.1 hk
  have e : (k : Int) = ((k - 1 : Nat) : Int) + 1 := by omega
  rw [e, idOf_at (by omega)]
  exact h3
theorem free_all_is : FreeIs n I (intsN (slotsN I n)) 0 (clr I (intsN (slotsN I n))) := .inl ⟨all_bound, intsN_nodup (slotsN_nodup I n), rfl, rfl⟩
theorem clr_all {i : Nat} (hi : i < n) : clr I (intsN (slotsN I n)) i = 0 := by
  unfold clr
  split
  · rfl
  · rename_i h
    refine Classical.byContradiction fun h0 => h (mem_intsN.2 ⟨i + 1, mem_slotsN.2 ⟨by omega, by omega, by simpa using h0⟩, by omega⟩)
theorem slots_clr : slotsN (clr I (intsN (slotsN I n))) n = [] := by
  rw [slotsN_congr (J := fun _ => 0) fun i hi => by rw [clr_all hi]]
  induction n with
  | zero => rfl
  | succ n ih => simp only [slotsN, ih]; rfl
end
/-- Slots, of a table of the law's own: a new row, and the table as it was. -/
theorem slots_b {W0 w1 : World} {c : Tb} {n : Nat} {I : Nat → Int} (h : TabB W0 w1 c n I) : Calls Try.prog 21 #[.pointer (some ⟨c.t, 0, none⟩)] w1 fun e w2 => ∃ a cap, e = .returned (.slice a (slotsN I n).length cap) ∧ Ints (w1.heap.size ≤ ·) w2 (.slice a (slotsN I n).length cap) (intsN (slotsN I n)) ∧ TabB W0 w2 c n I ∧ Below w1.heap.size w1 w2 :=
  (slots_at h.is).mono fun _ _ ⟨a, cap, he, own, b⟩ => ⟨a, cap, he, own_ints own, h.fresh b, b⟩
end Go.Proofs.Ythooeehobhegbaa
