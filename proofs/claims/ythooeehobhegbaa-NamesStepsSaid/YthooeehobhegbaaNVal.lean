/- slices.Values, and slices.AppendSeq, Collect, Sorted over it: a sorted copy of a row of numbers. No condition but those that each statement names. -/
import Derived.Test.YthooeehobhegbaaNBase
import Derived.Test.YthooeehobhegbaaNSrt
namespace Go.Proofs.Ythooeehobhegbaa
set_option maxRecDepth 1000000
open Go.ChangeShapes Go.WideShapes Go.ChangeAt Go.RowKit Go.Sort Go.Shelf

theorem ints_form {N : Nat → Prop} {w : World} {v : Value} {xs : List Int} (h : Ints N w v xs) : ∃ a c, v = .slice a xs.length c ∧ xs.length ≤ c ∧ ∀ k, k < xs.length → ∃ b off, a = some ⟨b, off, none⟩ ∧ w.cell? ⟨b, off + k, none⟩ = some (.int .i64 (xs.getD k 0)) := by
  obtain ⟨a, c, rfl, hc, h⟩ := h
  rw [List.length_map] at hc ⊢
  refine ⟨a, c, rfl, hc, fun k hk => ?_⟩
  rcases h with h | ⟨b, off, rfl, _, h⟩
  · rw [List.map_eq_nil_iff] at h; subst h; simp at hk
  · exact ⟨b, off, rfl, h k _ (by simp [List.getElem?_eq_getElem hk, List.getD])⟩
theorem take_next {xs : List Int} {k : Nat} (h : k < xs.length) : xs.take k ++ [xs.getD k 0] = xs.take (k + 1) := by
  rw [List.take_succ_eq_append_getElem h, List.getD, List.getElem?_eq_getElem h]; rfl

/-- An iterator that gives xs, one behind the other, to whoever leaves what was there at w as it was. -/
def GivesB (n g : Nat) (lb : Array Value) (xs : List Int) (w : World) : Prop :=
  ∀ (l : Nat) (J : List Int → World → Prop) (W : World), Below w.heap.size w W → (∀ pre W1, J pre W1 → Below w.heap.size w W1) →
    (∀ pre x W1, J pre W1 → pre.length < xs.length → YieldAt Fence.wide (n - 1) Try.prog l #[encZ x] W1 fun e W' => e = .returned (.bool true) ∧ J (pre ++ [x]) W' ∧ KeepsWalks W1 W') →
    J [] W → CallsIn Fence.wide n Try.prog g (#[.func (.yield l) #[] #[]] ++ lb) W fun e W' => (∃ v, e = .returned v) ∧ J xs W'

set_option maxHeartbeats 2000000 in
/-- The iterator of slices.Values, over a slice that lies in the box Bs. -/
theorem values1_gives (n : Nat) (hn : 1 ≤ n) {N : Nat → Prop} (Bs : Nat) (v : Value) (xs : List Int) (w : World) (hBs : w.cell? ⟨Bs, 0, none⟩ = some v) (hv : Ints N w v xs) (hl : xs.length ≤ 4000000000000) :
    GivesB n 34 #[.pointer (some ⟨Bs, 0, none⟩)] xs w := by
  intro l J W hW hB hY h0
  obtain ⟨a, c, rfl, hc, hcell⟩ := ints_form hv
  have HC : Hid (∀ wr, Below w.heap.size w wr → ∀ k, k < xs.length → ∃ b off, a = some ⟨b, off, none⟩ ∧ wr.cell? ⟨b, off + k, none⟩ = some (.int .i64 (xs.getD k 0))) := Lib.hid (fun wr hb k hk => by
    obtain ⟨b, off, h1, h2⟩ := hcell k hk
    exact ⟨b, off, h1, (hb.cell (p := ⟨b, off + k, none⟩) (World.block_lt_of_cell? _ _ h2)).trans h2⟩)
  have hb1 : W.cell? ⟨Bs, 0, none⟩ = some (.slice a xs.length c) := (hW.cell (p := ⟨Bs, 0, none⟩) (World.block_lt_of_cell? _ _ hBs)).trans hBs
  have HJ := Lib.hid hB
  have HY := Lib.hid hY
  have H0 := Lib.hid h0
  clear hv hcell hBs hB hY h0
  refine callsIn_of_wp Try.func34 rfl trivial ?_ rfl
  simp only [Try.ntmps34, List.size_toArray, List.length_cons, List.length_nil, Nat.reduceAdd, Nat.reduceSub, Array.replicate_succ, Array.replicate_zero, List.push_toArray, List.append_toArray, List.nil_append, List.cons_append]
  gi_wp2
  gi_loopw [7] (fun s7 wr => ∃ k : Nat, k ≤ xs.length ∧ s7 = .int .i64 k ∧ Hid (J (xs.take k) wr)) (fun s7 _ => xs.length - (intOf s7).toNat)
  case atStart => exact ⟨0, Nat.zero_le _, rfl, by simpa using H0⟩
  case round =>
    obtain ⟨k, hk, rfl, hJ⟩ := hrel
    by_cases hlt : k < xs.length
    · obtain ⟨b, off, rfl, c1⟩ := HC.out wr (HJ.out _ _ hJ.out) k hlt
      obtain ⟨fn, tmps, assign, body, hy, hR⟩ := HY.out _ (xs.getD k 0) wr hJ.out (by rw [List.length_take]; omega)
      have HT : Hid (xs.take k ++ [xs.getD k 0] = xs.take (k + 1)) := take_next hlt
      obtain ⟨x, hx⟩ : ∃ x, xs.getD k 0 = x := ⟨_, rfl⟩
      rw [hx] at c1 hy hR HT
      unfold encZ at hy
      clear hx
      have hlt' : (k : Int) < xs.length := by omega
      gi_wp2
      refine hR.mono ?_
      rintro e W3 ⟨rfl, hJ3, _⟩
      have HJ3 := Lib.hid hJ3
      clear hJ3
      gi_wp2
      go_roundw
      case rel => exact ⟨k + 1, by omega, by go_num, by have := HJ3.out; rw [HT.out] at this; exact Lib.hid this⟩
      case measure => simp [intOf]; omega
    · obtain rfl : k = xs.length := by omega
      gi_wp2
      go_end0
      exact ⟨⟨_, rfl⟩, by have := hJ.out; rwa [List.take_length] at this⟩
end Go.Proofs.Ythooeehobhegbaa
