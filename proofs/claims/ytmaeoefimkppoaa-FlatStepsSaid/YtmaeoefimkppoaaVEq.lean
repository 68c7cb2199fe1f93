/- What the functions that compare and copy rows of numbers and bytes do: slices.Equal, slices.Clone, and the laws' own SameInts, Same and Copy. No condition but those that each statement names. -/
import Derived.Test.YtmaeoefimkppoaaVOb
import Derived.Lib.SliceRun
namespace Go.Proofs.Ytmaeoefimkppoaa.Wd
open Go.RowKit
set_option maxRecDepth 1000000

theorem below_drewN (B : Nat) (w : World) (n : Nat) : Below B w (w.drewN n) := ⟨rfl, rfl, rfl, Nat.le_refl _, fun _ _ => rfl⟩

/-- A row of bytes, of numbers, as it lies in memory: with its room. -/
def RowB (w : World) (v : Value) (xs : List Int) : Prop := Bts w v xs ∧ ByL xs ∧ ∃ a c, v = .slice a xs.length c ∧ xs.length ≤ c
def I64 (l : List Int) : Prop := ∀ n ∈ l, -9223372036854775808 ≤ n ∧ n ≤ 9223372036854775807
def RowI (w : World) (v : Value) (xs : List Int) : Prop := Ints w v xs ∧ I64 xs ∧ ∃ a c, v = .slice a xs.length c ∧ xs.length ≤ c
theorem RowB.kept {w w' : World} {v : Value} {xs : List Int} (h : RowB w v xs) (hb : Below w.heap.size w w') : RowB w' v xs := ⟨h.1.kept hb, h.2⟩
theorem RowI.kept {w w' : World} {v : Value} {xs : List Int} (h : RowI w v xs) (hb : Below w.heap.size w w') : RowI w' v xs := ⟨h.1.kept hb, h.2⟩
theorem own_ints {w : World} {base : Nat} {v : Value} {xs : List Int} (h : w.ownsRow base 3 1 v xs.length (xs.map (Value.int .i64))) : Ints w v xs := by
  rcases h.2 with ⟨rfl, hn⟩ | ⟨g, cap, cur, rfl, _, hg, hnc, _, hcs, htake⟩
  · obtain rfl : xs = [] := List.eq_nil_of_length_eq_zero hn
    exact ⟨none, 0, rfl, .inl rfl⟩
  · refine ⟨_, cap, rfl, .inr ⟨g, 0, rfl, fun i hi => ?_⟩⟩
    have hc := h.cells (g := g) rfl i (.int .i64 (xs.getD i 0)) (by simp [List.getElem?_eq_getElem hi, List.getD])
    have ha : (⟨g, 0, none⟩ : Addr).add i = ⟨g, 0 + i, none⟩ := by unfold Addr.add; split <;> simp_all
    rw [ha] at hc
    exact hc
theorem own_room {w : World} {base n : Nat} {e : TypeId} {v : Value} {xs : List Value} (h : w.ownsRow base e 1 v n xs) : ∃ a c, v = .slice a n c ∧ n ≤ c := by
  rcases h.2 with ⟨rfl, hn⟩ | ⟨g, cap, cur, rfl, _, _, hnc, _⟩
  · exact ⟨none, 0, by rw [hn], by omega⟩
  · exact ⟨_, cap, rfl, hnc⟩
theorem RowB.own {w : World} {base : Nat} {v : Value} {xs : List Int} (h : w.ownsRow base 5 1 v xs.length (xs.map (Value.int .u8))) (hy : ByL xs) : RowB w v xs := ⟨own_bts h, hy, own_room h⟩
theorem RowI.own {w : World} {base : Nat} {v : Value} {xs : List Int} (h : w.ownsRow base 3 1 v xs.length (xs.map (Value.int .i64))) (hy : I64 xs) : RowI w v xs := ⟨own_ints h, hy, own_room h⟩

theorem take_snoc {xs ys : List Int} {k : Nat} (h1 : k < xs.length) (h2 : k < ys.length) (e : xs.take k = ys.take k) (g : xs.getD k 0 = ys.getD k 0) : xs.take (k + 1) = ys.take (k + 1) := by
  rw [List.take_succ_eq_append_getElem h1, List.take_succ_eq_append_getElem h2, e]
  simp only [List.getD, List.getElem?_eq_getElem h1, List.getElem?_eq_getElem h2] at g
  rw [show xs[k] = ys[k] from g]
theorem same_full {xs ys : List Int} (hl : xs.length = ys.length) (e : xs.take xs.length = ys.take xs.length) : xs = ys := by
  rw [List.take_length, hl, List.take_length] at e; exact e

def Said (b : Bool) (w : World) (e : Ending) (w' : World) : Prop := e = .returned (.bool b) ∧ ∃ d, w' = w.drewN d
theorem Said.below {b : Bool} {w w' : World} {e : Ending} (h : Said b w e w') : e = .returned (.bool b) ∧ Below w.heap.size w w' := by
  obtain ⟨h, d, rfl⟩ := h; exact ⟨h, below_drewN _ _ _⟩


set_option maxHeartbeats 1000000 in
theorem sameInts_any (v1 v2 : Value) (xs ys : List Int) (w : World) (h1 : Ints w v1 xs) (h2 : Ints w v2 ys) (hl1 : xs.length ≤ 1000000) :
    Calls Try.prog 20 #[v1, v2] w (Said (decide (xs = ys)) w) := by
  obtain ⟨a1, c1, rfl, h1⟩ := h1
  obtain ⟨a2, c2, rfl, h2⟩ := h2
  have H1 := Lib.hid h1
  have H2 := Lib.hid h2
  clear h1 h2
  by_cases hne : xs.length = ys.length
  · have HE := Lib.hid hne
    rw [← hne]
    clear hne
    go_enter Try.func20, Try.ntmps20
    go_wp2
    go_loopw [5] (fun s5 wx => ∃ k d : Nat, k ≤ xs.length ∧ s5 = .int .i64 k ∧ wx = w.drewN d ∧ xs.take k = ys.take k) (fun i _ => xs.length - (intOf i).toNat)
    case atStart => exact ⟨0, 0, Nat.zero_le _, rfl, rfl, rfl⟩
    case round =>
      obtain ⟨k, d, hk, rfl, hw, ht⟩ := hrel
      have HT := Lib.hid ht
      clear ht
      by_cases hlt : k < xs.length
      · have he := HE.out
        have hn1 : xs ≠ [] := fun e => by subst e; simp at hlt
        have hn2 : ys ≠ [] := fun e => by rw [e] at he; rw [he] at hlt; simp at hlt
        obtain ⟨b1, o1, rfl, q1⟩ := H1.out.resolve_left hn1
        obtain ⟨b2, o2, rfl, q2⟩ := H2.out.resolve_left hn2
        have r1 : wr.cell? ⟨b1, o1 + k, none⟩ = some (.int .i64 (xs.getD k 0)) := by rw [hw]; exact q1 k hlt
        have r2 : wr.cell? ⟨b2, o2 + k, none⟩ = some (.int .i64 (ys.getD k 0)) := by rw [hw]; exact q2 k (by omega)
        have hlt' : (k : Int) < xs.length := by omega
        have HW := Lib.hid hw
        clear hw q1 q2 hn1 hn2 he
        by_cases hg : xs.getD k 0 = ys.getD k 0
        · have HG := Lib.hid hg
          rw [← hg] at r2
          clear hg
          generalize xs.getD k 0 = z at r1 r2
          go_wp2
          go_quiet (fail)
          go_wp2
          go_roundw
          case rel => exact ⟨k + 1, d + nq, by omega, by go_num, by rw [HW.out, World.drewN_drewN], take_snoc hlt (by have := HE.out; omega) HT.out HG.out⟩
          case measure => simp [intOf]; omega
        · have HX := Lib.hid (show xs ≠ ys from fun e => hg (by rw [e]))
          have hz : (xs.getD k 0 != ys.getD k 0) = true := by simpa using hg
          clear hg
          generalize xs.getD k 0 = z at r1 hz
          generalize ys.getD k 0 = z2 at r2 hz
          go_wp2
          go_quiet (fail)
          go_wp2
          go_ret
          refine ⟨?_, d + nq, by rw [HW.out, World.drewN_drewN]⟩
          have := HX.out
          simp [this]
      · have HW := Lib.hid hw
        clear hw
        obtain rfl : k = xs.length := by omega
        go_wp2
        go_ret
        have : xs = ys := same_full HE.out HT.out
        exact ⟨by simp [this], d, HW.out⟩
  · have h3 : ((xs.length : Int) != ys.length) = true := by rw [bne_iff_ne]; omega
    have h4 : (xs.length != ys.length) = true := by simpa using hne
    have HN := Lib.hid hne
    clear hne
    go_enter Try.func20, Try.ntmps20
    go_wp2
    go_ret
    have : xs ≠ ys := fun e => HN.out (by rw [e])
    exact ⟨by simp [this], 0, rfl⟩
end Go.Proofs.Ytmaeoefimkppoaa.Wd
