/- What a map of package bits is in memory, and what its functions Len, check, count, Taken, Has, flip and next do. No condition but those that each statement names. -/
import Derived.Test.YtccpmaahnfgkeaaGreatDoorBNum
import Derived.Test.YtccpmaahnfgkeaaGreatDoorBSets
import Derived.RegionTactic
namespace Go.Proofs.YtccpmaahnfgkeaaGreatDoor
open Go.RowKit

/-- But for the block x nothing that was there has changed. -/
structure But (x : Nat) (w w' : World) : Prop where
  os : w'.os = w.os
  tape : w'.tape = w.tape
  output : w'.output = w.output
  size : w.heap.size ≤ w'.heap.size
  block : ∀ k, k < w.heap.size → k ≠ x → w'.heap[k]? = w.heap[k]?
theorem But.refl (x : Nat) (w : World) : But x w w := ⟨rfl, rfl, rfl, Nat.le_refl _, fun _ _ _ => rfl⟩
theorem But.trans {x : Nat} {a b c : World} (h : But x a b) (k : But x b c) : But x a c :=
  ⟨k.os.trans h.os, k.tape.trans h.tape, k.output.trans h.output, Nat.le_trans h.size k.size, fun i hi hx => (k.block i (Nat.lt_of_lt_of_le hi h.size) hx).trans (h.block i hi hx)⟩
theorem But.below {x B : Nat} {w w' : World} (h : But x w w') (h1 : B ≤ x) (h2 : B ≤ w.heap.size) : Below B w w' :=
  ⟨h.os, h.tape, h.output, h.size, fun k hk => h.block k (by omega) (by omega)⟩
theorem But.of_below {x : Nat} {w w' : World} (h : Below w.heap.size w w') : But x w w' := ⟨h.os, h.tape, h.output, h.size, fun k hk _ => h.block k hk⟩
theorem But.setCell {x : Nat} {a w : World} (h : But x a w) (p : Addr) (hp : p.block = x) (u : Value) : But x a (w.setCell p u) :=
  h.trans ⟨rfl, rfl, rfl, by simp [World.setCell], fun k _ hx => Below.heap_setCell _ _ _ _ (by omega)⟩
theorem But.drewN {x : Nat} {a w : World} (h : But x a w) (n : Nat) : But x a (w.drewN n) := ⟨h.os, h.tape, h.output, h.size, h.block⟩
theorem But.cell {x : Nat} {w w' : World} (h : But x w w') {p : Addr} (h1 : p.block < w.heap.size) (hp : p.block ≠ x) : w'.cell? p = w.cell? p := World.cell?_of_block (w := w) (h.block p.block h1 hp)
theorem But.frozen {x : Nat} {w w' : World} (h : But x w w') {p : Addr} (h1 : p.block < w.heap.size) (hp : p.block ≠ x) : w'.frozen? p = w.frozen? p := World.frozen?_of_block (w := w) (h.block p.block h1 hp)
theorem below_drewN (w : World) (B n : Nat) : Below B w (w.drewN n) := ⟨rfl, rfl, rfl, Nat.le_refl _, fun _ _ => rfl⟩

/-- The map at block m, its words in block x: n elements, of which S are taken. -/
structure MapAt (w : World) (m x n : Nat) (S : Nat → Bool) : Prop where
  len : w.cell? ⟨m, 0, none⟩ = some (.int .i64 n)
  row : w.cell? ⟨m, 1, none⟩ = some (.slice (some ⟨x, 0, none⟩) ((n + 63) / 64) ((n + 63) / 64))
  word : ∀ j, j < (n + 63) / 64 → w.cell? ⟨x, j, none⟩ = some (.int .u64 (wd S j))
  thaw : ∀ j, w.frozen? ⟨x, j, none⟩ = false
  apart : m ≠ x
  small : n ≤ 65536
  out : ∀ i, n ≤ i → S i = false
  mlt : m < w.heap.size
  xlt : x < w.heap.size

theorem MapAt.drewN {w : World} {m x n : Nat} {S : Nat → Bool} (h : MapAt w m x n S) (k : Nat) : MapAt (w.drewN k) m x n S :=
  ⟨h.len, h.row, h.word, h.thaw, h.apart, h.small, h.out, h.mlt, h.xlt⟩
theorem MapAt.heap {w w' : World} {m x n : Nat} {S : Nat → Bool} (h : MapAt w m x n S) (e : w'.heap = w.heap) : MapAt w' m x n S := by
  have hc : ∀ p, w'.cell? p = w.cell? p := fun p => World.cell?_of_block (w := w) (by rw [e])
  have hf : ∀ p, w'.frozen? p = w.frozen? p := fun p => World.frozen?_of_block (w := w) (by rw [e])
  exact ⟨(hc _).trans h.len, (hc _).trans h.row, fun j hj => (hc _).trans (h.word j hj), fun j => (hf _).trans (h.thaw j), h.apart, h.small, h.out, by rw [e]; exact h.mlt, by rw [e]; exact h.xlt⟩
theorem But.heap {x : Nat} {w w' w'' : World} (h : But x w w') (e : w''.heap = w'.heap) (e1 : w''.os = w'.os) (e2 : w''.tape = w'.tape) (e3 : w''.output = w'.output) : But x w w'' :=
  ⟨e1.trans h.os, e2.trans h.tape, e3.trans h.output, by rw [e]; exact h.size, fun k hk hx => by rw [e]; exact h.block k hk hx⟩
theorem MapAt.but {w w' : World} {m x n y : Nat} {S : Nat → Bool} (h : MapAt w m x n S) (b : But y w w') (h1 : y ≠ m) (h2 : y ≠ x) : MapAt w' m x n S :=
  ⟨(b.cell (p := ⟨m, 0, none⟩) h.mlt (Ne.symm h1)).trans h.len, (b.cell (p := ⟨m, 1, none⟩) h.mlt (Ne.symm h1)).trans h.row, fun j hj => (b.cell (p := ⟨x, j, none⟩) h.xlt (Ne.symm h2)).trans (h.word j hj),
   fun j => (b.frozen (p := ⟨x, j, none⟩) h.xlt (Ne.symm h2)).trans (h.thaw j), h.apart, h.small, h.out, Nat.lt_of_lt_of_le h.mlt b.size, Nat.lt_of_lt_of_le h.xlt b.size⟩
theorem MapAt.below {w w' : World} {m x n : Nat} {S : Nat → Bool} (h : MapAt w m x n S) (b : Below w.heap.size w w') : MapAt w' m x n S :=
  h.but (y := w.heap.size) (But.of_below b) (by have := h.mlt; omega) (by have := h.xlt; omega)

set_option maxHeartbeats 400000 in
theorem mlen_any (m x n : Nat) (S : Nat → Bool) (w : World) (h : MapAt w m x n S) :
    Calls Tryz.prog 83 #[.pointer (some ⟨m, 0, none⟩)] w fun e w' => e = .returned (.int .i64 n) ∧ w = w' := by
  have h0 := h.len
  go_enter Tryz.func83, Tryz.ntmps83
  go_wp2
  go_ret
  exact ⟨rfl, rfl⟩
theorem mlen_nil (w : World) : Calls Tryz.prog 83 #[.pointer none] w fun e w' => e = .returned (.int .i64 0) ∧ w = w' := by
  go_enter Tryz.func83, Tryz.ntmps83
  go_wp2
  go_ret
  exact ⟨rfl, rfl⟩

theorem check_nil (f c : Int) (w : World) : Calls Tryz.prog 111 #[.pointer none, .int .i64 f, .int .i64 c] w fun e w' => e = .returned (.int .i64 1) ∧ w = w' := by
  go_enter Tryz.func111, Tryz.ntmps111
  go_wp2
  go_ret
  exact ⟨rfl, rfl⟩

set_option maxHeartbeats 400000 in
theorem check_no (m x n : Nat) (S : Nat → Bool) (f c : Int) (w : World) (h : MapAt w m x n S) (hf1 : -9223372036854775808 ≤ f) (hf2 : f ≤ 9223372036854775807) (hc2 : c ≤ 9223372036854775807)
    (hb : ¬ (1 ≤ c ∧ 0 ≤ f ∧ f + c ≤ n)) :
    Calls Tryz.prog 111 #[.pointer (some ⟨m, 0, none⟩), .int .i64 f, .int .i64 c] w fun e w' => e = .returned (.int .i64 2) ∧ w = w' := by
  have h0 := h.len
  have hs := h.small
  have HB := Lib.hid hb
  clear hb
  go_enter Tryz.func111, Tryz.ntmps111
  go_wp2
  all_goals first
    | (go_ret; exact ⟨rfl, rfl⟩)
    | (exfalso; have := HB.out; omega)

set_option maxHeartbeats 400000 in
theorem check_yes (m x n : Nat) (S : Nat → Bool) (f c : Nat) (w : World) (h : MapAt w m x n S) (hc : 1 ≤ c) (hb : f + c ≤ n) :
    Calls Tryz.prog 111 #[.pointer (some ⟨m, 0, none⟩), .int .i64 f, .int .i64 c] w fun e w' => e = .returned (.int .i64 0) ∧ w = w' := by
  have h0 := h.len
  have hs := h.small
  go_enter Tryz.func111, Tryz.ntmps111
  go_wp2
  all_goals first
    | (go_ret; exact ⟨rfl, rfl⟩)
    | (exfalso; omega)

theorem MapAt.open {w : World} {m x n : Nat} {S : Nat → Bool} (h : MapAt w m x n S) : ∃ L : Nat, n ≤ 64 * L ∧ 64 * L ≤ n + 63 ∧
    w.cell? ⟨m, 1, none⟩ = some (.slice (some ⟨x, 0, none⟩) L L) ∧ ∀ j, j < L → w.cell? ⟨x, j, none⟩ = some (.int .u64 (wd S j)) :=
  ⟨(n + 63) / 64, by omega, by omega, h.row, h.word⟩

theorem and_mask (S : Nat → Bool) (f c j : Nat) (h1 : f < 64 * j + 64) (_h2 : 64 * j < f + c) :
    bits BinOp.and IntKind.u64 (wd S j : Int) (maskN (f - 64 * j) (min (f + c - 64 * j) 64) : Int) = (wd (andR S f c) j : Int) := by
  rw [bits_and_u64_nat _ _ (wd_lt S j) (maskN_lt _ _)]
  refine congrArg (fun n : Nat => (n : Int)) (eq_wd (Nat.lt_of_le_of_lt Nat.and_le_left (wd_lt S j)) fun k hk => ?_)
  rw [Nat.testBit_and, wd_bit S j k hk, maskN_bit _ _ k (by omega) hk]
  simp only [andR, inR]
  refine congrArg (fun b : Bool => S (64 * j + k) && b) (decide_eq_decide.2 ?_)
  omega

theorem ones_quiet (x : Nat) (w : World) (n : Nat) (hx : x < 18446744073709551616) :
    Calls Tryz.prog 114 #[.int .u64 x] (w.drewN n) fun e w' => e = .returned (.int .i64 (ones x)) ∧ w' = w.drewN n :=
  (ones_any x _ hx).mono fun _ _ ⟨he, hw⟩ => ⟨he, hw.symm⟩

set_option maxHeartbeats 1000000 in
theorem count_any (m x n : Nat) (S : Nat → Bool) (f c : Nat) (w : World) (h : MapAt w m x n S) (hb : f + c ≤ n) :
    Calls Tryz.prog 95 #[.pointer (some ⟨m, 0, none⟩), .int .i64 f, .int .i64 c] w fun e w' => e = .returned (.int .i64 (cnt S f c)) ∧ ∃ d, w' = w.drewN d := by
  have hs := h.small
  have hcl := cnt_le S f c
  go_enter Tryz.func95, Tryz.ntmps95
  go_wp2
  go_loopw [7, 8] (fun t i wr => ∃ j d : Nat, f / 64 ≤ j ∧ 64 * j ≤ f + c + 63 ∧ i = .int .i64 j ∧ t = .int .i64 (cnt (andR S f c) 0 (64 * j)) ∧ wr = w.drewN d)
    (fun _ i _ => 2000 - (intOf i).toNat)
  case atStart => exact ⟨f / 64, 0, Nat.le_refl _, by omega, by go_num, by rw [cnt_andR_lo S f c _ (by omega)]; rfl, rfl⟩
  case round =>
    obtain ⟨j, d, hj1, hj2, rfl, rfl, hw⟩ := hrel
    by_cases hlt : 64 * j < f + c
    · have hmr : MapAt wr m x n S := by rw [hw]; exact h.drewN d
      have HW := Lib.hid hw
      clear hw
      obtain ⟨L, hl1, hl2, hrow, hword⟩ := hmr.open
      have hjL : j < L := by omega
      have hwj := hword j hjL
      have hjL' : (j : Int) < L := by omega
      have E := and_mask S f c j (by omega) hlt
      have hn1 := cnt_le (andR S f c) 0 (64 * j)
      have hn2 := ones_le (wd (andR S f c) j)
      have HS : Hid (cnt (andR S f c) 0 (64 * (j + 1)) = cnt (andR S f c) 0 (64 * j) + ones (wd (andR S f c) j)) := by
        show _ = _
        rw [show 64 * (j + 1) = 64 * j + 64 by omega, cnt_add, ones_wd, Nat.zero_add]
      have hwl := wd_lt (andR S f c) j
      have HM := Lib.hid (fun w => mask_any j f c w (by omega) (by omega) (by omega) (by omega) hlt)
      have HO := Lib.hid (fun w n => ones_quiet (wd (andR S f c) j) w n hwl)
      clear hword hmr hwl
      generalize maskN (f - 64 * j) (min (f + c - 64 * j) 64) = M at E HM
      generalize wd S j = X at E hwj
      generalize wd (andR S f c) j = Y at E HS hn2 HO
      generalize cnt (andR S f c) 0 (64 * j) = t at HS hn1 ⊢
      generalize ones Y = o at HS hn2 HO
      have W1 : IntKind.i64.wrap ((t : Int) + o) = t + o := by rw [IntKind.wrap_i64]; omega
      go_wp2
      go_quiet (first | (go_at_call 84; exact Calls.quiet_of (HM.out _)) | (go_at_call 114; exact Calls.quiet_of_same (HO.out _ _)))
      clear W1
      go_wp2
      go_roundw
      case rel => exact ⟨j + 1, d + nq, by omega, by omega, by go_num, by rw [HS.out]; go_num, by rw [HW.out, World.drewN_drewN]⟩
      case measure => simp [intOf]; omega
    · have HW := Lib.hid hw
      clear hw
      go_wp2
      go_ret
      refine ⟨?_, d, HW.out⟩
      rw [cnt_andR_hi S f c (64 * j) (by omega)]
      rfl
end Go.Proofs.YtccpmaahnfgkeaaGreatDoor
