/- slices.Repeat of a row of one number, and math/bits.Mul by one. -/
import Derived.Test.YtmaeoefimkppoaaFAt
import Derived.Lib.BitFns
import Derived.Lib.LazyBuf
namespace Go.Proofs.Ytmaeoefimkppoaa.Fl
set_option maxRecDepth 1000000
open Go.ChangeShapes Go.WideShapes Go.ChangeAt Go.RowKit
open Go.Proofs.Ytmaeoefimkppoaa.Wd

theorem and_mask (n : Nat) (hn : n ≤ 1000) : bits .and .u64 (n : Int) 4294967295 = n := by
  have h : ∀ k : Fin 1001, bits .and .u64 ((k : Nat) : Int) 4294967295 = ((k : Nat) : Int) := by decide +kernel
  exact h ⟨n, by omega⟩
set_option maxHeartbeats 400000 in
theorem mul64_one (n : Nat) (hn : n ≤ 1000) (w : World) : Calls Try.prog 86 #[.int .u64 1, .int .u64 n] w fun e w' => e = .returned (.tuple #[.int .u64 0, .int .u64 n]) ∧ w = w' := by
  have h1 := and_mask n hn
  have h2 : bits .and .u64 1 4294967295 = 1 := and_mask 1 (by omega)
  have h3 : bits .and .u64 0 4294967295 = 0 := and_mask 0 (by omega)
  have h6 : IntKind.u64.wrap (n : Int) = n := by simp [IntKind.wrap, IntKind.bits, IntKind.signed]; omega
  have h7 : IntKind.u64.wrap 0 = 0 := by decide
  have h4 : (n : Int) / 4294967296 = 0 := by omega
  have h5 : (1 : Int) / 4294967296 = 0 := by decide
  go_enter Try.func86, Try.ntmps86
  go_wp2
  go_ret2
  exact ⟨rfl, rfl⟩
set_option maxHeartbeats 400000 in
theorem mul_one (n : Nat) (hn : n ≤ 1000) (w : World) : Calls Try.prog 78 #[.int .u64 1, .int .u64 n] w fun e w' => e = .returned (.tuple #[.int .u64 0, .int .u64 n]) ∧ w = w' := by
  go_enter Try.func78, Try.ntmps78
  go_wp2_with (go_at_call 86; refine (mul64_one n hn _).mono ?_; rintro e w' ⟨rfl, rfl⟩)
  go_ret2
  exact ⟨rfl, rfl⟩

theorem one_size : (Try.prog.info? 3).map (·.size) = some 1 := by
  obtain ⟨i0, hi, hz0, hz1, hz2⟩ := info_parts Try.info3
  simp [hi, hz1]
def twoF (k j : Nat) : Value := if j < k then .int .i64 2 else .int .i64 0
/-- A row of k twos and noughts behind, in a block of n. -/
def Twos (w0 : World) (n k : Nat) (w : World) : Prop := w.rowIs w0.heap.size 3 n (twoF k) ∧ Below w0.heap.size w0 w
theorem rep_mem {n : Nat} {u : Value} (h : u ∈ List.replicate n (Value.int .i64 2)) : u = .int .i64 2 := (List.mem_replicate.1 h).2
theorem copy_first {w0 w : World} {n b c : Nat} (h : Twos w0 (n + 1) 0 w) (hb : w.cell? ⟨b, 0, none⟩ = some (.int .i64 2)) (ty : TypeId) :
    (Builtin.copy_ #[30, 30] ty #[.slice (some ⟨w0.heap.size, 0, none⟩) (n + 1) (n + 1), .slice (some ⟨b, 0, none⟩) 1 c]).run Try.prog w = .ok (.int .i64 1) (w.setCells w0.heap.size 0 [.int .i64 2]) := by
  have := run_copy_cells (P := Try.prog) w 30 30 ty 3 w0.heap.size 0 (n + 1) (n + 1) ⟨b, 0, none⟩ 1 c [.int .i64 2] Try.underlying30 one_size (by simp)
    (fun j u hu => by
      rcases j with _ | j
      · simp at hu; subst hu; exact hb
      · simp at hu)
    (fun j hj => by simp at hj; subst hj; rw [h.1.cell (by omega)]; rfl) (fun j _ => h.1.frozen _) (fun u hu => by simp at hu; subst hu; rfl)
  exact this
theorem Twos.first {w0 w : World} {n : Nat} (h : Twos w0 (n + 1) 0 w) : Twos w0 (n + 1) 1 (w.setCells w0.heap.size 0 [.int .i64 2]) := by
  refine ⟨(Go.rowIs_setCells [.int .i64 2] 0 w _ h.1).congr fun j _ => ?_, Go.below_setCells (Nat.le_refl _) _ _ _ h.2⟩
  unfold twoF
  by_cases hj : j < 1
  · obtain rfl : j = 0 := by omega
    rfl
  · rw [if_neg (by simp; omega), if_neg (by omega), if_neg hj]
theorem copy_more {w0 w : World} {n k : Nat} (h : Twos w0 n k w) (hk : k ≤ n) (ty : TypeId) :
    (Builtin.copy_ #[30, 30] ty #[.slice (some ⟨w0.heap.size, k, none⟩) (n - k) (n - k), .slice (some ⟨w0.heap.size, 0, none⟩) k n]).run Try.prog w = .ok (.int .i64 (min k (n - k) : Nat)) (w.setCells w0.heap.size k (List.replicate (min k (n - k)) (.int .i64 2))) := by
  have := run_copy_cells (P := Try.prog) w 30 30 ty 3 w0.heap.size k (n - k) (n - k) ⟨w0.heap.size, 0, none⟩ k n (List.replicate (min k (n - k)) (.int .i64 2)) Try.underlying30 one_size (by simp)
    (fun j u hu => by
      have hj := (List.getElem?_eq_some_iff.1 hu).1
      rw [List.length_replicate] at hj
      rw [add_plain, Nat.zero_add, h.1.cell (by omega), rep_mem (List.mem_of_getElem? hu)]
      unfold twoF
      rw [if_pos (by omega)])
    (fun j hj => by rw [List.length_replicate] at hj; rw [h.1.cell (by omega)]; rfl) (fun j _ => h.1.frozen _) (fun u hu => by rw [rep_mem hu]; rfl)
  rw [List.length_replicate] at this
  exact this
theorem Twos.more {w0 w : World} {n k : Nat} (h : Twos w0 n k w) : Twos w0 n (k + min k (n - k)) (w.setCells w0.heap.size k (List.replicate (min k (n - k)) (.int .i64 2))) := by
  refine ⟨(Go.rowIs_setCells _ k w _ h.1).congr fun j _ => ?_, Go.below_setCells (Nat.le_refl _) _ _ _ h.2⟩
  unfold twoF
  rw [List.length_replicate]
  by_cases hj : k ≤ j ∧ j < k + min k (n - k)
  · rw [if_pos hj, if_pos (by omega), List.getElem?_replicate, if_pos (by omega)]; rfl
  · rw [if_neg hj]
    by_cases h1 : j < k
    · rw [if_pos h1, if_pos (by omega)]
    · rw [if_neg h1, if_neg (by omega)]
theorem Twos.drew {w0 w : World} {n k : Nat} (h : Twos w0 n k w) : Twos w0 n k w.drew := ⟨h.1.drew, h.2.trans (below_drewN _ _ 1)⟩
theorem Twos.start (w : World) (n : Nat) : Twos w n 0 (w.alloc (.cells (madeCells #[Value.int .i64 0] n) 3)) :=
  ⟨(World.rowIs_made w (.int .i64 0) n 3).congr fun j _ => by unfold twoF; rw [if_neg (by omega)], (Below.refl _ _).alloc (Nat.le_refl _) _⟩
theorem Twos.all {w0 w : World} {n : Nat} (h : Twos w0 n n w) (hn : n ≤ 1000) : w.ownsRow w0.heap.size 3 1 (.slice (some ⟨w0.heap.size, 0, none⟩) n n) n ((List.replicate n (2 : Int)).map (Value.int .i64)) := by
  obtain ⟨c, h1, h2, h3⟩ := h.1
  refine ⟨by simp, .inr ⟨_, _, c, rfl, Nat.le_refl _, h1, Nat.le_refl _, by unfold maxLen; omega, by omega, ?_⟩⟩
  apply List.ext_getElem?
  intro j
  by_cases hj : j < n
  · rw [List.getElem?_take, if_pos (by omega), Array.getElem?_toList, h3 j hj]
    unfold twoF
    rw [if_pos hj, List.map_replicate, List.getElem?_replicate, if_pos hj]
  · rw [List.getElem?_eq_none (by simp; omega), List.getElem?_eq_none (by simp; omega)]

theorem mk_ints (w : World) (n : Nat) (hn : n ≤ 1000000) : (Instr.makeSlice 30 (.int .i64 n) (.int .i64 n)).run Try.prog w = .ok (.slice (some ⟨w.heap.size, 0, none⟩) n n) (w.alloc (.cells (madeCells #[Value.int .i64 0] n) 3)) := by
  obtain ⟨i0, hi, hz0, hz1, hz2⟩ := info_parts Try.info3
  have h := run_make (P := Try.prog) w 30 3 i0 (.int .i64 0) Try.underlying30 hi hz0 .i64 .i64 (n : Int) (n : Int) (by omega) (by omega) (by rw [hz2]; omega) (by omega)
  rw [hz1] at h
  simpa [Value.cells] using h
set_option maxHeartbeats 1000000 in
theorem repeat_zero (b c : Nat) (w : World) :
    Calls Try.prog 63 #[.slice (some ⟨b, 0, none⟩) 1 c, .int .i64 0] w (GaveI (List.replicate 0 2) w) := by
  have HM : Hid (∀ w, Calls Try.prog 78 #[.int .u64 1, .int .u64 0] w fun e w' => e = .returned (.tuple #[.int .u64 0, .int .u64 0]) ∧ w = w') := Lib.hid (mul_one 0 (by omega))
  have HK : ∀ w, (Instr.makeSlice 30 (.int .i64 0) (.int .i64 0)).run Try.prog w = .ok (.slice (some ⟨w.heap.size, 0, none⟩) 0 0) (w.alloc (.cells (madeCells #[Value.int .i64 0] 0) 3)) := fun w => mk_ints w 0 (by omega)
  have hcp : ∀ (w : World) (ty : TypeId), (Builtin.copy_ #[30, 30] ty #[.slice (some ⟨w.heap.size, 0, none⟩) 0 0, .slice (some ⟨b, 0, none⟩) 1 c]).run Try.prog (w.alloc (.cells (madeCells #[Value.int .i64 0] 0) 3)) = .ok (.int .i64 0) (w.alloc (.cells (madeCells #[Value.int .i64 0] 0) 3)) := fun w ty => run_copy_none _ 30 30 ty 3 _ _ 0 0 1 c Try.underlying30 one_size (by simp)
  go_enter Try.func63, Try.ntmps63
  go_wp2_with (go_at_call 78; refine (HM.out _).mono ?_; rintro e w' ⟨rfl, rfl⟩)
  go_loopw [8] (fun i wr => i = .int .i64 0 ∧ wr = w.alloc (.cells (madeCells #[Value.int .i64 0] 0) 3)) (fun _ _ => 0)
  case atStart => exact ⟨rfl, rfl⟩
  case round =>
    obtain ⟨rfl, rfl⟩ := hrel
    go_wp2
    go_ret
    exact ⟨_, rfl, by simpa using (Twos.start w 0).all (by omega), (Below.refl _ _).alloc (Nat.le_refl _) _⟩
set_option maxHeartbeats 1000000 in
theorem repeat_more (b c : Nat) (n : Nat) (hn : n + 1 ≤ 1000) (w : World) (hb : w.cell? ⟨b, 0, none⟩ = some (.int .i64 2)) :
    Calls Try.prog 63 #[.slice (some ⟨b, 0, none⟩) 1 c, .int .i64 (n + 1 : Nat)] w (GaveI (List.replicate (n + 1) 2) w) := by
  have HM := Lib.hid (mul_one (n + 1) hn)
  have HK : ∀ w, (Instr.makeSlice 30 (.int .i64 (n + 1 : Nat)) (.int .i64 (n + 1 : Nat))).run Try.prog w = .ok (.slice (some ⟨w.heap.size, 0, none⟩) (n + 1) (n + 1)) (w.alloc (.cells (madeCells #[Value.int .i64 0] (n + 1)) 3)) := fun w => mk_ints w (n + 1) (by omega)
  have hs := Twos.start w (n + 1)
  have hcp := copy_first (c := c) hs (b := b) (by rw [World.cell?_alloc_lt _ _ _ (World.block_lt_of_cell? _ _ hb)]; exact hb)
  have H1 := Lib.hid hs.first
  clear hs
  have h6 : IntKind.u64.wrap ((n + 1 : Nat) : Int) = (n + 1 : Nat) := by simp [IntKind.wrap, IntKind.bits, IntKind.signed]; omega
  have h7 : IntKind.i64.wrap ((n + 1 : Nat) : Int) = (n + 1 : Nat) := by rw [IntKind.wrap_i64]; omega
  have HN := Lib.hid hn
  have H0 := Lib.hid (show 1 ≤ n + 1 by omega)
  generalize n + 1 = q at *
  go_enter Try.func63, Try.ntmps63
  go_wp2_with (go_at_call 78; refine (HM.out _).mono ?_; rintro e w' ⟨rfl, rfl⟩)
  go_loopw [8] (fun i wr => ∃ k : Nat, 1 ≤ k ∧ k ≤ q ∧ i = .int .i64 k ∧ Twos w q k wr) (fun i _ => q - (RowKit.intOf i).toNat)
  case atStart => exact ⟨1, by omega, H0.out, rfl, H1.out⟩
  case round =>
    obtain ⟨k, hk, hk2, rfl, ht⟩ := hrel
    have T := Lib.hid ht
    by_cases hlt : k < q
    · have hcp := fun ty => copy_more ht.drew hk2 ty
      have HX := Lib.hid ht.drew.more
      have hw : IntKind.i64.wrap ((k : Int) + (min k (q - k) : Nat)) = (k + min k (q - k) : Nat) := by rw [IntKind.wrap_i64]; have := HN.out; omega
      have hle : k ≤ q := hk2
      have hmn : 1 ≤ min k (q - k) := by omega
      have hmx : k + min k (q - k) ≤ q := by omega
      have HMN := Lib.hid hmn
      have HMX := Lib.hid hmx
      clear hmn hmx ht
      generalize min k (q - k) = s at *
      go_wp2_with fail
      go_region_with fail
      go_simp
      go_wp2
      go_roundw
      case rel => exact ⟨k + s, by omega, HMX.out, by go_num, HX.out⟩
      case measure =>
        have := HMN.out
        have := HMX.out
        simp [RowKit.intOf]
        omega
    · obtain rfl : k = q := by omega
      go_wp2
      go_ret
      exact ⟨_, rfl, by simpa using T.out.all HN.out, T.out.2⟩
end Go.Proofs.Ytmaeoefimkppoaa.Fl
