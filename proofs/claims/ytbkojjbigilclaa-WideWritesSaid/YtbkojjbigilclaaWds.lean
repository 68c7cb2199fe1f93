/- What wide's own functions 'words' and 'fits' return: the words that stand in bytes; whether so many bytes are an object of that kind and size. -/
import Derived.Test.YtbkojjbigilclaaRen
namespace Go.Proofs.Ytbkojjbigilclaa
open Go.ChangeShapes Go.WideShapes Go.ChangeAt Go.RowKit
set_option maxRecDepth 1000000

set_option maxHeartbeats 400000 in
theorem fits_any (k n : Int) (l : Nat) (w : World) (h1 : In64 k) (h2 : In64 n) :
    Calls Try.prog 34 #[.int .i64 k, .int .i64 n, .int .i64 l] w fun e w' => e = .returned (.bool (fitsB k n l)) ∧ w = w' := by
  obtain ⟨h1, h1'⟩ := h1
  obtain ⟨h2, h2'⟩ := h2
  by_cases hn : 0 ≤ n ∧ n ≤ 1000
  · obtain ⟨n0, n1⟩ := hn
    by_cases k1 : k = 1
    · subst k1
      have HE := Lib.hid (show ((l : Int) == 4 * n) = fitsB 1 n l by simp [fitsB, n0, n1])
      go_enter Try.func34, Try.ntmps34
      go_wp2
      go_ret
      exact ⟨ret_b HE.out, rfl⟩
    · by_cases k2 : k = 2
      · subst k2
        have HE := Lib.hid (show ((l : Int) == n) = fitsB 2 n l by simp [fitsB, n0, n1])
        go_enter Try.func34, Try.ntmps34
        go_wp2
        go_ret
        exact ⟨ret_b HE.out, rfl⟩
      · have HE := Lib.hid (show false = fitsB k n l by simp [fitsB, k1, k2])
        have e1 : (k == 1) = false := by simpa using k1
        have e2 : (k == 2) = false := by simpa using k2
        go_enter Try.func34, Try.ntmps34
        go_wp2
        go_ret
        exact ⟨ret_b HE.out, rfl⟩
  · have HE := Lib.hid (show false = fitsB k n l by simp only [fitsB, hn]; simp)
    by_cases n0 : n < 0
    · clear hn
      go_enter Try.func34, Try.ntmps34
      go_wp2
      go_ret
      exact ⟨ret_b HE.out, rfl⟩
    · have n1 : 1000 < n := by omega
      clear hn
      go_enter Try.func34, Try.ntmps34
      go_wp2
      go_ret
      exact ⟨ret_b HE.out, rfl⟩

theorem mkI (w : World) (n : Nat) (hn : n ≤ 100000) : (Instr.makeSlice 22 (.int .i64 (n : Int)) (.int .i64 (n : Int))).run Try.prog w = .ok (.slice (some ⟨w.heap.size, 0, none⟩) n n) (w.alloc (.cells (madeCells (Value.int .i64 0).cells n) 3)) := by
  obtain ⟨i0, hi, hz0, hz1, hz2⟩ := info_parts Try.info3
  have h := run_make (P := Try.prog) w 22 3 i0 (.int .i64 0) Try.underlying22 hi hz0 .i64 .i64 (n : Int) (n : Int) (by omega) (by omega) (by rw [hz2]; omega) (by omega)
  rw [hz1, Nat.mul_one, show (n : Int).toNat = n by omega] at h
  exact h

/-- What stands in the numbers' block behind k rounds: the first k words. -/
def WdsInv (g q k : Nat) (xs : List Int) (w wr : World) : Prop :=
  (∀ j, j < k → wr.cell? ⟨g, j, none⟩ = some (.int .i64 (wd xs (4 * j)))) ∧ (∀ j, k ≤ j → j < q → wr.cell? ⟨g, j, none⟩ = some (.int .i64 0)) ∧ (∀ j, wr.frozen? ⟨g, j, none⟩ = false) ∧ Below g w wr
def WdsPost (xs : List Int) (w : World) (e : Ending) (w' : World) : Prop :=
  ∃ c, e = .returned (.slice (some ⟨w.heap.size, 0, none⟩) (ws xs).length c) ∧ RowI w' (.slice (some ⟨w.heap.size, 0, none⟩) (ws xs).length c) (ws xs) ∧ Below w.heap.size w w'

theorem made_cell (w : World) (n j : Nat) (h : j < n) : (w.alloc (.cells (madeCells (Value.int .i64 0).cells n) 3)).cell? ⟨w.heap.size, j, none⟩ = some (.int .i64 0) := by
  rw [World.cell?_alloc_at _ _ _ _ rfl]
  have e : madeCells (Value.int .i64 0).cells n = Array.replicate n (.int .i64 0) := by
    apply Array.ext
    · simp [size_madeCells, Value.cells]
    · intro i h1 h2
      simp [madeCells, Value.cells, Nat.mod_one]
  simp [e, h]
theorem made_frozen (w : World) (n j : Nat) : (w.alloc (.cells (madeCells (Value.int .i64 0).cells n) 3)).frozen? ⟨w.heap.size, j, none⟩ = false := by
  unfold World.frozen?
  rw [heap_alloc_new]
  simp
theorem wd_in (xs : List Int) (p : Nat) (h : Bytes xs) : -2147483648 ≤ wd xs p ∧ wd xs p ≤ 2147483647 := by
  have := acc_le h p 4
  unfold wd sgn
  split <;> omega
theorem ws_i64 (xs : List Int) (h : Bytes xs) : I64 (ws xs) := by
  intro n hn
  unfold ws at hn
  obtain ⟨i, _, rfl⟩ := List.mem_map.1 hn
  have := wd_in xs (4 * i) h
  omega

set_option maxHeartbeats 1000000 in
theorem words_any (v : Value) (xs : List Int) (w : World) (hb : RowB w v xs) (hl : xs.length ≤ 10000) :
    Calls Try.prog 33 #[v] w (WdsPost xs w) := by
  have HV := Lib.hid hb.1
  have HY := Lib.hid hb.2.1.bytes
  obtain ⟨_, _, a, c, rfl, hc⟩ := hb
  have hd : (xs.length : Int) / 4 = (xs.length / 4 : Nat) := by omega
  have hm := mkI w (xs.length / 4) (by omega)
  have HQ := Lib.hid (show 4 * (xs.length / 4) ≤ xs.length by omega)
  have HLW := Lib.hid (ws_len xs)
  have hq : xs.length / 4 ≤ 2500 := by omega
  generalize xs.length / 4 = q at hd hm HQ HLW hq
  have HI : Hid (WdsInv w.heap.size q 0 xs w (w.alloc (.cells (madeCells (Value.int .i64 0).cells q) 3))) :=
    ⟨fun j hj => absurd hj (by omega), fun j _ hj => made_cell w q j hj, fun j => made_frozen w q j, (Below.refl _ _).alloc (Nat.le_refl _) _⟩
  go_enter Try.func33, Try.ntmps33
  go_wp2
  clear hm
  generalize hg : w.heap.size = g at *
  go_loopw [11] (fun i wr => ∃ k : Nat, k ≤ q ∧ i = .int .i64 k ∧ WdsInv g q k xs w wr) (fun i _ => q - (intOf i).toNat)
  case atStart => exact ⟨0, Nat.zero_le _, rfl, HI.out⟩
  case round =>
    obtain ⟨k, hk, rfl, hi⟩ := hrel
    have HI2 := Lib.hid hi
    obtain ⟨hc1, hc2, hf, hbl⟩ := hi
    have HBL := Lib.hid hbl
    by_cases hlt : k < q
    · have hcell := hc2 k (Nat.le_refl _) hlt
      have hfk := hf k
      clear hc1 hc2 hf hbl
      have h4 : 4 * k + 4 ≤ xs.length := by have := HQ.out; omega
      have HG := Lib.hid (fun w' hv => get_yes (.slice a xs.length c) xs (4 * k) w' hv HY.out (by omega) h4)
      have e4 : ((4 * k : Nat) : Int) = 4 * (k : Int) := by omega
      rw [e4] at HG
      have HE := Lib.hid (show sgn (acc xs (4 * k) 4) = wd xs (4 * k) from rfl)
      generalize sgn (acc xs (4 * k) 4) = z at HG HE
      have hlt' : (k : Int) < q := by omega
      clear e4
      go_wp2_with fail
      refine (HG.out _ (HV.out.kept (hg ▸ HBL.out))).mono ?_
      rintro e w1 ⟨rfl, rfl⟩
      go_wp2
      go_roundw
      case rel =>
        refine ⟨k + 1, by omega, by go_num, fun j h1 => ?_, fun j h1 h2 => ?_, fun j => ?_, ?_⟩
        · by_cases hj : j = k
          · subst hj
            rw [← HE.out]
            exact World.cell?_setCell_same _ _ _ hcell
          · rw [World.cell?_setCell_other _ _ _ _ (by intro e; injection e; omega)]; exact HI2.out.1 j (by omega)
        · rw [World.cell?_setCell_other _ _ _ _ (by intro e; injection e; omega)]; exact HI2.out.2.1 j (by omega) h2
        · rw [World.frozen?_setCell]; exact HI2.out.2.2.1 j
        · exact HBL.out.setCell (Nat.le_refl g) _
      case measure => simp [intOf]; omega
    · clear hc2 hf hbl
      obtain rfl : k = q := by omega
      clear hc1
      go_wp2
      go_ret
      refine ⟨k, by rw [HLW.out, hg]; rfl, ?_, hg ▸ HBL.out⟩
      rw [hg]
      refine ⟨⟨_, _, rfl, .inr ⟨g, 0, rfl, fun i hi => ?_⟩⟩, ws_i64 xs HY.out, _, _, rfl, by rw [HLW.out]; omega⟩
      rw [HLW.out] at hi
      have h4 := HQ.out
      rw [ws_at xs i (by have := ws_len xs; rw [HLW.out] at this; omega), Nat.zero_add]
      exact HI2.out.1 i hi
end Go.Proofs.Ytbkojjbigilclaa
