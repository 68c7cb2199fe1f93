/- The chapter's example: the laws' function known returns true in every world, and nothing that lay in memory before has changed. -/
import Derived.Test.YtpijefkkhhgbfaaClr
import Derived.Lib.SlBytesConst
namespace Go.Proofs.Ytpijefkkhhgbfaa
open Go.ChangeShapes Go.WideShapes Go.ChangeAt Go.RowKit

theorem sec_zero (i : Nat) : sec (fun _ => 0) i = List.replicate 64 0 := by
  apply List.ext_getElem?
  intro k
  by_cases hk : k < 64
  · rw [sec_get _ _ _ hk, List.getElem?_replicate, if_pos hk]
  · rw [List.getElem?_eq_none (by rw [sec_len]; omega), List.getElem?_eq_none (by rw [List.length_replicate]; omega)]
theorem ex_cnt : cntU (put (fun _ => 0) 1 [97]) 2 = 1 := by
  have h0 : sec (put (fun _ => 0) 1 [97]) 0 = List.replicate 64 0 := by rw [sec_put_other _ _ _ _ (by decide), sec_zero]
  have h1 : sec (put (fun _ => 0) 1 [97]) 1 ≠ List.replicate 64 0 := by rw [sec_put _ _ _ (by decide)]; decide
  rw [cntU_one h1, cntU_zero h0]
  rfl
theorem one_bytes (w : World) : Bts (fun b => b = w.heap.size) (w.alloc (.cells #[.int .u8 97] 5 (1, 2))) (.slice (some ⟨w.heap.size, 0, none⟩) 1 1) [97] := by
  refine ⟨_, 1, rfl, by simp, .inr ⟨_, 0, rfl, rfl, fun j u hu => ?_⟩⟩
  have hh : (w.alloc (.cells #[.int .u8 97] 5 (1, 2))).heap[w.heap.size]? = some (.cells #[.int .u8 97] 5 (1, 2)) := heap_alloc_new w _
  rw [Nat.zero_add, cell_of_row _ _ _ _ _ _ hh]
  match j, hu with
  | 0, hu => simpa using hu
  | j + 1, hu => simp at hu

set_option maxHeartbeats 4000000 in
set_option maxRecDepth 1000000 in
theorem known_true (w : World) : Calls Try.prog 8 #[] w fun e w' => e = .returned (.bool true) ∧ Below w.heap.size w w' := by
  have HN := Lib.hid (new_yes 2 w (by omega))
  obtain ⟨m, hm⟩ : ∃ m, w.heap.size + 1 = m := ⟨_, rfl⟩
  obtain ⟨x, hx⟩ : ∃ x, w.heap.size = x := ⟨_, rfl⟩
  have HX : Hid (w.heap.size = x ∧ x ≤ m) := ⟨hx, by omega⟩
  rw [hm, hx] at HN
  clear hm hx
  go_enter Try.func8, Try.ntmps8
  go_wp2_with fail
  refine HN.out.mono ?_
  rintro e w1 ⟨rfl, d1, b1⟩
  have D1 := Lib.hid d1
  have B1 : Hid (Below x w w1) := b1
  have hk := Lib.run_convert_bytes_const (P := Try.prog) w1 30 5 #[.int .u8 97] 1 1 Try.underlying30 Try.underlying5
  have hk : (convert 30 30 (.slice (some ⟨w1.heap.size, 0, none⟩) 1 1)).run Try.prog (w1.alloc (.cells #[.int .u8 97] 5)) = .ok (.slice (some ⟨w1.heap.size, 0, none⟩) 1 1) (w1.alloc (.cells #[.int .u8 97] 5 (1, 2))) := hk
  clear d1 b1 HN
  go_wp2_with fail
  refine (show Calls Try.prog 20 #[.pointer (some ⟨m, 0, none⟩), .int .i64 1, .slice (some ⟨w1.heap.size, 0, none⟩) 1 1] _ _ from write_yes m x 2 0 0 _ 1 _ [97] _ (D1.out.fresh ((Below.refl _ _).alloc (Nat.le_refl _) _)) (by decide) (by decide) (one_bytes w1) (by intro n hn; simp at hn; omega) (by decide)).mono ?_
  rintro e w2 ⟨rfl, d2, o2⟩
  have D2 := Lib.hid d2
  have B2 : Hid (Below x w w2) := by
    have hs := B1.out.size
    have := HX.out
    exact (B1.out.alloc (by omega) _).trans (o2.below (fun i hi h => by rcases h with h | h <;> omega) (by simp; omega))
  clear d2 o2 D1 B1
  go_wp2_with fail
  refine (show Calls Try.prog 16 #[.pointer (some ⟨m, 0, none⟩), .int .i64 1] _ _ from read_yes m x 2 0 1 _ 1 w2 D2.out (by decide) (by decide)).mono ?_
  rintro e w3 ⟨g, cp, rfl, hown, d3, o3⟩
  have c0 : w3.cell? ⟨g, 0, none⟩ = some (.int .u8 97) := by
    have := hown.cells (g := g) rfl 0 (.int .u8 97) (by rw [sec_put _ _ _ (by decide)]; rfl)
    rwa [add_plain] at this
  have c1 : w3.cell? ⟨g, 1, none⟩ = some (.int .u8 0) := by
    have := hown.cells (g := g) rfl 1 (.int .u8 0) (by rw [sec_put _ _ _ (by decide)]; rfl)
    rwa [add_plain] at this
  have D3 := Lib.hid d3
  have B3 : Hid (Below x w w3) := by
    have hs := B2.out.size
    have := HX.out
    exact B2.out.trans (o3.below (fun i hi h => by omega) (by omega))
  have hg : g < w3.heap.size := World.block_lt_of_cell? _ _ c0
  have C0 := Lib.hid c0
  have C1 := Lib.hid c1
  clear d3 o3 hown c0 c1 D2 B2
  go_wp2_with fail
  refine (read_nil _ _).mono ?_
  rintro e w4 ⟨rfl, b4⟩
  have c0 : w4.cell? ⟨g, 0, none⟩ = some (.int .u8 97) := (b4.cell (p := ⟨g, 0, none⟩) hg).trans C0.out
  have c1 : w4.cell? ⟨g, 1, none⟩ = some (.int .u8 0) := (b4.cell (p := ⟨g, 1, none⟩) hg).trans C1.out
  have D4 := Lib.hid (D3.out.fresh b4)
  have B4 : Hid (Below x w w4) := by
    have hs := B3.out.size
    have := HX.out
    exact B3.out.trans (b4.mono (by omega))
  have HU := used_any m x 2 1 1 _ w4 D4.out
  rw [ex_cnt] at HU
  have HU := Lib.hid HU
  clear b4 C0 C1 D3 B3
  go_wp2_with fail
  refine HU.out.mono ?_
  rintro e w5 ⟨rfl, b5⟩
  have D5 := Lib.hid (D4.out.fresh b5)
  have B5 : Hid (Below x w w5) := by
    have hs := B4.out.size
    have := HX.out
    exact B4.out.trans (b5.mono (by omega))
  clear b5
  go_wp2_with fail
  refine (len_any m x 2 1 1 _ w5 D5.out).mono ?_
  rintro e w6 ⟨rfl, rfl⟩
  go_wp2_with fail
  go_ret
  exact ⟨rfl, by rw [HX.out.1]; exact B5.out⟩
end Go.Proofs.Ytpijefkkhhgbfaa
