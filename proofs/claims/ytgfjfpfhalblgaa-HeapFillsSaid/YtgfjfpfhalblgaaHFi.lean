/- HeapFills' walk. -/
import Derived.Test.YtgfjfpfhalblgaaHFa
import Derived.Test.YtgfjfpfhalblgaaHNn
namespace Go.Proofs.Ytgfjfpfhalblgaa
set_option maxRecDepth 1000000
open Go.ChangeShapes Go.WideShapes Go.ChangeAt Go.RowKit

/-- The heap at a loop's head. -/
def FillAt (W w : World) (c : Hp) (n : Nat) (B : List (Option Bk)) : Prop := ∃ v, HeapB W w c v n B
theorem prod_le {a b c d : Nat} (h : a ≤ c) (k : b ≤ d) : a * b ≤ c * d := Nat.mul_le_mul h k
set_option maxHeartbeats 16000000 in
theorem heapFills_walk (W : World) (x : Int) (hx : (Lit.int .u8 x).wf = true) (y : Int) (hy : (Lit.int .u8 y).wf = true) :
    Calls Try.prog 6 #[.int .u8 x, .int .u8 y] W fun e W' => e = .returned (.bool true) ∧ Below W.heap.size W W' := by
  obtain ⟨x0, x1⟩ := wf_u8 hx
  obtain ⟨y0, y1⟩ := wf_u8 hy
  obtain ⟨x, rfl⟩ := Int.eq_ofNat_of_zero_le x0
  obtain ⟨y, rfl⟩ := Int.eq_ofNat_of_zero_le y0
  have HK := Lib.hid (fun w => known_any w)
  clear hx hy x0 y0
  go_enter Try.func6, Try.ntmps6
  go_wp2_with fail
  obtain ⟨s, hs⟩ : ∃ s : Nat, 1 + (x : Int) % 9 = s := ⟨1 + x % 9, by omega⟩
  obtain ⟨k, hk⟩ : ∃ k : Nat, 2 + (y : Int) % 9 = k := ⟨2 + y % 9, by omega⟩
  obtain ⟨n, hn⟩ : ∃ n : Nat, k * s = n := ⟨_, rfl⟩
  obtain ⟨f, hf⟩ : ∃ f : Nat, (k + 1) / 2 = f := ⟨_, rfl⟩
  obtain ⟨F, hF⟩ : ∃ F : Nat, f * s = F := ⟨_, rfl⟩
  have s1 : 1 ≤ s := by omega
  have s9 : s ≤ 9 := by omega
  have k2 : 2 ≤ k := by omega
  have k10 : k ≤ 10 := by omega
  have n90 : n ≤ 90 := by have := prod_le k10 s9; omega
  have F90 : F ≤ 90 := by have := prod_le (show f ≤ 10 by omega) s9; omega
  have f10 : f ≤ 10 := by omega
  have hsk : wrap64 ((s : Int) * (k : Int)) = (n : Int) := by
    have e : (s : Int) * (k : Int) = (n : Int) := by rw [← hn, Int.natCast_mul, Int.mul_comm]
    rw [e]; unfold wrap64; omega
  rw [hs, hk, hsk]
  clear hsk
  generalize (x : Int) % 9 = x' at *
  generalize (y : Int) % 9 = y' at *
  have HN : Hid (Calls Try.prog 10 #[.int .i64 n] W (NewPost n W)) := Lib.hid (new_yes n W (by omega))
  have HA : Hid (∀ (i : Nat) (c : Hp) (v : Value) (w1 : World), i < k → HeapB W w1 c v n (FA s i) → Calls Try.prog 11 #[.pointer (some ⟨c.h, 0, none⟩), .int .i64 s] w1 (HeapPost (.tuple #[.int .i64 i, .int .i64 0]) c v n (FA s (i + 1)) w1)) :=
    Lib.hid (fun i c v w1 hi h => by
      have := alloc_yes s (i * s) (by omega) h.is (fa_first (by omega) hi hn) (by rw [FA, gb_len]; omega)
      rw [fa_next, fa_put] at this
      exact this)
  have HT : Hid (∀ (i p : Nat) (c : Hp) (v : Value) (w1 : World), i * s = p → HeapB W w1 c v n (FA s (i + 1)) → Calls Try.prog 17 #[.pointer (some ⟨c.h, 0, none⟩), .int .i64 i] w1 (Told (.int .i64 p) w1)) :=
    Lib.hid (fun i p c v w1 hp h => by
      have := at_any i h.is.m
      rw [lookI_nat, fa_at] at this
      simp only [spA, hp] at this
      exact this)
  have HU : Hid (∀ (c : Hp) (v : Value) (w1 : World), HeapB W w1 c v n (FA s k) → Calls Try.prog 11 #[.pointer (some ⟨c.h, 0, none⟩), .int .i64 1] w1 (HeapPost (.tuple #[.int .i64 0, .int .i64 3]) c v n (FA s k) w1)) :=
    Lib.hid (fun c v w1 h => alloc_full 1 (by omega) h.is (fa_full (by omega) hn))
  have HD : Hid (∀ (j q : Nat) (c : Hp) (v : Value) (w1 : World), 2 * j = q → q < k → HeapB W w1 c v n (FB s k j) → Calls Try.prog 12 #[.pointer (some ⟨c.h, 0, none⟩), .int .i64 q] w1 (HeapPost (.int .i64 0) c v n (FB s k (j + 1)) w1)) :=
    Lib.hid (fun j q c v w1 hq hlt h => by
      subst hq
      have := free_some (2 * j) _ h.is (fb_at hlt)
      rw [fb_free] at this
      exact this)
  have HR : Hid (∀ (c : Hp) (v : Value) (w1 : World), HeapB W w1 c v n (FO s k) → Calls Try.prog 18 #[.pointer (some ⟨c.h, 0, none⟩)] w1 fun e w2 => e = .returned (.tuple #[.int .i64 F, .int .i64 s]) ∧ w1 = w2) :=
    Lib.hid (fun c v w1 h => (room_any h.is.m).mono fun e w2 h => by
      obtain ⟨m, rfl, hl, rfl⟩ := h
      rw [hl.eq (fo_long (by omega) (by omega) hn), fo_cnt (by omega) hn, hf, hF]
      exact ⟨rfl, rfl⟩)
  have HU2 : Hid (∀ (c : Hp) (v : Value) (w1 : World), HeapB W w1 c v n (FO s k) → Calls Try.prog 11 #[.pointer (some ⟨c.h, 0, none⟩), .int .i64 ((s : Int) + 1)] w1 (HeapPost (.tuple #[.int .i64 0, .int .i64 3]) c v n (FO s k) w1)) :=
    Lib.hid (fun c v w1 h => alloc_full (s + 1) (by omega) h.is (fo_none (by omega) hn))
  have HR2 : Hid (∀ (m : Nat) (S : List Nat) (B' : List (Option Bk)) (c : Hp) (v : Value) (w1 : World), CompIs n (FO s k) B' m S → HeapB W w1 c v n B' → Calls Try.prog 18 #[.pointer (some ⟨c.h, 0, none⟩)] w1 fun e w2 => e = .returned (.tuple #[.int .i64 F, .int .i64 F]) ∧ w1 = w2) :=
    Lib.hid (fun m S B' c v w1 hc h => (room_any h.is.m).mono fun e w2 h => by
      obtain ⟨g1, g2, _, _⟩ := fo_comp (by omega) (by omega) hn hc
      rw [hf, hF] at g1 g2
      obtain ⟨m, rfl, hl, rfl⟩ := h
      rw [hl.eq g2, g1]
      exact ⟨rfl, rfl⟩)
  have HA2 : Hid (∀ (m : Nat) (S : List Nat) (B' : List (Option Bk)) (c : Hp) (v : Value) (w1 : World), CompIs n (FO s k) B' m S → HeapB W w1 c v n B' → ∃ (B2 : List (Option Bk)) (t : Int), Calls Try.prog 11 #[.pointer (some ⟨c.h, 0, none⟩), .int .i64 F] w1 (HeapPost (.tuple #[.int .i64 t, .int .i64 0]) c v n B2 w1)) :=
    Lib.hid (fun m S B' c v w1 hc h => by
      obtain ⟨_, _, g3, g4⟩ := fo_comp (by omega) (by omega) hn hc
      rw [hf, hF] at g3
      exact ⟨_, _, alloc_yes F _ (by omega) h.is g3 (by omega)⟩)
  have HP : Hid (∀ i : Nat, i < k → ∃ p : Nat, i * s = p ∧ p ≤ 90) := Lib.hid (fun i hi => ⟨_, rfl, by have := prod_le (show i ≤ 10 by omega) s9; omega⟩)
  have hfs : (f : Int) * (s : Int) = (F : Int) := by rw [← hF, Int.natCast_mul]
  have hfi : ((k : Int) + 1) / 2 = (f : Int) := by omega
  have HFS := Lib.hid hfs
  have HFI := Lib.hid hfi
  clear hs hk hn hf hF hfs hfi
  refine HN.out.mono ?_
  rintro e w1 p
  obtain ⟨c, rfl, h1, _⟩ := heapB_new p
  have H1 := Lib.hid h1
  clear p h1
  go_wp2_with fail
  go_loopg [9] (k + 1) (fun g s9 wr => ∃ i : Nat, s9 = .int .i64 i ∧ i ≤ k ∧ k + 1 ≤ i + g ∧ Hid (FillAt W wr c n (FA s i)))
  case atStart => exact ⟨0, rfl, Nat.zero_le _, by omega, Lib.hid ⟨_, H1.out⟩⟩
  case round =>
    obtain ⟨i, rfl, hik, hg, HI⟩ := hrel
    by_cases hlt : i < k
    · obtain ⟨v, hv⟩ := HI.out
      have HV := Lib.hid hv
      obtain ⟨p, hp, p90⟩ := HP.out i hlt
      have hp2 : (i : Int) * (s : Int) = (p : Int) := by rw [← hp, Int.natCast_mul]
      have HPP := Lib.hid hp
      clear hv hp HI
      go_wp2_with fail
      refine (HA.out i c v wr hlt HV.out).mono ?_
      rintro e w2 q
      obtain ⟨rfl, v2, h2, _⟩ := HV.out.post q
      have H2 := Lib.hid h2
      clear q h2
      go_wp2_with fail
      refine (HT.out i p c v2 w2 HPP.out H2.out).mono ?_
      rintro e w3 ⟨rfl, b3⟩
      have H3 := Lib.hid (H2.out.fresh b3)
      clear b3
      go_wp2_with fail
      go_roundg (k - i)
      case measure => omega
      case rel => exact ⟨i + 1, by go_num, by omega, by omega, Lib.hid ⟨_, H3.out⟩⟩
    · obtain rfl : i = k := by omega
      obtain ⟨v, hv⟩ := HI.out
      have HV := Lib.hid hv
      clear hv HI hik hg
      go_wp2_with fail
      refine (HU.out c v wr HV.out).mono ?_
      rintro e w2 q
      obtain ⟨rfl, v2, h2, _⟩ := HV.out.post q
      have H2 := Lib.hid h2
      clear q h2
      go_wp2_with fail
      go_loopg [14] (i + 2) (fun g s14 wr => ∃ q : Nat, s14 = .int .i64 q ∧ q ≤ i + 1 ∧ i + 2 ≤ q + g ∧ Hid (∃ j, 2 * j = q ∧ FillAt W wr c n (FB s i j)))
      case atStart => exact ⟨0, rfl, Nat.zero_le _, by omega, Lib.hid ⟨0, rfl, _, by rw [fb_zero]; exact H2.out⟩⟩
      case round =>
        obtain ⟨q, rfl, hq, hg, HI⟩ := hrel
        by_cases hlt2 : q < i
        · obtain ⟨j, hj, v, hv⟩ := HI.out
          have HJ := Lib.hid hj
          have HV3 := Lib.hid hv
          clear hj hv HI
          go_wp2_with fail
          refine (HD.out j q c v wr HJ.out hlt2 HV3.out).mono ?_
          rintro e w3 z
          obtain ⟨rfl, v3, h3, _⟩ := HV3.out.post z
          have H3 := Lib.hid h3
          clear z h3
          go_wp2_with fail
          go_roundg (i + 1 - q)
          case measure => omega
          case rel => exact ⟨q + 2, by go_num, by omega, by omega, Lib.hid ⟨j + 1, by have := HJ.out; omega, _, H3.out⟩⟩
        · obtain ⟨j, hj, v, hv⟩ := HI.out
          rw [fb_done (by omega)] at hv
          have H3 := Lib.hid hv
          have hfs := HFS.out
          have hfi := HFI.out
          clear hj hv HI hq hg
          go_wp2_with fail
          refine (HR.out c v wr H3.out).mono ?_
          rintro e w4 ⟨rfl, rfl⟩
          go_wp2_with fail
          refine (HU2.out c v wr H3.out).mono ?_
          rintro e w5 z
          obtain ⟨rfl, v5, h5, _⟩ := H3.out.post z
          have H5 := Lib.hid h5
          clear z h5
          go_wp2_with fail
          refine (compact_any H5.out.is).mono ?_
          rintro e w6 z
          obtain ⟨m, B', S, rfl, hc, h6, _⟩ := H5.out.comp z
          have HC := Lib.hid hc
          have H6 := Lib.hid h6
          clear z hc h6
          go_wp2_with fail
          refine (HR2.out m S B' c v5 w6 HC.out H6.out).mono ?_
          rintro e w7 ⟨rfl, rfl⟩
          obtain ⟨B2, t, hA⟩ := HA2.out m S B' c v5 w6 HC.out H6.out
          have HAA := Lib.hid hA
          clear hA
          go_wp2_with fail
          refine HAA.out.mono ?_
          rintro e w8 z
          obtain ⟨rfl, v8, h8, _⟩ := H6.out.post z
          have H8 := Lib.hid h8
          clear z h8
          go_wp2_with fail
          refine (HK.out w8).mono ?_
          rintro e w9 ⟨rfl, b9⟩
          have B9 := Lib.hid (H8.out.bl.trans (b9.mono H8.out.bl.size))
          clear b9
          go_wp2_with fail
          go_ret
          exact ⟨rfl, B9.out⟩
end Go.Proofs.Ytgfjfpfhalblgaa
