/- What slices.SortFunc does to a row of numbers, with a method as the comparison; and to no row. -/
import Derived.Test.YtgfjfpfhalblgaaHSe
namespace Go.Proofs.Ytgfjfpfhalblgaa
set_option maxRecDepth 1000000
open Go.ChangeShapes Go.WideShapes Go.ChangeAt Go.RowKit

theorem insertion_nil (fv : Value) (w : World) : Calls Try.prog 38 #[.slice none 0 0, .int .i64 0, .int .i64 0, fv] w fun e w' => e = .returned (.tuple #[]) ∧ w = w' := by
  go_enter Try.func38, Try.ntmps38
  go_wp2
  go_loopg [8] 1 (fun g s8 wr => s8 = .int .i64 1 ∧ w = wr)
  case atStart => exact ⟨by first | rfl | go_num, rfl⟩
  case round =>
    obtain ⟨rfl, rfl⟩ := hrel
    go_wp2
    go_end0
    exact ⟨rfl, rfl⟩
theorem pdq_nil (fv : Value) (w : World) : Calls Try.prog 35 #[.slice none 0 0, .int .i64 0, .int .i64 0, .int .i64 0, fv] w fun e w' => e = .returned (.tuple #[]) ∧ w = w' := by
  have HI := Lib.hid (fun (w : World) => insertion_nil fv w)
  go_enter Try.func35, Try.ntmps35
  go_wp2
  go_loopg [1, 2, 3, 10, 11] 1 (fun g s1 s2 s3 s10 s11 wr => s1 = .int .i64 0 ∧ s2 = .int .i64 0 ∧ s3 = .int .i64 0 ∧ s10 = .bool true ∧ s11 = .bool true ∧ w = wr)
  case atStart => exact ⟨rfl, rfl, rfl, rfl, rfl, rfl⟩
  case round =>
    obtain ⟨rfl, rfl, rfl, rfl, rfl, rfl⟩ := hrel
    go_wp2_with fail
    refine (HI.out _).mono ?_
    rintro e w1 ⟨rfl, rfl⟩
    go_wp2_with fail
    (try simp only [Exit.inBlock, Exit.then]); refine bodyPost_ret (results_none rfl _ _ _) rfl ?_
    exact ⟨rfl, rfl⟩
theorem bitLen_zero : Lib.bitLen 0 = 0 := by kernel_rfl
theorem sort_nil (fv : Value) (w : World) : Calls Try.prog 33 #[.slice none 0 0, fv] w fun e w' => e = .returned (.tuple #[]) ∧ w = w' := by
  have HP := Lib.hid (fun (w : World) => pdq_nil fv w)
  have HL : Hid (∀ w : World, Calls Try.prog 36 #[.int .u64 0] w fun e w' => e = .returned (.int .i64 0) ∧ w = w') := fun w => by
    have := len_any 0 w (by omega) (by omega)
    rw [show (0 : Int).toNat = 0 from rfl, bitLen_zero] at this; exact this
  go_enter Try.func33, Try.ntmps33
  go_wp2_with fail
  refine (HL.out _).mono ?_
  rintro e w1 ⟨rfl, rfl⟩
  go_wp2_with fail
  refine (HP.out _).mono ?_
  rintro e w1 ⟨rfl, rfl⟩
  go_wp2_with fail
  go_end0
  exact ⟨rfl, rfl⟩
theorem bitLen_small {n : Nat} (hn : n ≤ 1000000) : ∃ s : Nat, Lib.bitLen n = s ∧ s ≤ 64 := by
  rcases Nat.eq_zero_or_pos n with h | h
  · subst h; exact ⟨0, bitLen_zero, by omega⟩
  · obtain ⟨s, h1, h2, h3, h4⟩ := bitLen_pow h (by omega)
    exact ⟨s, h1, by omega⟩
set_option maxHeartbeats 2000000 in
theorem sort_any (w0 : World) (blk off n cap M : Nat) (K : Nat → Int) (hp : Value) (hC : CmpOk w0 blk K M hp) (hn : n ≤ 1000000) (D : Nat → Nat) (w : World) (h : Srt w0 blk off n K M D w) :
    Calls Try.prog 33 #[.slice (some ⟨blk, off, none⟩) n cap, .func (.func 34) #[hp] #[]] w (SortPost w0 blk off n K M 0 n D) := by
  obtain ⟨s, hs1, hs2⟩ := bitLen_small hn
  have HP : Hid (Calls Try.prog 35 #[.slice (some ⟨blk, off, none⟩) n cap, .int .i64 0, .int .i64 n, .int .i64 s, .func (.func 34) #[hp] #[]] w (SortPost w0 blk off n K M 0 n D)) :=
    Lib.hid (pdq_any w0 blk off n cap M K hp hC hn (n + 1) 0 n s D w h (fun h0 => by omega) (by omega) (Nat.le_refl _) (by omega) hs2)
  have HL : Hid (Calls Try.prog 36 #[.int .u64 n] w fun e w' => e = .returned (.int .i64 s) ∧ w = w') := by
    have := len_any n w (by omega) (by omega)
    rw [Int.toNat_natCast, hs1] at this; exact Lib.hid this
  have hu : IntKind.u64.wrap (n : Int) = n := by
    have : IntKind.u64.wrap (n : Int) = (n : Int) % 18446744073709551616 := rfl
    rw [this]; omega
  clear h hs1
  go_enter Try.func33, Try.ntmps33
  go_wp2_with fail
  refine HL.out.mono ?_
  rintro e w1 ⟨rfl, rfl⟩
  go_wp2_with fail
  refine HP.out.mono ?_
  rintro e w2 ⟨rfl, D', s2, sh2, so2⟩
  have S2 := Lib.hid s2
  have SH2 := Lib.hid sh2
  have SO2 := Lib.hid so2
  clear s2 sh2 so2
  go_wp2_with fail
  go_end0
  exact ⟨rfl, D', S2.out, SH2.out, SO2.out⟩
end Go.Proofs.Ytgfjfpfhalblgaa
