/- What Clear and Used of package disk do. No condition but those that each statement names. -/
import Derived.Test.YtpijefkkhhgbfaaWr
namespace Go.Proofs.Ytpijefkkhhgbfaa
open Go.ChangeShapes Go.WideShapes Go.ChangeAt Go.RowKit

/-- A disk with these sectors cleared. -/
def clr (D : Nat → Int) (ls : List Int) : Nat → Int := ls.foldl (fun D i => put D i.toNat []) D
theorem clr_snoc (D : Nat → Int) (ls : List Int) (k : Nat) (h : k < ls.length) : clr D (ls.take (k + 1)) = put (clr D (ls.take k)) ls[k].toNat [] := by
  rw [List.take_succ_eq_append_getElem h]
  unfold clr
  rw [List.foldl_append]
  rfl
theorem inB_at {n : Nat} {ls : List Int} (h : inB n ls = true) {k : Nat} (hk : k < ls.length) : ∃ i : Nat, ls[k] = (i : Int) ∧ i < n := by
  have := List.all_eq_true.1 h _ (List.getElem_mem hk)
  have h2 : 0 ≤ ls[k] ∧ ls[k] < n := by simpa using this
  exact ⟨ls[k].toNat, by omega, by omega⟩
theorem over_clear (D : Nat → Int) (i : Nat) : over D (64 * i) (List.replicate 64 0) = put D i [] := by
  have h := over_put D i [] (by simp)
  have e : over D (64 * i) [] = D := by
    funext j
    simp only [over]
    rw [if_neg (by simp)]
  rw [e] at h
  exact h

theorem clear_nil (v : Value) (w : World) : Calls Try.prog 21 #[.pointer none, v] w fun e w' => e = .returned (.int .i64 1) ∧ w = w' := by
  go_enter Try.func21, Try.ntmps21
  go_wp2_with (go_at_call 23; refine (check_nil _ _).mono ?_; rintro e w' ⟨rfl, rfl⟩)
  go_ret
  exact ⟨rfl, rfl⟩
theorem clear_no {N : Nat → Prop} (m x n r c : Nat) (D : Nat → Int) (v : Value) (ls : List Int) (w : World) (h : DiskAt w m x n r c D) (hv : Ints N w v ls) (hl : ls.length ≤ 1000000) (hi : inB n ls = false) :
    Calls Try.prog 21 #[.pointer (some ⟨m, 0, none⟩), v] w fun e w' => e = .returned (.int .i64 4) ∧ w = w' := by
  have hc := check_any m x n r c D v ls w h hv hl
  rw [chk_no hi] at hc
  have HC := Lib.hid hc
  clear hc h hv hi
  go_enter Try.func21, Try.ntmps21
  go_wp2_with (go_at_call 23; refine HC.out.mono ?_; rintro e w' ⟨rfl, rfl⟩)
  go_ret
  exact ⟨rfl, rfl⟩

/-- What a clearing that may be leaves. -/
def ClearPost (m x n r c : Nat) (D : Nat → Int) (w : World) (e : Ending) (w' : World) : Prop := e = .returned (.int .i64 0) ∧ DiskAt w' m x n r c D ∧ Only (dk m x) w w'
def ClearInv (m x n r c : Nat) (D : Nat → Int) (w w' : World) : Prop := DiskAt w' m x n r c D ∧ Only (dk m x) w w'

set_option maxHeartbeats 1000000 in
theorem clear_yes {N : Nat → Prop} (m x n r c : Nat) (D : Nat → Int) (v : Value) (ls : List Int) (w : World) (h : DiskAt w m x n r c D) (hv : Ints N w v ls) (hN : ∀ b, N b → ¬ dk m x b) (hl : ls.length ≤ 1000000) (hi : inB n ls = true) :
    Calls Try.prog 21 #[.pointer (some ⟨m, 0, none⟩), v] w (ClearPost m x n r c (clr D ls) w) := by
  have hc := check_any m x n r c D v ls w h hv hl
  rw [chk_yes hi] at hc
  have HC := Lib.hid hc
  have HV := Lib.hid hv
  have HD := Lib.hid h
  have HI := Lib.hid hi
  have HN := Lib.hid hN
  obtain ⟨a, cp, rfl, hcp, _⟩ := hv
  rw [List.length_map] at HV HC hcp ⊢
  clear hc h hi hN
  go_enter Try.func21, Try.ntmps21
  go_wp2_with fail
  refine HC.out.mono ?_
  rintro e w' ⟨rfl, rfl⟩
  go_wp2_with fail
  go_loopw [16] (fun i wr => ∃ k : Nat, k ≤ ls.length ∧ i = .int .i64 k ∧ ClearInv m x n r c (clr D (ls.take k)) w wr) (fun i _ => ls.length - (intOf i).toNat)
  case atStart => exact ⟨0, Nat.zero_le _, rfl, HD.out, Only.refl _ _⟩
  case round =>
    obtain ⟨k, hk, rfl, h1, o1⟩ := hrel
    by_cases hlt : k < ls.length
    · have hv1 := HV.out.only o1 HN.out
      obtain ⟨b, off, c', he, _, _, _, hc⟩ := Vals.at_ (k := k) hv1 (by simpa using hlt)
      rw [List.length_map] at he
      injection he with e1 e2 e3
      subst e1 e3
      rw [List.getElem_map] at hc
      obtain ⟨i, hi, hin⟩ := inB_at HI.out hlt
      have HS : Hid (clr D (ls.take (k + 1)) = put (clr D (ls.take k)) i []) := by
        show _ = _
        rw [clr_snoc D ls k hlt, hi, Int.toNat_natCast]
      rw [hi] at hc
      have HT := Lib.hid (sector_any m x n r c _ i wr h1 hin)
      have hcl := fun ty => clear_run h1 (some ⟨x, 64 * i, none⟩) (64 * i) 64 64 (by omega) (fun _ => rfl) ty
      have h2 := h1.over (64 * i) (List.replicate 64 0) (zeros_bytes _) (by rw [List.length_replicate]; omega)
      rw [over_clear] at h2
      have o2 : Only (dk m x) w (wr.setCells x (64 * i) ((List.replicate 64 0).map (Value.int .u8))) := Only.setCells x (.inl (.inr rfl)) _ _ _ o1
      generalize wr.setCells x (64 * i) ((List.replicate 64 0).map (Value.int .u8)) = w2 at hcl h2 o2
      have H2 := Lib.hid h2
      have O2 := Lib.hid o2
      clear h2 o2 h1 o1 hi hv1
      go_wp2_with fail
      refine HT.out.mono ?_
      rintro e w' ⟨rfl, rfl⟩
      go_wp2_with fail
      go_roundw
      case rel => exact ⟨k + 1, by omega, by go_num, by rw [HS.out]; exact H2.out, O2.out⟩
      case measure => simp [intOf]; omega
    · rw [List.take_of_length_le (by omega)] at h1
      have H1 := Lib.hid h1
      have O1 := Lib.hid o1
      clear h1 o1
      go_wp2_with fail
      go_ret
      exact ⟨rfl, H1.out, O1.out⟩

theorem cntU_zero {D : Nat → Int} {n : Nat} (h : sec D n = List.replicate 64 0) : cntU D (n + 1) = cntU D n := by rw [cntU, if_pos h]; rfl
theorem cntU_one {D : Nat → Int} {n : Nat} (h : sec D n ≠ List.replicate 64 0) : cntU D (n + 1) = cntU D n + 1 := by rw [cntU, if_neg h]
theorem zeros_made (w : World) (n : Nat) : Bts (fun b => b = w.heap.size) (w.alloc (.cells (madeCells (Value.int .u8 0).cells n) 5)) (.slice (some ⟨w.heap.size, 0, none⟩) n n) (List.replicate n 0) := by
  refine ⟨_, n, by simp, by simp, .inr ⟨_, 0, rfl, rfl, fun j u hu => ?_⟩⟩
  rw [List.map_replicate, List.getElem?_replicate] at hu
  split at hu
  · rw [Nat.zero_add, made_cell w n j (by omega)]; exact hu
  · cases hu

set_option maxHeartbeats 1000000 in
theorem used_any (m x n r c : Nat) (D : Nat → Int) (w : World) (h : DiskAt w m x n r c D) :
    Calls Try.prog 17 #[.pointer (some ⟨m, 0, none⟩)] w fun e w' => e = .returned (.int .i64 (cntU D n)) ∧ Below w.heap.size w w' := by
  have hm := mk_bytes w 64 (by omega)
  have hb0 : Below w.heap.size w (w.alloc (.cells (madeCells (Value.int .u8 0).cells 64) 5)) := (Below.refl _ _).alloc (Nat.le_refl _) _
  have hz := zeros_made w 64
  have h1 := h.fresh hb0
  have hs := h.small
  obtain ⟨z, hz0⟩ : ∃ z, z = w.heap.size := ⟨_, rfl⟩
  have HZ0 := Lib.hid hz0
  rw [← hz0] at hm hz
  generalize w.alloc (.cells (madeCells (Value.int .u8 0).cells 64) 5) = w1 at hm hb0 hz h1
  have hm : (Instr.makeSlice 30 (.int .i64 64) (.int .i64 64)).run Try.prog w = .ok (.slice (some ⟨z, 0, none⟩) 64 64) w1 := hm
  have HZ := Lib.hid hz
  have H1 := Lib.hid h1
  have HB := Lib.hid hb0
  have HL := Lib.hid (len_any m x n r c D w1 h1)
  clear h hz h1 hb0 hz0
  go_enter Try.func17, Try.ntmps17
  go_wp2_with fail
  refine HL.out.mono ?_
  rintro e w' ⟨rfl, rfl⟩
  go_wp2_with fail
  go_loop [4, 9] (fun t i => ∃ k : Nat, k ≤ n ∧ i = .int .i64 k ∧ t = .int .i64 (cntU D k)) (fun _ i => n - (intOf i).toNat)
  case atStart => exact ⟨0, Nat.zero_le _, rfl, rfl⟩
  case round =>
    obtain ⟨k, hk, rfl, rfl⟩ := hrel
    have hu := cntU_le D k
    by_cases hlt : k < n
    · have HT := Lib.hid (sector_any m x n r c D k w1 H1.out hlt)
      by_cases hq : sec D k = List.replicate 64 0
      · have HE := Lib.hid (equal_eq _ _ _ w1 (by rw [← hq]; exact H1.out.sec hlt) HZ.out)
        have HS := Lib.hid (cntU_zero hq)
        clear hq
        generalize cntU D k = q at HS hu ⊢
        go_wp2_with fail
        refine HT.out.mono ?_
        rintro e w' ⟨rfl, rfl⟩
        go_wp2_with fail
        refine HE.out.mono ?_
        rintro e w' ⟨rfl, rfl⟩
        go_wp2_with fail
        go_round
        case rel => exact ⟨k + 1, by omega, by go_num, by rw [HS.out]⟩
        case measure => simp [intOf]; omega
      · have HE := Lib.hid (equal_ne _ _ _ _ w1 (H1.out.sec hlt) HZ.out (sec_bytes H1.out.rng k) (zeros_bytes 64) hq)
        have HS := Lib.hid (cntU_one hq)
        clear hq
        generalize cntU D k = q at HS hu ⊢
        go_wp2_with fail
        refine HT.out.mono ?_
        rintro e w' ⟨rfl, rfl⟩
        go_wp2_with fail
        refine HE.out.mono ?_
        rintro e w' ⟨rfl, rfl⟩
        go_wp2_with fail
        go_round
        case rel => exact ⟨k + 1, by omega, by go_num, by rw [HS.out]; go_num⟩
        case measure => simp [intOf]; omega
    · have : k = n := by omega
      subst this
      go_wp2_with fail
      go_ret
      exact ⟨rfl, HB.out⟩
end Go.Proofs.Ytpijefkkhhgbfaa
