/- What Clear and Used of package disk do. No condition but those that each statement names. -/
import Derived.Test.YtkjpemgoiobeeaaDoorDWr
namespace Go.Proofs.YtkjpemgoiobeeaaDoor
set_option maxRecDepth 1000000
open Go.ChangeShapes Go.WideShapes Go.ChangeAt Go.RowKit

/-- A disk with these sectors cleared. -/
def clr (D : Nat → Int) (ls : List Int) : Nat → Int := ls.foldl (fun D i => put D i.toNat []) D
theorem clr_snoc (D : Nat → Int) (ls : List Int) (k : Nat) (h : k < ls.length) : clr D (ls.take (k + 1)) = put (clr D (ls.take k)) ls[k].toNat [] := by
  rw [List.take_succ_eq_append_getElem h]
  unfold clr
  rw [List.foldl_append]
  rfl
theorem inB_at {n : Nat} {ls : List Int} (h : inB n ls = true) {k : Nat} (hk : k < ls.length) : ∃ i : Nat, ls[k] = (i : Int) ∧ i < n := by
  have := List.all_eq_true.1 h _ (List.getElem_mem hk)
  have h2 : 0 ≤ ls[k] ∧ ls[k] < n := by simpa using this
  exact ⟨ls[k].toNat, by omega, by omega⟩
theorem over_clear (D : Nat → Int) (i : Nat) : over D (64 * i) (List.replicate 64 0) = put D i [] := by
  have h := over_put D i [] (by simp)
  have e : over D (64 * i) [] = D := by
    funext j
    simp only [over]
    rw [if_neg (by simp)]
  rw [e] at h
  exact h

theorem clear_nil (v : Value) (w : World) : Calls Tryd.prog 49 #[.pointer none, v] w fun e w' => e = .returned (.int .i64 1) ∧ w = w' := by
  go_enter Tryd.func49, Tryd.ntmps49
  go_wp2_with (go_at_call 45; refine (dcheck_nil _ _).mono ?_; rintro e w' ⟨rfl, rfl⟩)
  go_ret
  exact ⟨rfl, rfl⟩
theorem clear_no {N : Nat → Prop} (m x n r c : Nat) (D : Nat → Int) (v : Value) (ls : List Int) (w : World) (h : DiskAt w m x n r c D) (hv : Ints N w v ls) (hl : ls.length ≤ 1000000) (hi : inB n ls = false) :
    Calls Tryd.prog 49 #[.pointer (some ⟨m, 0, none⟩), v] w fun e w' => e = .returned (.int .i64 4) ∧ w = w' := by
  have hc := check_any m x n r c D v ls w h hv hl
  rw [chk_no hi] at hc
  have HC := Lib.hid hc
  clear hc h hv hi
  go_enter Tryd.func49, Tryd.ntmps49
  go_wp2_with (go_at_call 45; refine HC.out.mono ?_; rintro e w' ⟨rfl, rfl⟩)
  go_ret
  exact ⟨rfl, rfl⟩

/-- What a clearing that may be leaves. -/
def ClearPost (m x n r c : Nat) (D : Nat → Int) (w : World) (e : Ending) (w' : World) : Prop := e = .returned (.int .i64 0) ∧ DiskAt w' m x n r c D ∧ Only (dk m x) w w'
def ClearInv (m x n r c : Nat) (D : Nat → Int) (w w' : World) : Prop := DiskAt w' m x n r c D ∧ Only (dk m x) w w'

set_option maxHeartbeats 1000000 in
theorem clear_yes {N : Nat → Prop} (m x n r c : Nat) (D : Nat → Int) (v : Value) (ls : List Int) (w : World) (h : DiskAt w m x n r c D) (hv : Ints N w v ls) (hN : ∀ b, N b → ¬ dk m x b) (hl : ls.length ≤ 1000000) (hi : inB n ls = true) :
    Calls Tryd.prog 49 #[.pointer (some ⟨m, 0, none⟩), v] w (ClearPost m x n r c (clr D ls) w) := by
  have hc := check_any m x n r c D v ls w h hv hl
  rw [chk_yes hi] at hc
  have HC := Lib.hid hc
  have HV := Lib.hid hv
  have HD := Lib.hid h
  have HI := Lib.hid hi
  have HN := Lib.hid hN
  obtain ⟨a, cp, rfl, hcp, _⟩ := hv
  rw [List.length_map] at HV HC hcp ⊢
  clear hc h hi hN
  go_enter Tryd.func49, Tryd.ntmps49
  go_wp2_with fail
  refine HC.out.mono ?_
  rintro e w' ⟨rfl, rfl⟩
  go_wp2_with fail
  go_loopw [16] (fun i wr => ∃ k : Nat, k ≤ ls.length ∧ i = .int .i64 k ∧ ClearInv m x n r c (clr D (ls.take k)) w wr) (fun i _ => ls.length - (intOf i).toNat)
  case atStart => exact ⟨0, Nat.zero_le _, rfl, HD.out, Only.refl _ _⟩
  case round =>
    obtain ⟨k, hk, rfl, h1, o1⟩ := hrel
    by_cases hlt : k < ls.length
    · have hv1 := HV.out.only o1 HN.out
      obtain ⟨b, off, c', he, _, _, _, hc⟩ := Vals.at_ (k := k) hv1 (by simpa using hlt)
      rw [List.length_map] at he
      injection he with e1 e2 e3
      subst e1 e3
      rw [List.getElem_map] at hc
      obtain ⟨i, hi, hin⟩ := inB_at HI.out hlt
      have HS : Hid (clr D (ls.take (k + 1)) = put (clr D (ls.take k)) i []) := by
        show _ = _
        rw [clr_snoc D ls k hlt, hi, Int.toNat_natCast]
      rw [hi] at hc
      have HT := Lib.hid (sector_any m x n r c _ i wr h1 hin)
      have hcl := fun ty => clear_run h1 (some ⟨x, 64 * i, none⟩) (64 * i) 64 64 (by omega) (fun _ => rfl) ty
      have h2 := h1.over (64 * i) (List.replicate 64 0) (zeros_bytes _) (by rw [List.length_replicate]; omega)
      rw [over_clear] at h2
      have o2 : Only (dk m x) w (wr.setCells x (64 * i) ((List.replicate 64 0).map (Value.int .u8))) := Only.setCells x (.inl (.inr rfl)) _ _ _ o1
      generalize wr.setCells x (64 * i) ((List.replicate 64 0).map (Value.int .u8)) = w2 at hcl h2 o2
      have H2 := Lib.hid h2
      have O2 := Lib.hid o2
      clear h2 o2 h1 o1 hi hv1
      go_wp2_with fail
      refine HT.out.mono ?_
      rintro e w' ⟨rfl, rfl⟩
      go_wp2_with fail
      go_roundw
      case rel => exact ⟨k + 1, by omega, by go_num, by rw [HS.out]; exact H2.out, O2.out⟩
      case measure => simp [intOf]; omega
    · rw [List.take_of_length_le (by omega)] at h1
      have H1 := Lib.hid h1
      have O1 := Lib.hid o1
      clear h1 o1
      go_wp2_with fail
      go_ret
      exact ⟨rfl, H1.out, O1.out⟩

theorem cntU_zero {D : Nat → Int} {n : Nat} (h : sec D n = List.replicate 64 0) : cntU D (n + 1) = cntU D n := by rw [cntU, if_pos h]; rfl
theorem cntU_one {D : Nat → Int} {n : Nat} (h : sec D n ≠ List.replicate 64 0) : cntU D (n + 1) = cntU D n + 1 := by rw [cntU, if_neg h]
theorem zeros_made (w : World) (n : Nat) : Bts (fun b => b = w.heap.size) (w.alloc (.cells (madeCells (Value.int .u8 0).cells n) 5)) (.slice (some ⟨w.heap.size, 0, none⟩) n n) (List.replicate n 0) := by
  refine ⟨_, n, by simp, by simp, .inr ⟨_, 0, rfl, rfl, fun j u hu => ?_⟩⟩
  rw [List.map_replicate, List.getElem?_replicate] at hu
  split at hu
  · rw [Nat.zero_add, made_cell w n j (by omega)]; exact hu
  · cases hu

end Go.Proofs.YtkjpemgoiobeeaaDoor
