/- What the function flip of package bits does to a map: those among c elements from f on that are free are taken, and those that are taken are free; nothing else changes. No condition but that they are elements. -/
import Derived.Test.YtccpmaahnfgkeaaGreatDoorBMap
import Derived.Deep.RegionWith
import Derived.BigRegion
namespace Go.Proofs.YtccpmaahnfgkeaaGreatDoor
open Go.RowKit

/-- Turned up to b. -/
def flipTo (S : Nat → Bool) (f c b : Nat) : Nat → Bool := fun i => S i ^^ (inR f c i && decide (i < b))
theorem flipTo_lo (S : Nat → Bool) (f c b : Nat) (h : b ≤ f) : flipTo S f c b = S := by
  funext i
  have : (inR f c i && decide (i < b)) = false := by simp [inR]; omega
  simp [flipTo, this]
theorem flipTo_hi (S : Nat → Bool) (f c b : Nat) (h : f + c ≤ b) : flipTo S f c b = flipS S f c := by
  funext i
  have : (inR f c i && decide (i < b)) = inR f c i := by simp [inR]; omega
  simp [flipTo, flipS, this]

theorem MapAt.put {w : World} {m x n j : Nat} {S T : Nat → Bool} (h : MapAt w m x n S) (hj : j < (n + 63) / 64) (hT : ∀ i, i / 64 ≠ j → T i = S i) (ho : ∀ i, n ≤ i → T i = false) :
    MapAt (w.setCell ⟨x, j, none⟩ (.int .u64 (wd T j))) m x n T := by
  have ha := h.apart
  refine ⟨?_, ?_, fun k hk => ?_, fun k => by rw [World.frozen?_setCell]; exact h.thaw k, ha, h.small, ho, by rw [World.size_setCell]; exact h.mlt, by rw [World.size_setCell]; exact h.xlt⟩
  · rw [World.cell?_setCell_other _ _ _ _ (fun e => ha (congrArg Addr.block e).symm)]; exact h.len
  · rw [World.cell?_setCell_other _ _ _ _ (fun e => ha (congrArg Addr.block e).symm)]; exact h.row
  · by_cases e : k = j
    · subst e; exact World.cell?_setCell_same _ _ _ (h.word k hj)
    · rw [World.cell?_setCell_other _ _ _ _ (fun e' => e (congrArg Addr.off e').symm), h.word k hk, wd_congr (T := T) (fun i hi => (hT _ (by omega)).symm)]

theorem xor_mask (S : Nat → Bool) (f c j : Nat) (h1 : f < 64 * j + 64) (_h2 : 64 * j < f + c) :
    bits BinOp.xor IntKind.u64 (wd (flipTo S f c (64 * j)) j : Int) (maskN (f - 64 * j) (min (f + c - 64 * j) 64) : Int) = (wd (flipTo S f c (64 * (j + 1))) j : Int) := by
  rw [bits_xor_u64_nat _ _ (wd_lt _ j) (maskN_lt _ _)]
  refine congrArg (fun n : Nat => (n : Int)) (eq_wd (Nat.xor_lt_two_pow (n := 64) (wd_lt _ j) (maskN_lt _ _)) fun k hk => ?_)
  rw [Nat.testBit_xor, wd_bit _ j k hk, maskN_bit _ _ k (by omega) hk]
  simp only [flipTo, inR]
  have e1 : decide (64 * j + k < 64 * j) = false := by simp
  have e2 : decide (64 * j + k < 64 * (j + 1)) = true := by simp; omega
  rw [e1, e2, Bool.and_false, Bool.xor_false, Bool.and_true]
  refine congrArg (fun b : Bool => S (64 * j + k) ^^ b) (decide_eq_decide.2 ?_)
  omega
theorem flipTo_word (S : Nat → Bool) (f c j i : Nat) (h : i / 64 ≠ j) : flipTo S f c (64 * (j + 1)) i = flipTo S f c (64 * j) i := by
  simp only [flipTo]
  refine congrArg (fun b : Bool => S i ^^ (inR f c i && b)) (decide_eq_decide.2 ?_)
  omega
theorem flipTo_out (S : Nat → Bool) (n f c b i : Nat) (h : f + c ≤ n) (hi : n ≤ i) (hS : S i = false) : flipTo S f c b i = false := by
  have : inR f c i = false := by simp [inR]; omega
  simp [flipTo, this, hS]

set_option maxHeartbeats 1000000 in
theorem flip_any (m x n : Nat) (S : Nat → Bool) (f c : Nat) (w : World) (h : MapAt w m x n S) (hb : f + c ≤ n) :
    Calls Tryz.prog 112 #[.pointer (some ⟨m, 0, none⟩), .int .i64 f, .int .i64 c] w fun e w' => e = .returned (.tuple #[]) ∧ MapAt w' m x n (flipS S f c) ∧ But x w w' := by
  have hs := h.small
  have ha := h.apart
  go_enter Tryz.func112, Tryz.ntmps112
  go_wp2
  go_loopw [6] (fun i wr => ∃ j : Nat, f / 64 ≤ j ∧ 64 * j ≤ f + c + 63 ∧ i = .int .i64 j ∧ MapAt wr m x n (flipTo S f c (64 * j)) ∧ But x w wr)
    (fun i _ => 2000 - (intOf i).toNat)
  case atStart => exact ⟨f / 64, Nat.le_refl _, by omega, by go_num, by rw [flipTo_lo S f c _ (by omega)]; exact h, But.refl _ _⟩
  case round =>
    obtain ⟨j, hj1, hj2, rfl, hm, hbut⟩ := hrel
    by_cases hlt : 64 * j < f + c
    · obtain ⟨L, hl1, hl2, hrow, hword⟩ := hm.open
      have hjL : j < L := by omega
      have hwj := hword j hjL
      have hfz := hm.thaw j
      have hjL' : (j : Int) < L := by omega
      have E := xor_mask S f c j (by omega) hlt
      have HP : Hid (MapAt (wr.setCell ⟨x, j, none⟩ (.int .u64 (wd (flipTo S f c (64 * (j + 1))) j))) m x n (flipTo S f c (64 * (j + 1)))) :=
        hm.put (by omega) (fun i hi => flipTo_word S f c j i hi) (fun i hi => flipTo_out S n f c _ i hb hi (h.out i hi))
      have HM := Lib.hid (fun w => mask_any j f c w (by omega) (by omega) (by omega) (by omega) hlt)
      have HB := Lib.hid (hbut.setCell ⟨x, j, none⟩ rfl (.int .u64 (wd (flipTo S f c (64 * (j + 1))) j)))
      clear hword hm hbut
      generalize maskN (f - 64 * j) (min (f + c - 64 * j) 64) = M at E HM
      generalize wd (flipTo S f c (64 * j)) j = X at E hwj
      generalize wd (flipTo S f c (64 * (j + 1))) j = Y at E HP HB
      go_wp2
      go_region_with (go_at_call 84; refine (HM.out _).mono ?_; rintro e w5 ⟨rfl, nd, rfl⟩)
      all_goals
        go_wp2
        go_roundw
        case rel => exact ⟨j + 1, by omega, by omega, by go_num, HP.out.heap rfl, HB.out.heap rfl rfl rfl rfl⟩
        case measure => simp [intOf]; omega
    · have HM := Lib.hid hm
      have HB := Lib.hid hbut
      clear hm hbut
      go_wp2
      go_end0
      exact ⟨rfl, by rw [← flipTo_hi S f c (64 * j) (by omega)]; exact HM.out, HB.out⟩
end Go.Proofs.YtccpmaahnfgkeaaGreatDoor
