/- Plain facts that the laws of layer 13 rest on. -/
import Derived.Test.YtbfacdfmanffdaaGreatDoorGLa
namespace Go.Proofs.YtbfacdfmanffdaaGreatDoor
set_option maxRecDepth 1000000
open Go.ChangeShapes Go.WideShapes Go.ChangeAt Go.RowKit

theorem right_val {A : List Int} (hb : Bytes A) (h : rightB A = true) : dig (val A).toNat = A := by
  refine dig_val hb fun d hd => ?_
  have := (right_len h).2
  rcases this with rfl | h2
  · cases hd
  · rintro rfl
    apply h2
    unfold dgt
    rw [List.getLast?_eq_getElem?] at hd
    rw [List.getD, hd]
    rfl
theorem pow_mono {a b : Nat} (h : a ≤ b) : (256 : Int) ^ a ≤ 256 ^ b := by
  obtain ⟨k, rfl⟩ := Nat.exists_eq_add_of_le h
  rw [Int.pow_add]
  have h1 := pow_pos256 a
  have h2 := pow_pos256 k
  have h3 : (256 : Int) ^ a * 1 ≤ 256 ^ a * 256 ^ k := Int.mul_le_mul_of_nonneg_left (by omega) (by omega)
  omega
theorem right_lt {A : List Int} (hb : Bytes A) (h : rightB A = true) : val A < 256 ^ 400 := Int.lt_of_lt_of_le (val_lt hb) (pow_mono (right_len h).1)
theorem told_small {n : Int} (h0 : 0 ≤ n) (h : n < 256 ^ 400) : toldE (dig n.toNat) = 0 ∧ toldO (dig n.toNat) = dig n.toNat ∧ rightB (dig n.toNat) = true := by
  have h1 : ((n.toNat : Nat) : Int) < 256 ^ 400 := by rw [Int.toNat_of_nonneg h0]; exact h
  have h2 : (dig n.toNat).length ≤ 400 := dig_len.2 h1
  exact ⟨by unfold toldE; rw [if_pos h2], by unfold toldO; rw [if_pos h2], right_dig h1⟩
theorem sub_facts {A B : List Int} (ha : Bytes A) (hb : Bytes B) (h : subE A B = 0) : cmpV (val (subO A B)) (val A) ≤ 0 ∧ rightB (subO A B) = true := by
  have h0 := h
  unfold subE at h
  unfold subO
  rw [if_pos h0]
  split at h
  · cases h
  · rename_i hr
    split at h
    · cases h
    · rename_i hl
      have hr' : rightB A = true ∧ rightB B = true := Classical.byContradiction hr
      have h1 := val_nonneg hb
      have h2 := right_lt ha hr'.1
      have h3 := val_nonneg ha
      have h4 : 0 ≤ val A - val B := by omega
      refine ⟨?_, (told_small h4 (Int.lt_of_le_of_lt (by omega) h2)).2.2⟩
      rw [val_dig, Int.toNat_of_nonneg h4, cmpV_le]
      omega
theorem sub_out {A B : List Int} (ha : Bytes A) (hb : Bytes B) : Bytes (subO A B) ∧ (subO A B).length ≤ 1000000000000 := by
  by_cases h : subE A B = 0
  · have h1 := (sub_facts ha hb h).2
    have h2 := (right_len h1).1
    refine ⟨?_, by omega⟩
    unfold subO
    rw [if_pos h]
    exact dig_bytes _
  · unfold subO
    rw [if_neg h]
    exact ⟨fun n hn => by simp at hn, by simp⟩
end Go.Proofs.YtbfacdfmanffdaaGreatDoor
