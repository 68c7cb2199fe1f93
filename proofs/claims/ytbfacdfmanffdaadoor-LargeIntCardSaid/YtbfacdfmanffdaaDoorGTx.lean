/- The document's Text. -/
import Derived.Test.YtbfacdfmanffdaaDoorGDi
import Derived.Laws.Concat
import Derived.Deep.LoopGhost
namespace Go.Proofs.YtbfacdfmanffdaaDoor
set_option maxRecDepth 1000000
open Go.ChangeShapes Go.WideShapes Go.ChangeAt Go.RowKit

def textO (bs : List Int) : List Int := if rightB bs = true then dec (val bs).toNat else []
/-- The digits, none for 0. -/
def dec' (m : Nat) : List Int := if m = 0 then [] else dec m
theorem dec_step (m : Nat) : dec' (m / 10) ++ [((48 + m % 10 : Nat) : Int)] = dec m := by
  unfold dec'
  by_cases h : m < 10
  · rw [dec_small h, if_pos (by omega), show m % 10 = m by omega]; rfl
  · rw [dec_big h, if_neg (by omega)]
theorem dig_small {r : Nat} (h : r < 256) : dig r = if r = 0 then [] else [(r : Int)] := by
  by_cases h0 : r = 0
  · rw [if_pos h0, h0, dig_zero]
  · rw [if_neg h0, dig_pos h0, show r / 256 = 0 by omega, dig_zero, show r % 256 = r by omega]
theorem str_app (xs ys : List Int) : strOfNums xs ++ strOfNums ys = strOfNums (xs ++ ys) := by
  apply ByteArray.ext
  simp [strOfNums, ByteArray.data_append]
theorem dec_len : ∀ (k n : Nat), (n : Int) < 10 ^ k → (dec n).length ≤ k + 1
  | 0, n, h => by
    have h' : (n : Int) < 1 := h
    rw [dec_small (by omega)]; simp
  | k + 1, n, h => by
    by_cases h0 : n < 10
    · rw [dec_small h0]; simp
    · rw [dec_big h0, List.length_append]
      have := dec_len k (n / 10) (by rw [Int.pow_succ] at h; omega)
      simp; omega
/-- What a division by ten gives. -/
theorem div_ten {N : Nat → Prop} (v : Value) (m : Nat) (hm : (m : Int) < 256 ^ 400) (w : World) (hv : Bts N w v (dig m)) :
    Calls Tryd.prog 20 #[v, .slice (some ⟨w.heap.size, 0, none⟩) 1 1] (w.alloc (.cells #[.int .u8 10] 5)) fun e w' => ∃ q r, e = .returned (.tuple #[q, r, .int .i64 0]) ∧ Bts (w.heap.size ≤ ·) w' q (dig (m / 10)) ∧ Bts (w.heap.size ≤ ·) w' r (dig (m % 10)) ∧ Below w.heap.size w w' := by
  have hr := right_dig hm
  have hl := (right_len hr).1
  have h10 : rightB [10] = true := by decide
  have e10 : val [10] = 10 := by decide
  refine (div_ref v _ (dig m) [10] _ (hv.next (below_new w _)) (dig_bytes _) (by omega) (ownB1 w 10).bts (fun n hn => by simp at hn; omega) (by simp)).mono ?_
  rintro e w' ⟨q, r, rfl, hq, hrr, hb⟩
  have hE : divE (dig m) [10] = 0 := by unfold divE; rw [if_neg (fun h => h ⟨hr, h10⟩), if_neg (by simp)]
  have hQ : divQ (dig m) [10] = dig (m / 10) := by
    unfold divQ
    rw [if_pos hE, val_dig, e10, show ((m : Int) / 10).toNat = m / 10 by omega]
  have hR : divR (dig m) [10] = dig (m % 10) := by
    unfold divR
    rw [if_pos hE, val_dig, e10, show ((m : Int) % 10).toNat = m % 10 by omega]
  rw [hQ] at hq
  rw [hR] at hrr
  rw [hE]
  exact ⟨q, r, rfl, Bts.kind hq (fun b _ h => by simp at h; omega), Bts.kind hrr (fun b _ h => by simp at h; omega), (below_new w _).trans (hb.mono (by simp))⟩
theorem str_list (xs : List Int) : (strOfNums xs).toList = xs.map fun n => UInt8.ofNat n.toNat := by rw [ByteArray.toList_eq]; rfl
end Go.Proofs.YtbfacdfmanffdaaDoor
