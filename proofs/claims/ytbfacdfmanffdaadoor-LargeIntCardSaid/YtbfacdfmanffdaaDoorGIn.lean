/- The document's Int, told, Cmp. -/
import Derived.Test.YtbfacdfmanffdaaDoorGSe
namespace Go.Proofs.YtbfacdfmanffdaaDoor
set_option maxRecDepth 1000000
open Go.ChangeShapes Go.WideShapes Go.ChangeAt Go.RowKit

/-- Is it a number that an int holds? -/
def intB (bs : List Int) : Bool := rightB bs && decide (val bs ≤ 9223372036854775807)
def intV (bs : List Int) : Int := if intB bs = true then val bs else 0
theorem val_cut (bs : List Int) (k : Nat) (h : k ≤ bs.length) : val bs = val (bs.take k) + 256 ^ k * val (bs.drop k) := by
  have e := List.take_append_drop k bs
  have h2 := val_append (bs.take k) (bs.drop k)
  rw [e, List.length_take, Nat.min_eq_left h] at h2
  exact h2
theorem drop_bytes {bs : List Int} (h : Bytes bs) (k : Nat) : Bytes (bs.drop k) := fun n hn => h n (List.mem_of_mem_drop hn)
theorem val_big {bs : List Int} (hb : Bytes bs) {j : Nat} (hj : j + 1 ≤ bs.length) (h : 36028797018963967 < val (bs.drop (j + 1))) : ¬ val bs ≤ 9223372036854775807 := by
  have h1 := val_cut bs (j + 1) hj
  have h2 := val_nonneg (take_bytes hb (j + 1))
  have h3 := pow_pos256 j
  rw [Int.pow_succ] at h1
  have h4 : 256 ^ j * 256 * val (bs.drop (j + 1)) ≥ 1 * 256 * val (bs.drop (j + 1)) := by
    have := Int.mul_le_mul_of_nonneg_right (show 1 * 256 ≤ (256 : Int) ^ j * 256 by omega) (show 0 ≤ val (bs.drop (j + 1)) by omega)
    exact this
  omega
def toldE (xs : List Int) : Int := if xs.length ≤ 400 then 0 else 3
def toldO (xs : List Int) : List Int := if xs.length ≤ 400 then xs else []
theorem told_ref (w0 w : World) (B : Nat) (v : Value) (xs : List Int) (h : OwnB B w v xs) :
    Calls Tryd.prog 32 #[v] w fun e w' => (∃ u, e = .returned (.tuple #[u, .int .i64 (toldE xs)]) ∧ OwnB B w u (toldO xs)) ∧ w = w' := by
  unfold toldE toldO
  have H := Lib.hid h
  obtain ⟨a, c, rfl⟩ : ∃ a c, v = .slice a xs.length c := by
    rcases h.2 with ⟨rfl, h0⟩ | ⟨g, cap, cur, rfl, _⟩
    · exact ⟨none, 0, by rw [h0]⟩
    · exact ⟨_, cap, rfl⟩
  obtain ⟨ln, hln⟩ : ∃ n, xs.length = n := ⟨_, rfl⟩
  have HL := Lib.hid hln
  rw [hln]
  clear h hln
  by_cases hle : ln ≤ 400
  · have d1 : decide ((400 : Int) < ln) = false := by simp; omega
    have d2 : decide (400 < ln) = false := by simp; omega
    rw [if_pos hle, if_pos hle]
    clear hle
    go_enter Tryd.func32, Tryd.ntmps32
    go_wp2_with fail
    go_ret2
    exact ⟨⟨_, rfl, by show OwnB B w (.slice a ln c) xs; rw [← HL.out]; exact H.out⟩, rfl⟩
  · have d1 : decide ((400 : Int) < ln) = true := by simp; omega
    have d2 : decide (400 < ln) = true := by simp; omega
    rw [if_neg hle, if_neg hle]
    clear hle
    go_enter Tryd.func32, Tryd.ntmps32
    go_wp2_with fail
    go_ret2
    exact ⟨⟨_, rfl, World.ownsRow_nil _ _ _ _⟩, rfl⟩
end Go.Proofs.YtbfacdfmanffdaaDoor
