/- Plain facts for package large's Read: a text's digits in parts of sixteen, and what the parts are worth. -/
import Derived.Test.YtbfacdfmanffdaaGreatDoorJPb
import Derived.Lib.Atoi
import Derived.Lib.SlTrimSet
namespace Go.Proofs.YtbfacdfmanffdaaGreatDoor
open Go.RowKit

def chunk (cs : List Int) : Nat := (cs.length - 1) % 16 + 1
theorem chunk_le {cs : List Int} (h : cs ≠ []) : chunk cs ≤ cs.length := by
  have h0 : 0 < cs.length := List.length_pos_iff.2 h
  have := Nat.mod_le (cs.length - 1) 16
  unfold chunk
  omega
theorem chunk_pos (cs : List Int) : 0 < chunk cs ∧ chunk cs ≤ 16 := by
  have := Nat.mod_lt (cs.length - 1) (show 0 < 16 by decide)
  unfold chunk
  omega
/-- The parts of a text, the first one first. -/
def hparts (cs : List Int) : List Int := if cs = [] then [] else dval (cs.take (chunk cs)) :: hparts (cs.drop (chunk cs))
termination_by cs.length
decreasing_by
  rename_i h
  have h0 : 0 < cs.length := List.length_pos_iff.2 h
  have := (chunk_pos cs).1
  rw [List.length_drop]
  omega
theorem hparts_nil : hparts [] = [] := by rw [hparts]; simp
theorem hparts_cons {cs : List Int} (h : cs ≠ []) : hparts cs = dval (cs.take (chunk cs)) :: hparts (cs.drop (chunk cs)) := by rw [hparts, if_neg h]
theorem dval_app (xs : List Int) : ∀ (n : Nat) (ys : List Int), ys.length = n → dval (xs ++ ys) = dval xs * 10 ^ n + dval ys
  | 0, ys, h => by
    rw [List.eq_nil_of_length_eq_zero h, List.append_nil]
    show dval xs = dval xs * 1 + 0
    omega
  | n + 1, ys, h => by
    have hne : ys ≠ [] := fun e => by rw [e] at h; cases h
    have e := List.dropLast_concat_getLast hne
    have h1 := dval_app xs n ys.dropLast (by rw [List.length_dropLast]; omega)
    have h2 : dval (xs ++ ys) = 10 * dval (xs ++ ys.dropLast) + (ys.getLast hne - 48) := by rw [← dval_snoc, List.append_assoc, e]
    have h3 : dval ys = 10 * dval ys.dropLast + (ys.getLast hne - 48) := by rw [← dval_snoc, e]
    rw [h2, h1, h3, Int.pow_succ, Int.mul_add, ← Int.mul_assoc (dval xs), Int.mul_comm 10 (dval xs * 10 ^ n)]
    omega
def accV (v : Int) (xs : List Int) : Int := xs.foldl (fun v x => v * 10000000000000000 + x) v
theorem accV_cons (v x : Int) (xs : List Int) : accV v (x :: xs) = accV (v * 10000000000000000 + x) xs := rfl
theorem accV_snoc (v x : Int) (xs : List Int) : accV v (xs ++ [x]) = accV v xs * 10000000000000000 + x := by simp [accV, List.foldl_append]
theorem accV_parts : ∀ (n : Nat) (cs : List Int) (v : Int), cs.length ≤ n → (cs.length % 16 = 0 ∨ v = 0) → accV v (hparts cs) = v * 10 ^ cs.length + dval cs
  | n, [], v, _, _ => by
    rw [hparts_nil]
    show v = v * 1 + 0
    omega
  | 0, _ :: _, _, h, _ => by simp at h
  | n + 1, c :: r, v, h, hv => by
    obtain ⟨cs, hcs⟩ : ∃ cs, c :: r = cs := ⟨_, rfl⟩
    have hne : cs ≠ [] := by rw [← hcs]; simp
    rw [hcs] at h hv ⊢
    have h0 : 0 < cs.length := List.length_pos_iff.2 hne
    have hk := chunk_le hne
    have hp := chunk_pos cs
    obtain ⟨k, hkk⟩ : ∃ k, chunk cs = k := ⟨_, rfl⟩
    have hk2 : (cs.length - 1) % 16 + 1 = k := hkk
    rw [hkk] at hk hp
    have hr : (cs.drop k).length = cs.length - k := List.length_drop
    rw [hparts_cons hne, hkk, accV_cons, accV_parts n (cs.drop k) _ (by omega) (.inl (by omega)), hr]
    have e := dval_app (cs.take k) (cs.length - k) (cs.drop k) hr
    rw [List.take_append_drop] at e
    rw [e, Int.add_mul]
    rcases hv with hv | hv
    · have h16 : k = 16 := by omega
      have e2 : cs.length = 16 + (cs.length - k) := by omega
      have e3 : v * 10000000000000000 * 10 ^ (cs.length - k) = v * 10 ^ cs.length := by
        conv => rhs; rw [e2, Int.pow_add, ← Int.mul_assoc]
        rfl
      omega
    · subst hv
      simp
theorem accV_ge : ∀ (xs : List Int) (v : Int), 0 ≤ v → (∀ x ∈ xs, 0 ≤ x) → v ≤ accV v xs
  | [], v, _, _ => Int.le_refl _
  | x :: xs, v, h, hx => by
    rw [accV_cons]
    have h1 := hx x (by simp)
    have := accV_ge xs (v * 10000000000000000 + x) (by omega) (fun y hy => hx y (by simp [hy]))
    omega
theorem dval_lt : ∀ (n : Nat) (xs : List Int), xs.length = n → Dec xs → dval xs < 10 ^ n
  | 0, xs, h, _ => by rw [List.eq_nil_of_length_eq_zero h]; decide
  | n + 1, xs, h, hd => by
    have hne : xs ≠ [] := fun e => by rw [e] at h; cases h
    have e := List.dropLast_concat_getLast hne
    have h1 := dval_lt n xs.dropLast (by rw [List.length_dropLast]; omega) (fun c hc => hd c (List.dropLast_subset _ hc))
    have h3 : dval xs = 10 * dval xs.dropLast + (xs.getLast hne - 48) := by rw [← dval_snoc, e]
    have h4 := hd (xs.getLast hne) (List.getLast_mem hne)
    rw [h3, Int.pow_succ]
    omega
theorem hparts_rng : ∀ (n : Nat) (cs : List Int), cs.length ≤ n → Dec cs → ∀ x ∈ hparts cs, 0 ≤ x ∧ x < 10000000000000000
  | n, [], _, _, x, hx => by rw [hparts_nil] at hx; cases hx
  | 0, _ :: _, h, _, _, _ => by simp at h
  | n + 1, c :: r, h, hd, x, hx => by
    obtain ⟨cs, hcs⟩ : ∃ cs, c :: r = cs := ⟨_, rfl⟩
    have hne : cs ≠ [] := by rw [← hcs]; simp
    rw [hcs] at h hd hx
    have hp := chunk_pos cs
    have hk := chunk_le hne
    have h0 : 0 < cs.length := List.length_pos_iff.2 hne
    rw [hparts_cons hne] at hx
    rcases List.mem_cons.1 hx with rfl | hx
    · have ht : Dec (cs.take (chunk cs)) := fun c hc => hd c (List.mem_of_mem_take hc)
      refine ⟨dval_nonneg ht, ?_⟩
      have h1 := dval_lt _ _ rfl ht
      have h2 : (10 : Int) ^ (cs.take (chunk cs)).length ≤ 10 ^ 16 := by
        have h := Nat.pow_le_pow_right (n := 10) (by decide) (show (cs.take (chunk cs)).length ≤ 16 by rw [List.length_take]; omega)
        have h' : ((10 ^ (cs.take (chunk cs)).length : Nat) : Int) ≤ ((10 ^ 16 : Nat) : Int) := Int.ofNat_le.2 h
        simpa [Int.natCast_pow] using h'
      have h3 : (10 : Int) ^ 16 = 10000000000000000 := by decide
      omega
    · exact hparts_rng n _ (by rw [List.length_drop]; omega) (fun c hc => hd c (List.mem_of_mem_drop hc)) x hx
theorem by8_dec {c : Int} (h : 48 ≤ c ∧ c ≤ 57) : (by8 c).toNat = c.toNat := by
  show (UInt8.ofNat c.toNat).toNat = _
  rw [UInt8.toNat_ofNat']
  omega
theorem decFrom_is : ∀ (xs : List Int) (acc : Nat), Dec xs → ∃ n : Nat, Lib.decFrom acc (xs.map by8) = some n ∧ xs.foldl (fun v c => 10 * v + (c - 48)) (acc : Int) = n
  | [], acc, _ => ⟨acc, rfl, rfl⟩
  | c :: xs, acc, h => by
    have hc := h c (by simp)
    have e := by8_dec hc
    have hd : Lib.digitVal (by8 c) = some (c.toNat - 48) := by
      unfold Lib.digitVal
      rw [e, if_pos (by omega)]
    obtain ⟨n, h1, h2⟩ := decFrom_is xs (acc * 10 + (c.toNat - 48)) (fun y hy => h y (by simp [hy]))
    refine ⟨n, ?_, ?_⟩
    · rw [List.map_cons, Lib.decFrom, hd]; exact h1
    · rw [← h2, List.foldl_cons]
      congr 1
      omega
theorem atoi_dec {xs : List Int} (h : Dec xs) (hne : xs ≠ []) : Lib.atoi (strOfNums xs).data.toList = some (dval xs) := by
  rw [str_data]
  cases xs with
  | nil => exact absurd rfl hne
  | cons c r =>
    have hc := h c (by simp)
    have e := by8_dec hc
    have h45 : (by8 c == 45) = false := by rw [beq_eq_false_iff_ne]; intro h2; rw [h2] at e; have : (45 : UInt8).toNat = 45 := rfl; omega
    have h43 : (by8 c == 43) = false := by rw [beq_eq_false_iff_ne]; intro h2; rw [h2] at e; have : (43 : UInt8).toNat = 43 := rfl; omega
    obtain ⟨n, h1, h2⟩ := decFrom_is (c :: r) 0 h
    rw [List.map_cons] at h1 ⊢
    rw [Lib.atoi, h45, h43]
    simp only [Bool.false_eq_true, if_false]
    unfold Lib.decNat
    rw [List.isEmpty_cons]
    simp only [Bool.false_eq_true, if_false]
    rw [h1]
    show some (n : Int) = _
    unfold dval
    rw [← h2]
    rfl
/-- The digits as a cutset. -/
abbrev digitsSet : ByteArray := ⟨#[48, 49, 50, 51, 52, 53, 54, 55, 56, 57]⟩
theorem in_digits (b : UInt8) : digitsSet.data.toList.contains b = decide (48 ≤ b.toNat ∧ b.toNat ≤ 57) := by
  have h : ∀ n : Fin 256, digitsSet.data.toList.contains (UInt8.ofNat n) = decide (48 ≤ (UInt8.ofNat n).toNat ∧ (UInt8.ofNat n).toNat ≤ 57) := by decide +kernel
  have := h ⟨b.toNat, b.toNat_lt⟩
  simpa using this
theorem dropWhile_nil {α : Type} {p : α → Bool} : ∀ {l : List α}, l.dropWhile p = [] ↔ ∀ b ∈ l, p b = true
  | [] => by simp
  | b :: r => by
    rw [List.dropWhile_cons]
    cases h : p b with
    | false =>
      simp only [Bool.false_eq_true, if_false]
      constructor
      · intro h2; cases h2
      · intro h2; have := h2 b (by simp); rw [h] at this; cases this
    | true =>
      simp only [if_true]
      rw [dropWhile_nil]
      constructor
      · intro h2 c hc
        rcases List.mem_cons.1 hc with rfl | hc
        · exact h
        · exact h2 c hc
      · intro h2 c hc; exact h2 c (by simp [hc])
theorem trimS_empty {l cs : List UInt8} : Lib.trimS l cs = [] ↔ ∀ b ∈ l, cs.contains b = true := by
  unfold Lib.trimS Lib.trimLeftS Lib.trimRightS
  rw [dropWhile_nil]
  constructor
  · intro h
    have h2 : l.reverse.dropWhile (cs.contains ·) = [] := by
      cases h3 : l.reverse.dropWhile (cs.contains ·) with
      | nil => rfl
      | cons c r =>
        have h4 := h c (by rw [h3]; simp)
        have h5 := List.head_dropWhile_not (cs.contains ·) (l := l.reverse) (by rw [h3]; simp)
        simp only [h3, List.head_cons] at h5
        rw [h4] at h5
        cases h5
    rw [dropWhile_nil] at h2
    exact fun b hb => h2 b (List.mem_reverse.2 hb)
  · intro h b hb
    exact h b (List.mem_reverse.1 (List.dropWhile_subset _ (List.mem_reverse.1 hb)))
theorem trim_digits {cs : List Int} (hb : Bytes cs) : Lib.trimS (strOfNums cs).data.toList digitsSet.data.toList = [] ↔ Dec cs := by
  rw [trimS_empty, str_data]
  constructor
  · intro h c hc
    have h1 := h (by8 c) (List.mem_map.2 ⟨c, hc, rfl⟩)
    rw [in_digits] at h1
    have h2 := of_decide_eq_true h1
    have h3 := hb c hc
    have e : (by8 c).toNat = c.toNat := by
      show (UInt8.ofNat c.toNat).toNat = _
      rw [UInt8.toNat_ofNat']
      omega
    omega
  · intro h b hbm
    obtain ⟨c, hc, rfl⟩ := List.mem_map.1 hbm
    rw [in_digits]
    have h3 := h c hc
    rw [by8_dec h3]
    exact decide_eq_true (by omega)
end Go.Proofs.YtbfacdfmanffdaaGreatDoor
