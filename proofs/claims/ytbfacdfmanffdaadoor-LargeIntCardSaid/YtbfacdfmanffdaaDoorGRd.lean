/- The document's Read. -/
import Derived.Test.YtbfacdfmanffdaaDoorGTx
namespace Go.Proofs.YtbfacdfmanffdaaDoor
set_option maxRecDepth 1000000
open Go.ChangeShapes Go.WideShapes Go.ChangeAt Go.RowKit

instance (xs : List Int) : Decidable (Dec xs) := by unfold Dec; infer_instance
def formB (cs : List Int) : Bool := decide (Dec cs ∧ cs ≠ [] ∧ ¬ (dgt cs 0 = 48 ∧ 1 < cs.length))
def readE (cs : List Int) : Int := if formB cs = true then toldE (dig (dval cs).toNat) else 5
def readO (cs : List Int) : List Int := if formB cs = true then toldO (dig (dval cs).toNat) else []
theorem dval_mono : ∀ (n : Nat) (xs ys : List Int), ys.length = n → Dec (xs ++ ys) → dval xs ≤ dval (xs ++ ys)
  | 0, xs, ys, h, _ => by rw [List.eq_nil_of_length_eq_zero h, List.append_nil]; exact Int.le_refl _
  | n + 1, xs, ys, h, hd => by
    have hne : ys ≠ [] := fun e => by rw [e] at h; cases h
    have e := List.dropLast_concat_getLast hne
    have hd2 : Dec (xs ++ ys.dropLast) := fun c hc => hd c (by
      rcases List.mem_append.1 hc with h' | h'
      · exact List.mem_append.2 (.inl h')
      · exact List.mem_append.2 (.inr (List.dropLast_subset _ h')))
    have h1 := dval_mono n xs ys.dropLast (by rw [List.length_dropLast]; omega) hd2
    have h2 : dval (xs ++ ys) = 10 * dval (xs ++ ys.dropLast) + (ys.getLast hne - 48) := by rw [← dval_snoc, List.append_assoc, e]
    have h3 := hd (ys.getLast hne) (List.mem_append.2 (.inr (List.getLast_mem hne)))
    have h4 := dval_nonneg hd2
    omega
theorem told_full {a b : Int} (h0 : 0 ≤ a) (h : a ≤ b) (hl : ¬ (dig a.toNat).length ≤ 400) : toldE (dig a.toNat) = toldE (dig b.toNat) ∧ toldO (dig a.toNat) = toldO (dig b.toNat) := by
  have hb : ¬ (dig b.toNat).length ≤ 400 := fun hb => hl (by
    rw [dig_len, Int.toNat_of_nonneg (by omega)] at hb
    rw [dig_len, Int.toNat_of_nonneg h0]
    exact Int.lt_of_le_of_lt h hb)
  unfold toldE toldO
  rw [if_neg hl, if_neg hl, if_neg hb, if_neg hb]
  exact ⟨rfl, rfl⟩
theorem str_index (cs : List Int) (hb : Bytes cs) (i : Nat) (hi : i < cs.length) (w : World) : (Instr.index 9 (.string (strOfNums cs)) (.int .i64 i)).run Tryd.prog w = .ok (.int .u8 (dgt cs i)) w := by
  have h := run_index_string (P := Tryd.prog) (w := w) 9 (strOfNums cs) .i64 i Tryd.underlying9
  rw [h, dif_pos ⟨by omega, by rw [strOfNums_size]; omega⟩]
  have hg : ∀ k (hk : k < (strOfNums cs).size), k = i → (((strOfNums cs)[k]'hk).toNat : Int) = dgt cs i := fun k hk e => by
    subst e
    have hr := hb cs[k] (List.getElem_mem hi)
    have e1 : (strOfNums cs)[k]'hk = UInt8.ofNat (cs[k]).toNat := by
      show (strOfNums cs).data[k]'hk = _
      simp [strOfNums]
    rw [e1, UInt8.toNat_ofNat']
    have e2 : dgt cs k = cs[k] := by unfold dgt; rw [List.getD, List.getElem?_eq_getElem hi]; rfl
    rw [e2]
    omega
  rw [hg _ _ (by simp)]
end Go.Proofs.YtbfacdfmanffdaaDoor
