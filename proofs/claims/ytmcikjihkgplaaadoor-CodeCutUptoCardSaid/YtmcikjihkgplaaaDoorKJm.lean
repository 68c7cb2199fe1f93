/- The document's Jumps: do they lead where something begins? -/
import Derived.Test.YtmcikjihkgplaaaDoorKBy
namespace Go.Proofs.YtmcikjihkgplaaaDoor
set_option maxRecDepth 1000000
open Go.ChangeShapes Go.WideShapes Go.ChangeAt Go.RowKit

/-- Where the k-th thing begins. -/
def begAt (L : List OpT) : Nat → Int
  | 0 => 0
  | k + 1 => begAt L k + (match L[k]? with | some o => o.l | none => 0)
theorem begAt_succ {L : List OpT} {k : Nat} {o : OpT} (h : L[k]? = some o) : begAt L (k + 1) = begAt L k + o.l := by simp [begAt, h]
/-- What leads somewhere leads to the end, or where something begins. -/
def Leads (L : List OpT) (n : Nat) (i : Nat) (o : OpT) : Prop := o.k ≠ 0 ∧ (22 ≤ o.k → o.k ≤ 24 → begAt L (i + 1) + o.n = n ∨ ∃ j, j < L.length ∧ begAt L j = begAt L (i + 1) + o.n)
def JumpsOK (L : List OpT) (n : Nat) : Prop := ∀ (i : Nat) (o : OpT), L[i]? = some o → Leads L n i o
def JumpsIs (bs : List Int) (b : Bool) : Prop := b = true ↔ ((allO bs).2 = 0 ∧ JumpsOK (allO bs).1 bs.length)
theorem JumpsIs.eq {bs : List Int} {a b : Bool} (h : JumpsIs bs a) (k : JumpsIs bs b) : a = b := by
  have := h.trans k.symm
  cases a <;> cases b <;> simp_all
/-- How great the numbers are. -/
def Lim (o : OpT) : Prop := -1024 ≤ o.n ∧ o.n ≤ 1023 ∧ 0 ≤ o.k ∧ o.k ≤ 26 ∧ 0 ≤ o.m ∧ o.m ≤ 255 ∧ 1 ≤ o.l ∧ o.l ≤ 3
def LimS (o : OpT) : Prop := -1024 ≤ o.n ∧ o.n ≤ 1023 ∧ 0 ≤ o.k ∧ o.k ≤ 26 ∧ 0 ≤ o.m ∧ o.m ≤ 255
theorem lim_ite {p : Prop} [Decidable p] {a b : OpT} (h1 : p → LimS a) (h2 : ¬ p → LimS b) : LimS (if p then a else b) := by by_cases h : p <;> simp only [h, if_true, if_false] <;> first | exact h1 h | exact h2 h
theorem short_lim {c : Int} (h0 : 0 ≤ c) (h1 : c ≤ 255) : LimS (shortO c) := by
  have ho : ∀ i, -1 ≤ oopAt i ∧ oopAt i ≤ 6 := fun i => by unfold oopAt; repeat (first | omega | split)
  have h2 := ho (c - 112)
  have h3 := ho (c - 120)
  unfold shortO
  repeat' (refine lim_ite (fun _ => ?_) (fun _ => ?_))
  all_goals (simp only [LimS, o3]; omega)
theorem wide_lim {c n m : Int} (h0 : 0 ≤ c) (h1 : c ≤ 255) (h2 : 0 ≤ n) (h3 : n ≤ 255) (h4 : 0 ≤ m) (h5 : m ≤ 255) (hl : longN c ≠ 1) : LimS (wideO c n m) := by
  have hc : c = 132 ∨ c = 134 ∨ (128 ≤ c ∧ c ≤ 133) ∨ (160 ≤ c ∧ c ≤ 175) := by
    unfold longN at hl
    split at hl
    · omega
    · split at hl
      · omega
      · omega
  unfold wideO
  repeat' (refine lim_ite (fun _ => ?_) (fun _ => ?_))
  all_goals (simp only [LimS, o3]; omega)
theorem tell_lim {c n m : Int} (h0 : 0 ≤ c) (h1 : c ≤ 255) (h2 : 0 ≤ n) (h3 : n ≤ 255) (h4 : 0 ≤ m) (h5 : m ≤ 255) : Lim (tellO c n m) := by
  have hl := longN_rng c
  unfold tellO Lim
  by_cases e : longN c = 1
  · simp only [e, if_true]
    obtain ⟨a1, a2, a3, a4, a5, a6⟩ := short_lim h0 h1
    exact ⟨a1, a2, a3, a4, a5, a6, by omega, by omega⟩
  · rw [if_neg e]
    by_cases e2 : longN c = 2
    · rw [if_pos e2]
      obtain ⟨a1, a2, a3, a4, a5, a6⟩ := wide_lim (m := 0) h0 h1 h2 h3 (by omega) (by omega) e
      exact ⟨a1, a2, a3, a4, a5, a6, by show 1 ≤ longN c; omega, by show longN c ≤ 3; omega⟩
    · rw [if_neg e2]
      obtain ⟨a1, a2, a3, a4, a5, a6⟩ := wide_lim h0 h1 h2 h3 h4 h5 e
      exact ⟨a1, a2, a3, a4, a5, a6, by show 1 ≤ longN c; omega, by show longN c ≤ 3; omega⟩
theorem atO_lim {bs : List Int} (hb : Bytes bs) {a : Int} (h : atE bs a = 0) : Lim (atO bs a) := by
  unfold atO
  rw [if_pos h]
  have h1 := byt_rng hb a.toNat
  have h2 := byt_rng hb (a.toNat + 1)
  have h3 := byt_rng hb (a.toNat + 2)
  exact tell_lim h1.1 h1.2 h2.1 h2.2 h3.1 h3.2
theorem allF_lim {bs : List Int} (hb : Bytes bs) : ∀ (g a : Nat) (L : List OpT), (∀ o ∈ L, Lim o) → ∀ o ∈ (allF bs g a L).1, Lim o
  | 0, _, _, h => h
  | g + 1, a, L, h => by
    unfold allF
    split
    · split
      · rename_i he
        exact allF_lim hb g _ _ fun o ho => by
          rcases List.mem_append.1 ho with h' | h'
          · exact h o h'
          · rw [List.mem_singleton] at h'; rw [h']; exact atO_lim hb he
      · intro o ho; cases ho
    · exact h
theorem allO_lim {bs : List Int} (hb : Bytes bs) : ∀ o ∈ (allO bs).1, Lim o := allF_lim hb _ _ _ fun o ho => by cases ho
theorem allF_len (bs : List Int) : ∀ (g a : Nat) (L : List OpT), L.length ≤ a → a ≤ bs.length → (allF bs g a L).1.length ≤ bs.length
  | 0, _, _, h, h2 => Nat.le_trans h h2
  | g + 1, a, L, h, h2 => by
    unfold allF
    split
    · rename_i hlt
      split
      · rename_i he
        obtain ⟨_, h3, h4, _⟩ := atO_len hlt he
        exact allF_len bs g _ _ (by simp; omega) (by omega)
      · exact Nat.zero_le _
    · exact Nat.le_trans h h2
theorem allO_len (bs : List Int) : (allO bs).1.length ≤ bs.length := allF_len bs _ _ _ (Nat.zero_le _) (Nat.zero_le _)
theorem begAt_rng {L : List OpT} (h : ∀ o ∈ L, Lim o) : ∀ k, k ≤ L.length → 0 ≤ begAt L k ∧ begAt L k ≤ 3 * k
  | 0, _ => ⟨by simp [begAt], by simp [begAt]⟩
  | k + 1, hk => by
    have h1 := begAt_rng h k (by omega)
    have h2 := List.getElem?_eq_getElem (l := L) (i := k) (by omega)
    rw [begAt_succ h2]
    have h3 := h L[k] (List.getElem_mem _)
    unfold Lim at h3
    omega
end Go.Proofs.YtmcikjihkgplaaaDoor
