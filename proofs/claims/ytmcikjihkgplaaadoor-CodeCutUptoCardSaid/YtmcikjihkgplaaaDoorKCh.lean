/- What is told one behind the other, as plain facts: chains; bytes behind bytes. -/
import Derived.Test.YtmcikjihkgplaaaDoorKJm
namespace Go.Proofs.YtmcikjihkgplaaaDoor
set_option maxRecDepth 1000000
open Go.RowKit

/-- From a place on these are told, with this error at the end. -/
inductive Ch (bs : List Int) : Nat → List OpT → Int → Prop
  | done : Ch bs bs.length [] 0
  | bad (a : Nat) (h : a < bs.length) (he : atE bs a ≠ 0) : Ch bs a [] (atE bs a)
  | step (a : Nat) (R : List OpT) (e : Int) (h : a < bs.length) (he : atE bs a = 0) (hr : Ch bs (a + (atO bs a).l.toNat) R e) : Ch bs a (atO bs a :: R) e
theorem ch_ex (bs : List Int) : ∀ (n a : Nat), bs.length - a ≤ n → a ≤ bs.length → ∃ R e, Ch bs a R e
  | 0, a, h, h2 => by
    obtain rfl : a = bs.length := by omega
    exact ⟨[], 0, .done⟩
  | n + 1, a, h, h2 => by
    by_cases ha : a < bs.length
    · by_cases he : atE bs a = 0
      · obtain ⟨_, h3, h4, _⟩ := atO_len ha he
        obtain ⟨R, e, hr⟩ := ch_ex bs n (a + (atO bs a).l.toNat) (by omega) (by omega)
        exact ⟨_, e, .step a R e ha he hr⟩
      · exact ⟨[], _, .bad a ha he⟩
    · obtain rfl : a = bs.length := by omega
      exact ⟨[], 0, .done⟩
theorem ch_allF {bs : List Int} {a : Nat} {R : List OpT} {e : Int} (h : Ch bs a R e) : ∀ (g : Nat) (L : List OpT), bs.length ≤ a + g → allF bs g a L = (if e = 0 then L ++ R else [], e) := by
  induction h with
  | done => intro g L _; rw [allF_end (Nat.le_refl _)]; simp
  | bad a h he =>
    intro g L hg
    obtain ⟨g, rfl⟩ : ∃ k, g = k + 1 := ⟨g - 1, by omega⟩
    unfold allF
    rw [if_pos h, if_neg he, if_neg he]
  | step a R e h he hr ih =>
    intro g L hg
    obtain ⟨g, rfl⟩ : ∃ k, g = k + 1 := ⟨g - 1, by omega⟩
    obtain ⟨_, h3, h4, _⟩ := atO_len h he
    unfold allF
    rw [if_pos h, if_pos he, ih g (L ++ [atO bs a]) (by omega)]
    simp
theorem ch_allO {bs : List Int} {R : List OpT} {e : Int} (h : Ch bs 0 R e) : allO bs = (if e = 0 then R else [], e) := by
  have := ch_allF h bs.length [] (by omega)
  simpa [allO] using this
theorem allO_ch (bs : List Int) : ∃ R, Ch bs 0 R (allO bs).2 ∧ ((allO bs).2 = 0 → R = (allO bs).1) ∧ ((allO bs).2 ≠ 0 → (allO bs).1 = []) := by
  obtain ⟨R, e, h⟩ := ch_ex bs bs.length 0 (by omega) (by omega)
  rw [ch_allO h]
  refine ⟨R, h, fun h0 => ?_, fun h0 => ?_⟩
  · simp only at h0; simp [h0]
  · simp only at h0; simp [h0]
theorem begAt_cons (o : OpT) (R : List OpT) : ∀ k, begAt (o :: R) (k + 1) = o.l + begAt R k
  | 0 => by simp [begAt]
  | k + 1 => by
    rw [begAt, begAt_cons o R k, begAt, List.getElem?_cons_succ]
    omega
theorem ch_at {bs : List Int} {a : Nat} {R : List OpT} {e : Int} (h : Ch bs a R e) : ∀ (i : Nat) (o : OpT), R[i]? = some o → ∃ p : Nat, (p : Int) = a + begAt R i ∧ p < bs.length ∧ atE bs p = 0 ∧ o = atO bs p := by
  induction h with
  | done => intro i o hi; simp at hi
  | bad a h he => intro i o hi; simp at hi
  | step a R e h he hr ih =>
    intro i o hi
    obtain ⟨_, h3, h4, _⟩ := atO_len h he
    cases i with
    | zero =>
      simp at hi
      exact ⟨a, by simp [begAt], h, he, hi.symm⟩
    | succ i =>
      obtain ⟨p, hp, h5, h6, h7⟩ := ih i o (by simpa using hi)
      exact ⟨p, by rw [begAt_cons, hp]; omega, h5, h6, h7⟩
theorem ch_end {bs : List Int} {a : Nat} {R : List OpT} {e : Int} (h : Ch bs a R e) (h0 : e = 0) : (a : Int) + begAt R R.length = bs.length := by
  induction h with
  | done => simp [begAt]
  | bad a h he => exact (he h0).elim
  | step a R e h he hr ih =>
    obtain ⟨_, h3, h4, _⟩ := atO_len h he
    have := ih h0
    rw [List.length_cons, begAt_cons]
    omega
/-! Bytes behind bytes. -/
theorem byt_left {A B : List Int} {i : Nat} (h : i < A.length) : byt (A ++ B) i = byt A i := by
  unfold byt; rw [List.getD, List.getD, List.getElem?_append_left h]
theorem byt_right (A B : List Int) (i : Nat) : byt (A ++ B) (A.length + i) = byt B i := by
  unfold byt; rw [List.getD, List.getD, List.getElem?_append_right (by omega), show A.length + i - A.length = i by omega]
theorem tell_same {c n m n' m' : Int} (h2 : 2 ≤ longN c → n = n') (h3 : longN c = 3 → m = m') : tellO c n m = tellO c n' m' := by
  have hl := longN_rng c
  unfold tellO
  by_cases e : longN c = 1
  · simp [e]
  · by_cases e2 : longN c = 2
    · rw [if_neg e, if_pos e2, if_neg e, if_pos e2, h2 (by omega)]
    · rw [if_neg e, if_neg e2, if_neg e, if_neg e2, h2 (by omega), h3 (by omega)]
theorem at_left {A B : List Int} {a : Nat} (h : a < A.length) (he : atE A a = 0) : atE (A ++ B) a = 0 ∧ atO (A ++ B) a = atO A a := by
  obtain ⟨h1, h2, h3, h4⟩ := atO_len h he
  have hb : byt (A ++ B) a = byt A a := byt_left h
  have hL : a < (A ++ B).length := by rw [List.length_append]; omega
  have hge : ¬ ((A ++ B).length : Int) - a < longN (byt (A ++ B) a) := by rw [hb, ← h1, List.length_append]; omega
  have h5 := at_in hL hge
  have hge2 : ¬ (A.length : Int) - a < longN (byt A a) := by rw [← h1]; omega
  have h6 := at_in h hge2
  refine ⟨h5.1, ?_⟩
  rw [h5.2, h6.2, hb]
  refine tell_same (fun h => byt_left ?_) (fun h => byt_left ?_) <;> (rw [← h1] at h; omega)
theorem at_right (A B : List Int) (a : Nat) : atE (A ++ B) ((A.length + a : Nat) : Int) = atE B a ∧ atO (A ++ B) ((A.length + a : Nat) : Int) = atO B a := by
  have hb : byt (A ++ B) (A.length + a) = byt B a := byt_right A B a
  have c1 : (((A.length + a : Nat) : Int) < 0 ∨ ((A ++ B).length : Int) ≤ ((A.length + a : Nat) : Int)) ↔ ((a : Int) < 0 ∨ (B.length : Int) ≤ a) := by rw [List.length_append]; omega
  have c2 : (((A ++ B).length : Int) - ((A.length + a : Nat) : Int) < longN (byt B a)) ↔ ((B.length : Int) - a < longN (byt B a)) := by rw [List.length_append]; omega
  have h1 : atE (A ++ B) ((A.length + a : Nat) : Int) = atE B a := by
    unfold atE
    rw [Int.toNat_natCast, Int.toNat_natCast, hb]
    simp only [c1, c2]
  refine ⟨h1, ?_⟩
  unfold atO
  rw [h1, Int.toNat_natCast, Int.toNat_natCast, hb, show A.length + a + 1 = A.length + (a + 1) by omega, byt_right, show A.length + a + 2 = A.length + (a + 2) by omega, byt_right]
theorem ch_right {B : List Int} {b : Nat} {M : List OpT} {e : Int} (A : List Int) (h : Ch B b M e) : Ch (A ++ B) (A.length + b) M e := by
  induction h with
  | done =>
    have : A.length + B.length = (A ++ B).length := by rw [List.length_append]
    rw [this]; exact .done
  | bad a h he =>
    have h1 := at_right A B a
    have := Ch.bad (bs := A ++ B) (A.length + a) (by rw [List.length_append]; omega) (by rw [h1.1]; exact he)
    rwa [h1.1] at this
  | step a R e h he hr ih =>
    have h1 := at_right A B a
    have := Ch.step (bs := A ++ B) (A.length + a) R e (by rw [List.length_append]; omega) (by rw [h1.1]; exact he) (by rw [h1.2, Nat.add_assoc]; exact ih)
    rwa [h1.2] at this
theorem ch_append {A B : List Int} {a : Nat} {L M : List OpT} {e f : Int} (h : Ch A a L f) (hf : f = 0) (h2 : Ch B 0 M e) : Ch (A ++ B) a (L ++ M) e := by
  induction h with
  | done => have := ch_right A h2; simpa using this
  | bad a h he => exact (he hf).elim
  | step a R f h he hr ih =>
    have h1 := at_left (B := B) h he
    have := Ch.step (bs := A ++ B) a (R ++ M) e (by rw [List.length_append]; omega) h1.1 (by rw [h1.2]; exact ih hf)
    rwa [h1.2] at this
end Go.Proofs.YtmcikjihkgplaaaDoor
