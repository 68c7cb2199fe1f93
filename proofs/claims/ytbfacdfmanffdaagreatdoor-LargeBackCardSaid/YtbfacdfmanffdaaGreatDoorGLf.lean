/- Plain facts for LargeLaws and LargeBack. -/
import Derived.Test.YtbfacdfmanffdaaGreatDoorGLe
namespace Go.Proofs.YtbfacdfmanffdaaGreatDoor
set_option maxRecDepth 1000000
open Go.ChangeShapes Go.WideShapes Go.ChangeAt Go.RowKit

def Ok (X : List Int) : Prop := Bytes X ∧ X.length ≤ 1000000000000
theorem Fit.ok {X : List Int} {V : Int} (h : Fit X V) : Ok X := ⟨h.bytes, h.len⟩
theorem mul_le_M {a b M : Int} (ha : 0 ≤ a) (h0 : 0 ≤ b) (h1 : a ≤ M) (h2 : b ≤ M) : a * b ≤ M * M := Int.le_trans (Int.mul_le_mul_of_nonneg_right h1 h0) (Int.mul_le_mul_of_nonneg_left h2 (Int.le_trans ha h1))
theorem laws_sum {A B C : List Int} (ha : Bytes A) (hb : Bytes B) (hc : Bytes C) (ra : rightB A = true) (rb : rightB B = true) (rc : rightB C = true) (la : A.length ≤ 60) (lb : B.length ≤ 60) (lc : C.length ≤ 60) :
    ∃ O S P Q R, addE A [B, C] = 0 ∧ addO A [B, C] = O ∧ addE C [A, B] = 0 ∧ addO C [A, B] = O ∧ addE A [B] = 0 ∧ addO A [B] = S ∧ Ok S ∧ mulO S C = P ∧ mulO C A = Q ∧ mulO B C = R ∧ Ok Q ∧ Ok R ∧ addO Q [R] = P ∧ subE S B = 0 ∧ subO S B = A := by
  have hM : 256 * (256 : Int) ^ 60 ≤ 256 ^ 400 := two_pow (by decide)
  have hN : 256 * (256 : Int) ^ 120 ≤ 256 ^ 400 := two_pow (by decide)
  have hMM : (256 : Int) ^ 60 * 256 ^ 60 = 256 ^ 120 := pow_split 60 60
  have p1 := pow_pos256 60
  have p2 := pow_pos256 120
  have hA := lt_pow ha la
  have hB := lt_pow hb lb
  have hC := lt_pow hc lc
  have hA0 := val_nonneg ha
  have hB0 := val_nonneg hb
  have hC0 := val_nonneg hc
  have fA := fit_self ha ra
  generalize hL : (256 : Int) ^ 400 = L at *
  generalize (256 : Int) ^ 60 = M at *
  generalize (256 : Int) ^ 120 = N at *
  obtain ⟨x0, xf⟩ := add2_fits ha hb hc ra rb rc (by rw [hL]; omega)
  obtain ⟨y0, yf⟩ := add2_fits hc ha hb rc ra rb (by rw [hL]; omega)
  obtain ⟨s0, sf⟩ := add1_fits ha hb ra rb (by rw [hL]; omega)
  have m1 := mul_le_M hA0 hC0 (Int.le_of_lt hA) (Int.le_of_lt hC)
  have m2 := mul_le_M hB0 hC0 (Int.le_of_lt hB) (Int.le_of_lt hC)
  have m3 := mul_le_M hC0 hA0 (Int.le_of_lt hC) (Int.le_of_lt hA)
  have e1 : (val A + val B) * val C = val C * val A + val B * val C := by rw [Int.add_mul, Int.mul_comm (val A)]
  obtain ⟨_, pf⟩ := mul_fits sf.bytes hc sf.right rc (by rw [hL, sf.val, e1]; omega)
  obtain ⟨_, qf⟩ := mul_fits hc ha rc ra (by rw [hL]; omega)
  obtain ⟨_, rf⟩ := mul_fits hb hc rb rc (by rw [hL]; omega)
  obtain ⟨_, tf⟩ := add1_fits qf.bytes rf.bytes qf.right rf.right (by rw [hL, qf.val, rf.val]; omega)
  obtain ⟨d0, df⟩ := sub_fits sf.bytes hb sf.right rb (by rw [sf.val]; omega)
  rw [sf.val, e1] at pf
  rw [qf.val, rf.val] at tf
  rw [sf.val, show val A + val B - val B = val A by omega] at df
  rw [show val C + val A + val B = val A + val B + val C by omega] at yf
  exact ⟨_, _, _, _, _, x0, rfl, y0, yf.eq xf, s0, rfl, sf.ok, rfl, rfl, rfl, qf.ok, rf.ok, tf.eq pf, d0, df.eq fA⟩
theorem laws_div {A B : List Int} (ha : Bytes A) (hb : Bytes B) (ra : rightB A = true) (rb : rightB B = true) (hn : B ≠ []) :
    ∃ U V K, divE A B = 0 ∧ divQ A B = U ∧ divR A B = V ∧ Ok U ∧ Ok V ∧ mulO U B = K ∧ Ok K ∧ addO K [V] = A ∧ cmpV (val V) (val B) = -1 := by
  obtain ⟨h0, hq, hr, hp⟩ := div_fits ha hb ra rb hn
  have h2 := right_lt ha ra
  have h4 := val_nonneg ha
  have h8 := Int.emod_lt_of_pos (val A) hp
  have h9 := Int.emod_nonneg (val A) (Int.ne_of_gt hp)
  have h7 := Int.ediv_nonneg h4 (Int.le_of_lt hp)
  have e := Int.mul_ediv_add_emod (val A) (val B)
  rw [Int.mul_comm] at e
  have fA := fit_self ha ra
  obtain ⟨_, kf⟩ := mul_fits hq.bytes hb hq.right rb (by rw [hq.val]; omega)
  rw [hq.val] at kf
  obtain ⟨_, zf⟩ := add1_fits kf.bytes hr.bytes kf.right hr.right (by rw [kf.val, hr.val, e]; exact h2)
  rw [kf.val, hr.val, e] at zf
  exact ⟨_, _, _, h0, rfl, rfl, hq.ok, hr.ok, rfl, kf.ok, zf.eq fA, by rw [hr.val]; exact cmpV_lt h8⟩
theorem dgt_app {xs ys : List Int} (h : xs ≠ []) : dgt (xs ++ ys) 0 = dgt xs 0 := by
  cases xs with
  | nil => exact absurd rfl h
  | cons x xs => rfl
theorem dec_lead : ∀ n : Nat, n ≠ 0 → dgt (dec n) 0 ≠ 48
  | n, h => by
    by_cases h1 : n < 10
    · rw [dec_small h1]
      show ((48 + n : Nat) : Int) ≠ 48
      omega
    · rw [dec_big h1, dgt_app (dec_ne _)]
      exact dec_lead (n / 10) (by omega)
termination_by n => n
decreasing_by omega
theorem form_dec (n : Nat) : formB (dec n) = true := by
  unfold formB
  rw [decide_eq_true_iff]
  refine ⟨dec_dec n, dec_ne n, fun ⟨h1, h2⟩ => ?_⟩
  by_cases h : n = 0
  · subst h
    rw [dec_small (by decide)] at h2
    simp at h2
  · exact dec_lead n h h1
theorem dec_dval : ∀ (k : Nat) (cs : List Int), cs.length = k → formB cs = true → dec (dval cs).toNat = cs
  | k, cs, hk, hf => by
    unfold formB at hf
    rw [decide_eq_true_iff] at hf
    obtain ⟨hd, hne, hl⟩ := hf
    have hs : cs.dropLast ++ [cs.getLast hne] = cs := List.dropLast_concat_getLast hne
    generalize cs.dropLast = xs at hs
    generalize cs.getLast hne = c at hs
    subst hs
    have hc := hd c (by simp)
    rw [dval_snoc]
    by_cases hx : xs = []
    · subst hx
      show dec ((10 * 0 + (c - 48) : Int)).toNat = [c]
      rw [dec_small (by omega)]
      congr 1
      omega
    · have hdx : Dec xs := fun d h => hd d (List.mem_append_left _ h)
      have hlx : 0 < xs.length := List.length_pos_iff.2 hx
      have h0 : dgt xs 0 ≠ 48 := fun h => hl ⟨by rw [dgt_app hx]; exact h, by simp; omega⟩
      have hk2 : xs.length < k := by rw [← hk]; simp
      have ih := dec_dval xs.length xs rfl (by
        unfold formB
        rw [decide_eq_true_iff]
        exact ⟨hdx, hx, fun h => h0 h.1⟩)
      have h1 : 1 ≤ dval xs := by
        cases xs with
        | nil => exact absurd rfl hx
        | cons x r =>
          have h2 : dval [x] ≤ dval ([x] ++ r) := dval_mono r.length [x] r rfl hdx
          have h3 : dval [x] = x - 48 := by show (10 * 0 + (x - 48) : Int) = x - 48; omega
          have h4 := hdx x (by simp)
          have h5 : x ≠ 48 := h0
          have h6 : [x] ++ r = x :: r := rfl
          rw [h6] at h2
          omega
      rw [dec_big (by omega), show (10 * dval xs + (c - 48)).toNat / 10 = (dval xs).toNat by omega, ih]
      congr 2
      omega
termination_by k => k
decreasing_by exact hk2
theorem dec_bytes (n : Nat) : Bytes (dec n) := fun c h => by
  have := dec_dec n c h
  omega
theorem back_text {B : List Int} (hb : Bytes B) (rb : rightB B = true) (hl : B.length ≤ 60) : Bytes (textO B) ∧ (textO B).length ≤ 1000000 ∧ readE (textO B) = 0 ∧ readO (textO B) = B := by
  have h0 := val_nonneg hb
  have h1 := right_lt hb rb
  have e : textO B = dec (val B).toNat := by unfold textO; rw [if_pos rb]
  have h2 : ((val B).toNat : Int) < 10 ^ 150 := by
    rw [Int.toNat_of_nonneg h0]
    exact Int.lt_of_lt_of_le (lt_pow hb hl) (by decide)
  have h3 := dec_len 150 _ h2
  obtain ⟨t1, t2, _⟩ := told_small h0 h1
  rw [e]
  refine ⟨dec_bytes _, by omega, ?_, ?_⟩
  · unfold readE
    rw [if_pos (form_dec _), dval_dec, show ((((val B).toNat : Nat) : Int)).toNat = (val B).toNat from rfl]
    exact t1
  · unfold readO
    rw [if_pos (form_dec _), dval_dec, show ((((val B).toNat : Nat) : Int)).toNat = (val B).toNat from rfl, t2]
    exact right_val hb rb
theorem back_read {cs : List Int} (h : readE cs = 0) : Ok (readO cs) ∧ textO (readO cs) = cs := by
  unfold readE at h
  unfold readO
  split at h
  · rename_i hf
    rw [if_pos hf]
    have hl : (dig (dval cs).toNat).length ≤ 400 := by
      unfold toldE at h
      split at h
      · assumption
      · cases h
    have e : toldO (dig (dval cs).toNat) = dig (dval cs).toNat := by unfold toldO; rw [if_pos hl]
    rw [e]
    refine ⟨⟨dig_bytes _, by omega⟩, ?_⟩
    unfold textO
    rw [if_pos (right_dig (dig_len.1 hl)), val_dig, show ((((dval cs).toNat : Nat) : Int)).toNat = (dval cs).toNat from rfl]
    exact dec_dval _ cs rfl hf
  · cases h
theorem back_num {n m : Int} (h0 : 0 ≤ n) (h1 : n ≤ 4294967295) (k0 : 0 ≤ m) (k1 : m ≤ 4294967295) :
    ∃ X Y P Q, ofE n = 0 ∧ ofO n = X ∧ ofE m = 0 ∧ ofO m = Y ∧ Ok X ∧ Ok Y ∧ mulE X Y = 0 ∧ mulO X Y = P ∧ Ok P ∧ addE X [Y] = 0 ∧ addO X [Y] = Q ∧ Ok Q ∧ intB Q = true ∧ intV Q = n + m ∧ (n * m ≤ 9223372036854775807 → intB P = true ∧ intV P = n * m) := by
  have h8 : (18446744073709551616 : Int) ≤ 256 ^ 400 := Int.le_trans (by decide : (18446744073709551616 : Int) ≤ 256 ^ 8) (pow_mono (by decide))
  have hm : n * m ≤ 4294967295 * 4294967295 := mul_le_M h0 k0 h1 k1
  have hm0 : 0 ≤ n * m := Int.mul_nonneg h0 k0
  generalize hL : (256 : Int) ^ 400 = L at *
  have xf : Fit (dig n.toNat) n := fit_dig h0 (by rw [hL]; omega)
  have yf : Fit (dig m.toNat) m := fit_dig k0 (by rw [hL]; omega)
  obtain ⟨p0, pf⟩ := mul_fits xf.bytes yf.bytes xf.right yf.right (by rw [hL, xf.val, yf.val]; omega)
  obtain ⟨q0, qf⟩ := add1_fits xf.bytes yf.bytes xf.right yf.right (by rw [hL, xf.val, yf.val]; omega)
  rw [xf.val, yf.val] at pf qf
  obtain ⟨_, i2, i3, _⟩ := int_facts (n := n + m) (by omega) (by omega)
  have e1 : ofE n = 0 := by unfold ofE; rw [if_neg (by omega)]
  have e2 : ofO n = dig n.toNat := by unfold ofO; rw [if_neg (by omega)]
  have e3 : ofE m = 0 := by unfold ofE; rw [if_neg (by omega)]
  have e4 : ofO m = dig m.toNat := by unfold ofO; rw [if_neg (by omega)]
  refine ⟨_, _, _, _, e1, e2, e3, e4, xf.ok, yf.ok, p0, rfl, pf.ok, q0, rfl, qf.ok, by rw [qf.is]; exact i2, by rw [qf.is]; exact i3, fun h => ?_⟩
  obtain ⟨_, j2, j3, _⟩ := int_facts hm0 h
  rw [pf.is]
  exact ⟨j2, j3⟩
end Go.Proofs.YtbfacdfmanffdaaGreatDoor
