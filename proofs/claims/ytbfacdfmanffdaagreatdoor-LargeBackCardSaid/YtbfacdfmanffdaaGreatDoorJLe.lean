/- Package large's Of, less, Sub and Mul. -/
import Derived.Test.YtbfacdfmanffdaaGreatDoorJSe
import Derived.Test.YtbfacdfmanffdaaGreatDoorJTa
namespace Go.Proofs.YtbfacdfmanffdaaGreatDoor
set_option maxRecDepth 1000000
open Go.ChangeShapes Go.WideShapes Go.ChangeAt Go.RowKit

set_option maxHeartbeats 4000000 in
theorem of_code (n : Int) (w : World) (h0 : -9223372036854775808 ≤ n) (h1 : n ≤ 9223372036854775807) : Calls Tryz.prog 7 #[.int .i64 n] w (NumB (ofE n) (ofO n) w) := by
  by_cases hn : n < 0
  · have d1 : decide (n < 0) = true := by simpa using hn
    have e1 : ofE n = 2 := by unfold ofE; rw [if_pos hn]
    have e2 : ofO n = [] := by unfold ofO; rw [if_pos hn]
    rw [e1, e2]
    clear hn e1 e2
    go_enter Tryz.func7, Tryz.ntmps7
    go_wp2_with fail
    go_ret2
    exact ⟨_, rfl, bts_nil _ _, Below.refl _ _⟩
  · have d1 : decide (n < 0) = false := by simp; omega
    have hv : sumV (fun _ => n) 1 = n := by simp [sumV]
    have R : RowF (w.alloc (.cells #[.int .i64 n] 3)) w.heap.size 1 (fun _ => n) := ⟨fun j hj => by
      obtain rfl : j = 0 := by omega
      rw [World.cell?_alloc_at _ _ _ _ rfl]; rfl, fun j => frozen_one _ _ _ _, by simp⟩
    have R2 := R.as (f' := fun j => if j = 0 then n else 0) fun j hj => by rw [if_pos (by omega)]
    have hv2 : sumV (fun j => if j = 0 then n else 0) 1 = n := by simp [sumV]
    have CS := settle_code w.heap.size 1 _ _ R2 ⟨fun j => by split <;> omega, fun j hj => by rw [if_neg (by omega)]; omega⟩ (by decide)
    rw [hv2] at CS
    have e0 : setE n = ofE n ∧ setO n = ofO n := by
      have hl : (dig n.toNat).length ≤ 400 := by
        have : (dig n.toNat).length ≤ 8 := dig_len.2 (by
          have : (256 : Int) ^ 8 = 18446744073709551616 := by decide
          omega)
        omega
      unfold setE setO ofE ofO toldE toldO
      rw [if_neg hn, if_neg hn, if_neg hn, if_neg hn, if_pos hl, if_pos hl]
      exact ⟨rfl, rfl⟩
    unfold SetPost at CS
    rw [e0.1, e0.2] at CS
    have HCS := Lib.hid CS
    clear R R2 CS hv hv2 e0 hn
    generalize ofE n = r at *
    generalize ofO n = O at *
    go_enter Tryz.func7, Tryz.ntmps7
    go_wp2_with (go_at_call 21; refine HCS.out.mono ?_; rintro e w2 ⟨v, rfl, hv, hb⟩; have HV := Lib.hid hv; have HB := Lib.hid hb; clear hv hb)
    go_ret2
    exact ⟨_, rfl, Bts.kind HV.out fun _ _ _ => trivial, (below_new w _).trans (HB.out.mono (by simp))⟩
theorem pow_le256 {a b : Nat} (h : a ≤ b) : (256 : Int) ^ a ≤ 256 ^ b := by
  obtain ⟨k, rfl⟩ := Nat.le.dest h
  rw [Int.pow_add]
  have h1 := pow_pos256 a
  have h2 := pow_pos256 k
  have : (256 : Int) ^ a * 1 ≤ 256 ^ a * 256 ^ k := Int.mul_le_mul_of_nonneg_left (by omega) (Int.le_of_lt h1)
  omega
theorem sumV_zero : ∀ m, sumV (fun _ => 0) m = 0
  | 0 => rfl
  | m + 1 => by simp [sumV, sumV_zero m]
set_option maxHeartbeats 8000000 in
theorem less_code {N M : Nat → Prop} (v1 v2 : Value) (A B : List Int) (n : Int) (w : World) (h1 : Bts N w v1 A) (b1 : Bytes A) (hl1 : A.length ≤ 100000) (h2 : Bts M w v2 B) (b2 : Bytes B) (hl2 : B.length ≤ 100000) (hn0 : 0 ≤ n) (hn1 : n ≤ 1000) :
    Calls Tryz.prog 40 #[v1, v2, .int .i64 n] w (SetPost (val A - n * val B) w) := by
  have HV1 : Hid (Bts (· < w.heap.size) w v1 A) := Lib.hid (Bts.kind h1 fun b h _ => h)
  have HV2 : Hid (Bts (· < w.heap.size) w v2 B) := Lib.hid (Bts.kind h2 fun b h _ => h)
  have HB1 := Lib.hid b1
  have HB2 := Lib.hid b2
  obtain ⟨l1, e1⟩ : ∃ k, A.length = k := ⟨_, rfl⟩
  obtain ⟨l2, e2⟩ : ∃ k, B.length = k := ⟨_, rfl⟩
  obtain ⟨a1, c1, rfl, _⟩ := Bts.form h1
  obtain ⟨a2, c2, rfl, _⟩ := Bts.form h2
  rw [e1] at HV1 hl1 ⊢
  rw [e2] at HV2 hl2 ⊢
  have HL1 := Lib.hid e1
  have HL2 := Lib.hid e2
  unfold SetPost
  obtain ⟨r, hr⟩ : ∃ r, setE (val A - n * val B) = r := ⟨_, rfl⟩
  obtain ⟨O, hO⟩ : ∃ O, setO (val A - n * val B) = O := ⟨_, rfl⟩
  rw [hr, hO]
  have HRr := Lib.hid hr
  have HOo := Lib.hid hO
  clear h1 h2 b1 b2 e1 e2 hr hO
  by_cases hlt : l1 < l2
  · have d1 : decide ((l1 : Int) < l2) = true := by simpa using hlt
    have d2 : decide (l1 < l2) = true := by simpa using hlt
    have hmk := mk_ints w l2 (by omega)
    have R0 : Hid (RowF (w.alloc (.cells (madeCells #[Value.int .i64 0] l2) 3)) w.heap.size l2 (fun _ => 0)) := Lib.hid ⟨fun j hj => made_int w l2 j hj, fun j => frozen_one _ _ _ _, by simp⟩
    have K0 : Hid (Below w.heap.size w (w.alloc (.cells (madeCells #[Value.int .i64 0] l2) 3))) := Lib.hid (below_new w _)
    have Z0 : Hid ((w.alloc (.cells (madeCells #[Value.int .i64 0] l2) 3)).heap.size = w.heap.size + 1) := Lib.hid (by simp)
    go_enter Tryz.func40, Tryz.ntmps40
    go_upto_region 2 with fail
    generalize w.alloc (.cells (madeCells #[Value.int .i64 0] l2) 3) = w1 at *
    clear hmk
    have C1 := Lib.hid (tally_code w.heap.size 0 l2 l2 l2 (fun _ => 0) 0 1 _ A 1 w1 R0.out (HV1.out.next K0.out) (fun b hb => by show b ≠ w.heap.size; have : b < w.heap.size := hb; omega) HB1.out (by rw [HL1.out]; omega) (Nat.le_refl _) (by omega) (by omega) (lim_zero (by decide)) (by decide) (by decide) (by decide))
    rw [HL1.out] at C1
    go_upto_region 3 with (go_at_call 26; refine C1.out.mono ?_; rintro e w2 ⟨rfl, hr2, ho2⟩; have R2 := Lib.hid hr2; have O2 := Lib.hid ho2; clear hr2 ho2)
    have K2 : Hid (Below w.heap.size w w2) := Lib.hid (K0.out.trans (O2.out.below (fun i hi h => by omega) K0.out.size))
    have C2 := Lib.hid (tally_code w.heap.size 0 l2 l2 l2 _ (0 + 255 * 1) 1000 _ B (-n) w2 R2.out (HV2.out.next K2.out) (fun b hb => by show b ≠ w.heap.size; have : b < w.heap.size := hb; omega) HB2.out (by rw [HL2.out]; omega) (Nat.le_refl _) (by omega) (by omega) (lim_tally (lim_zero (by decide)) HB1.out (by decide)) (by omega) (by decide) (by decide))
    rw [HL2.out] at C2
    clear R0 K0 C1 O2
    go_upto_region 4 with (go_at_call 26; refine C2.out.mono ?_; rintro e w3 ⟨rfl, hr3, ho3⟩; have R3 := Lib.hid hr3; have O3 := Lib.hid ho3; clear hr3 ho3)
    have K3 : Hid (Below w.heap.size w w3) := Lib.hid (K2.out.trans (O3.out.below (fun i hi h => by omega) K2.out.size))
    have hV : sumV (tallyF (tallyF (fun _ => 0) 0 A 1 l1) 0 B (-n) l2) l2 = val A - n * val B := by
      have e1 := tally_all (tallyF (fun _ => 0) 0 A 1 l1) 0 l2 B (-n) (by rw [HL2.out]; omega)
      have e2 := tally_all (fun _ => 0) 0 l2 A 1 (by rw [HL1.out]; omega)
      rw [HL1.out] at e2
      rw [HL2.out, e2, sumV_zero] at e1
      rw [e1]
      simp only [Int.pow_zero, Int.one_mul, Int.neg_mul]
      omega
    have C3 := settle_code w.heap.size l2 _ w3 R3.out ((lim_tally (K := 1000) (lim_tally (K := 1) (lim_zero (M := 0) (by decide)) HB1.out (by decide)) HB2.out (by omega)).s (by decide)) (by omega)
    rw [hV] at C3
    unfold SetPost at C3
    rw [HRr.out, HOo.out] at C3
    have HC3 := Lib.hid C3
    clear C3 hV C2 R2 O3 R3 K2
    go_wp2_with (go_at_call 21; refine HC3.out.mono ?_; rintro e w4 ⟨v, rfl, hv, hb⟩; have HV := Lib.hid hv; have HB := Lib.hid hb; clear hv hb)
    go_ret2
    exact ⟨_, rfl, Bts.kind HV.out fun _ _ h => Nat.le_trans K3.out.size h, K3.out.trans (HB.out.mono K3.out.size)⟩
  · have d1 : decide ((l1 : Int) < l2) = false := by simp; omega
    have d2 : decide (l1 < l2) = false := by simpa using hlt
    have hmk := mk_ints w l1 (by omega)
    have R0 : Hid (RowF (w.alloc (.cells (madeCells #[Value.int .i64 0] l1) 3)) w.heap.size l1 (fun _ => 0)) := Lib.hid ⟨fun j hj => made_int w l1 j hj, fun j => frozen_one _ _ _ _, by simp⟩
    have K0 : Hid (Below w.heap.size w (w.alloc (.cells (madeCells #[Value.int .i64 0] l1) 3))) := Lib.hid (below_new w _)
    have Z0 : Hid ((w.alloc (.cells (madeCells #[Value.int .i64 0] l1) 3)).heap.size = w.heap.size + 1) := Lib.hid (by simp)
    go_enter Tryz.func40, Tryz.ntmps40
    go_upto_region 2 with fail
    generalize w.alloc (.cells (madeCells #[Value.int .i64 0] l1) 3) = w1 at *
    clear hmk
    have C1 := Lib.hid (tally_code w.heap.size 0 l1 l1 l1 (fun _ => 0) 0 1 _ A 1 w1 R0.out (HV1.out.next K0.out) (fun b hb => by show b ≠ w.heap.size; have : b < w.heap.size := hb; omega) HB1.out (by rw [HL1.out]; omega) (Nat.le_refl _) (by omega) (by omega) (lim_zero (by decide)) (by decide) (by decide) (by decide))
    rw [HL1.out] at C1
    go_upto_region 3 with (go_at_call 26; refine C1.out.mono ?_; rintro e w2 ⟨rfl, hr2, ho2⟩; have R2 := Lib.hid hr2; have O2 := Lib.hid ho2; clear hr2 ho2)
    have K2 : Hid (Below w.heap.size w w2) := Lib.hid (K0.out.trans (O2.out.below (fun i hi h => by omega) K0.out.size))
    have C2 := Lib.hid (tally_code w.heap.size 0 l1 l1 l1 _ (0 + 255 * 1) 1000 _ B (-n) w2 R2.out (HV2.out.next K2.out) (fun b hb => by show b ≠ w.heap.size; have : b < w.heap.size := hb; omega) HB2.out (by rw [HL2.out]; omega) (Nat.le_refl _) (by omega) (by omega) (lim_tally (lim_zero (by decide)) HB1.out (by decide)) (by omega) (by decide) (by decide))
    rw [HL2.out] at C2
    clear R0 K0 C1 O2
    go_upto_region 4 with (go_at_call 26; refine C2.out.mono ?_; rintro e w3 ⟨rfl, hr3, ho3⟩; have R3 := Lib.hid hr3; have O3 := Lib.hid ho3; clear hr3 ho3)
    have K3 : Hid (Below w.heap.size w w3) := Lib.hid (K2.out.trans (O3.out.below (fun i hi h => by omega) K2.out.size))
    have hV : sumV (tallyF (tallyF (fun _ => 0) 0 A 1 l1) 0 B (-n) l2) l1 = val A - n * val B := by
      have e1 := tally_all (tallyF (fun _ => 0) 0 A 1 l1) 0 l1 B (-n) (by rw [HL2.out]; omega)
      have e2 := tally_all (fun _ => 0) 0 l1 A 1 (by rw [HL1.out]; omega)
      rw [HL1.out] at e2
      rw [HL2.out, e2, sumV_zero] at e1
      rw [e1]
      simp only [Int.pow_zero, Int.one_mul, Int.neg_mul]
      omega
    have C3 := settle_code w.heap.size l1 _ w3 R3.out ((lim_tally (K := 1000) (lim_tally (K := 1) (lim_zero (M := 0) (by decide)) HB1.out (by decide)) HB2.out (by omega)).s (by decide)) (by omega)
    rw [hV] at C3
    unfold SetPost at C3
    rw [HRr.out, HOo.out] at C3
    have HC3 := Lib.hid C3
    clear C3 hV C2 R2 O3 R3 K2
    go_wp2_with (go_at_call 21; refine HC3.out.mono ?_; rintro e w4 ⟨v, rfl, hv, hb⟩; have HV := Lib.hid hv; have HB := Lib.hid hb; clear hv hb)
    go_ret2
    exact ⟨_, rfl, Bts.kind HV.out fun _ _ h => Nat.le_trans K3.out.size h, K3.out.trans (HB.out.mono K3.out.size)⟩
set_option maxHeartbeats 8000000 in
theorem sub_code {N M : Nat → Prop} (v1 v2 : Value) (A B : List Int) (w : World) (h1 : Bts N w v1 A) (b1 : Bytes A) (l1 : A.length ≤ 1000000000000) (h2 : Bts M w v2 B) (b2 : Bytes B) (l2 : B.length ≤ 1000000000000) : Calls Tryz.prog 20 #[v1, v2] w (NumB (subE A B) (subO A B) w) := by
  have C1 := Lib.hid (right_is v1 A w h1 l1)
  have C2 := Lib.hid (right_is v2 B w h2 l2)
  unfold NumB
  cases hr1 : rightB A with
  | false =>
    have e1 : subE A B = 2 := by unfold subE; rw [if_pos (by simp [hr1])]
    have e2 : subO A B = [] := by unfold subO; rw [e1]; rfl
    rw [e1, e2]
    rw [hr1] at C1
    clear e1 e2 hr1 h1 h2 b1 b2 l1 l2
    obtain ⟨x, hx⟩ : ∃ x, rightB B = x := ⟨_, rfl⟩
    rw [hx] at C2
    go_enter Tryz.func20, Tryz.ntmps20
    go_wp2_with (go_at_call 16; refine C1.out.mono ?_; rintro e w2 ⟨rfl, rfl⟩)
    go_ret2
    exact ⟨_, rfl, bts_nil _ _, Below.refl _ _⟩
  | true =>
    cases hr2 : rightB B with
    | false =>
      have e1 : subE A B = 2 := by unfold subE; rw [if_pos (by simp [hr2])]
      have e2 : subO A B = [] := by unfold subO; rw [e1]; rfl
      rw [e1, e2]
      rw [hr1] at C1
      rw [hr2] at C2
      clear e1 e2 hr1 hr2 h1 h2 b1 b2 l1 l2
      go_enter Tryz.func20, Tryz.ntmps20
      go_wp2_with (first | (go_at_call 16; with_reducible refine C1.out.mono ?_; rintro e w2 ⟨rfl, rfl⟩; clear C1) | (go_at_call 16; with_reducible refine C2.out.mono ?_; rintro e w2 ⟨rfl, rfl⟩))
      go_ret2
      exact ⟨_, rfl, bts_nil _ _, Below.refl _ _⟩
    | true =>
      have r1 := right_len hr1
      have r2 := right_len hr2
      have C3 := less_code v1 v2 A B 1 w h1 b1 (by omega) h2 b2 (by omega) (by decide) (by decide)
      have e1 : setE (val A - 1 * val B) = subE A B ∧ setO (val A - 1 * val B) = subO A B := by
        rw [Int.one_mul]
        have hc : ¬ ¬ (rightB A = true ∧ rightB B = true) := fun h => h ⟨hr1, hr2⟩
        by_cases hV : val A < val B
        · have e : subE A B = 4 := by unfold subE; rw [if_neg hc, if_pos hV]
          unfold setE setO subO
          rw [e, if_pos (by omega), if_pos (by omega)]
          exact ⟨rfl, rfl⟩
        · have e : subE A B = 0 := by unfold subE; rw [if_neg hc, if_neg hV]
          have hl : (dig (val A - val B).toNat).length ≤ 400 := dig_len.2 (by
            have h3 := val_lt b1
            have h4 := val_nonneg b2
            have h5 : (256 : Int) ^ A.length ≤ 256 ^ 400 := pow_le256 (by omega)
            omega)
          unfold setE setO subO toldE toldO
          have hV' : ¬ val A - val B < 0 := by omega
          rw [e, if_neg hV', if_neg hV', if_pos hl, if_pos hl]
          exact ⟨rfl, rfl⟩
      unfold SetPost at C3
      rw [e1.1, e1.2] at C3
      have HC3 := Lib.hid C3
      rw [hr1] at C1
      rw [hr2] at C2
      clear C3 e1 hr1 hr2 h1 h2 b1 b2 l1 l2 r1 r2
      generalize subE A B = r at *
      generalize subO A B = O at *
      go_enter Tryz.func20, Tryz.ntmps20
      go_wp2_with (first | (go_at_call 40; refine HC3.out.mono ?_; rintro e w4 ⟨v, rfl, hv, hb⟩; have HV := Lib.hid hv; have HB := Lib.hid hb; clear hv hb) | (go_at_call 16; with_reducible refine C1.out.mono ?_; rintro e w2 ⟨rfl, rfl⟩; clear C1) | (go_at_call 16; with_reducible refine C2.out.mono ?_; rintro e w2 ⟨rfl, rfl⟩))
      go_ret2
      exact ⟨_, rfl, Bts.kind HV.out fun _ _ _ => trivial, HB.out⟩
end Go.Proofs.YtbfacdfmanffdaaGreatDoor
