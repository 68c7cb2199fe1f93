/- Package large's cut: how often one goes into another, and what is left. -/
import Derived.Test.YtbfacdfmanffdaaGreatDoorJGu
import Derived.Test.YtbfacdfmanffdaaGreatDoorJCm
import Derived.Test.YtbfacdfmanffdaaGreatDoorJMu
namespace Go.Proofs.YtbfacdfmanffdaaGreatDoor
set_option maxRecDepth 1000000
open Go.ChangeShapes Go.WideShapes Go.ChangeAt Go.RowKit

theorem cut_step {VA VB n k A : Int} (h : n * VB + A = VA) : (n + k) * VB + (A - k * VB) = VA := by rw [Int.add_mul]; omega
theorem cmpV_ge {a b : Int} : (0 ≤ cmpV a b) ↔ b ≤ a := by
  rcases Int.lt_trichotomy a b with h | h | h
  · rw [cmpV_lt h]; omega
  · subst h; rw [cmpV_eq]; omega
  · rw [cmpV_gt h]; omega
/-- What cut answers. -/
def CutPost (N : Nat → Prop) (A B : List Int) (w : World) (e : Ending) (w' : World) : Prop := ∃ x m c, e = .returned (.tuple #[.int .u8 (val A / val B), .slice x m c]) ∧ Bts (fun b => N b ∨ w.heap.size ≤ b) w' (.slice x m c) (dig (val A % val B).toNat) ∧ Below w.heap.size w w'
set_option maxHeartbeats 8000000 in
theorem cut_code {N M : Nat → Prop} (v1 v2 : Value) (A B : List Int) (w : World) (h1 : Bts N w v1 A) (b1 : Bytes A) (l1 : A.length ≤ 400) (h2 : Bts M w v2 B) (b2 : Bytes B) (l2 : B.length ≤ 400) (rA : Bare A) (rB : Bare B) (hB : B ≠ []) (hlt : val A < 256 * val B) :
    Calls Tryz.prog 39 #[v1, v2] w (CutPost N A B w) := by
  have hVB := bare_pos b2 rB hB
  have hVA := val_nonneg b1
  have HVB := Lib.hid hVB
  have HB2 := Lib.hid b2
  have HR2 := Lib.hid rB
  have HNE := Lib.hid hB
  have HV2 : Hid (Bts (· < w.heap.size) w v2 B) := Lib.hid (Bts.kind h2 fun b h _ => h)
  have H0 : Hid (∃ L : List Int, Bts (fun b => N b ∨ w.heap.size ≤ b) w v1 L ∧ Bytes L ∧ Bare L ∧ L.length ≤ 400 ∧ val L < 256 * val B ∧ (0 : Int) * val B + val L = val A) := Lib.hid ⟨A, Bts.kind h1 fun _ _ h => .inl h, b1, rA, l1, hlt, by omega⟩
  have hd0 : ∀ n : Int, 0 ≤ n → n * val B ≤ val A → n ≤ 255 := fun n _ hn => by
    have : n < 256 := by
      refine Int.lt_of_not_ge fun hc => ?_
      have : 256 * val B ≤ n * val B := Int.mul_le_mul_of_nonneg_right hc (Int.le_of_lt hVB)
      omega
    omega
  have HD0 := Lib.hid hd0
  obtain ⟨a1, c1, rfl, hc1⟩ := Bts.form h1
  obtain ⟨a2, c2, rfl, hc2⟩ := Bts.form h2
  obtain ⟨n1, e1⟩ : ∃ k, A.length = k := ⟨_, rfl⟩
  obtain ⟨n2, e2⟩ : ∃ k, B.length = k := ⟨_, rfl⟩
  rw [e1] at hc1 H0 l1 ⊢
  rw [e2] at hc2 HV2 l2 ⊢
  have HN2 := Lib.hid e2
  obtain ⟨VA, eVA⟩ : ∃ V, val A = V := ⟨_, rfl⟩
  obtain ⟨VB, eVB⟩ : ∃ V, val B = V := ⟨_, rfl⟩
  unfold CutPost
  rw [eVA, eVB] at H0 HD0 ⊢
  rw [eVB] at HVB
  have HEB := Lib.hid eVB
  obtain ⟨Q, hQ⟩ : ∃ Q, VA / VB = Q := ⟨_, rfl⟩
  obtain ⟨R, hR⟩ : ∃ R, VA % VB = R := ⟨_, rfl⟩
  rw [hQ, hR]
  have HQ := Lib.hid hQ
  have HR := Lib.hid hR
  clear h1 h2 b1 b2 rA rB hB hlt hVB hVA hd0 e1 e2 eVA eVB hQ hR
  go_enter Tryz.func39, Tryz.ntmps39
  go_wp2_with fail
  go_loopw [0, 6] (fun s0 s6 wr => ∃ (x : Option Addr) (m c : Nat) (n : Int), s0 = .slice x m c ∧ s6 = .int .i64 n ∧ 0 ≤ n ∧ n ≤ 255 ∧ Hid (∃ L : List Int, L.length = m ∧ Bts (fun b => N b ∨ w.heap.size ≤ b) wr (.slice x m c) L ∧ Bytes L ∧ Bare L ∧ L.length ≤ 400 ∧ val L < 256 * VB ∧ n * VB + val L = VA) ∧ Hid (Below w.heap.size w wr)) (fun _ s6 _ => (256 - RowKit.intOf s6).toNat)
  case atStart =>
    exact ⟨a1, n1, c1, 0, rfl, rfl, Int.le_refl _, by decide, Lib.hid (by
      obtain ⟨L, h1, h⟩ := H0.out
      obtain ⟨a', c', he, _⟩ := Bts.form h1
      injection he with _ e _
      exact ⟨L, e.symm, h1, h⟩), Lib.hid (Below.refl _ _)⟩
  case round =>
    clear H0
    obtain ⟨x, m, c, n, rfl, rfl, hn0, hn1, HL, HK⟩ := hrel
    have HC : Hid (∃ V : Int, n * VB + V = VA ∧ 0 ≤ V ∧ V < 256 * VB ∧ (∀ L : List Int, Bytes L → Bare L → val L = V → L = dig V.toNat) ∧ Bts (fun b => N b ∨ w.heap.size ≤ b) wr (.slice x m c) (dig V.toNat) ∧ Calls Tryz.prog 62 #[.slice x m c, .slice a2 n2 c2] wr (ValB (.int .i64 (cmpV V VB)) wr) ∧
        (VB ≤ V → (∀ w', Below wr.heap.size wr w' → Calls Tryz.prog 63 #[.slice x m c, .slice a2 n2 c2] w' fun e w'' => ∃ k : Int, e = .returned (.int .i64 k) ∧ 1 ≤ k ∧ k ≤ 255 ∧ k * VB ≤ V ∧ Below w'.heap.size w' w'') ∧
          ∀ w' k, Below wr.heap.size wr w' → 1 ≤ k → k ≤ 255 → k * VB ≤ V → Calls Tryz.prog 40 #[.slice x m c, .slice a2 n2 c2, .int .i64 k] w' fun e w'' => ∃ x m c, e = .returned (.tuple #[.slice x m c, .int .i64 0]) ∧ Hid (∃ L : List Int, L.length = m ∧ Bts (fun b => N b ∨ w.heap.size ≤ b) w'' (.slice x m c) L ∧ Bytes L ∧ Bare L ∧ L.length ≤ 400 ∧ val L < 256 * VB ∧ (n + k) * VB + val L = VA) ∧ Below w'.heap.size w' w'')) := Lib.hid (by
      obtain ⟨L, hm, hb, hB1, hR1, hl, hlt, hv⟩ := HL.out
      have hB2 := HB2.out
      have hw2 : Bts (· < w.heap.size) wr (.slice a2 n2 c2) B := Bts.only HV2.out (F := fun k => w.heap.size ≤ k) ⟨HK.out.os, HK.out.tape, HK.out.output, HK.out.size, fun k hk _ => HK.out.block k hk⟩ (fun b h h2 => by omega)
      have h0 := val_nonneg hB1
      refine ⟨val L, hv, h0, hlt, fun L' b' r' e => by rw [← e]; exact (dig_val b' r').symm, by rw [dig_val hB1 hR1]; exact hb, ?_, fun hle => ⟨fun w' hbw => ?_, fun w' k hbw k1 k2 k3 => ?_⟩⟩
      · have := cmp_code _ _ L B wr hb hB1 (by omega) hw2 hB2 (by have := HN2.out; omega)
        rwa [HEB.out] at this
      · have := guess_code _ _ L B w' (hb.next hbw) hB1 (by omega) (hw2.next hbw) hB2 (by have := HN2.out; omega) hR1 HR2.out HNE.out (by rw [HEB.out]; exact hle) (by rw [HEB.out]; exact hlt)
        rwa [HEB.out] at this
      · have C := less_code _ _ L B k w' (hb.next hbw) hB1 (by omega) (hw2.next hbw) hB2 (by have := HN2.out; omega) (by omega) (by omega)
        rw [HEB.out] at C
        have hV : 0 ≤ val L - k * VB := by omega
        have hp : 0 ≤ k * VB := Int.mul_nonneg (by omega) (Int.le_of_lt HVB.out)
        have hl4 : (dig (val L - k * VB).toNat).length ≤ 400 := by
          rw [dig_len, Int.toNat_of_nonneg hV]
          have h3 := val_lt hB1
          have h5 : (256 : Int) ^ L.length ≤ 256 ^ 400 := pow_le256 hl
          omega
        refine C.mono ?_
        rintro e w'' ⟨v, rfl, hv', hb'⟩
        obtain ⟨p1, p2⟩ := set_pos hV
        rw [p2] at hv'
        unfold toldO at hv'
        rw [if_pos hl4] at hv'
        obtain ⟨x', c', rfl, _⟩ := Bts.form hv'
        refine ⟨x', _, c', by rw [p1]; unfold toldE; rw [if_pos hl4], Lib.hid ⟨_, rfl, Bts.kind hv' fun _ _ h => .inr (Nat.le_trans (HK.out.trans (hbw.mono HK.out.size)).size h), dig_bytes _, dig_bare _, hl4, ?_, ?_⟩, hb'⟩
        · rw [val_dig, Int.toNat_of_nonneg hV]; omega
        · rw [val_dig, Int.toNat_of_nonneg hV]; exact cut_step hv)
    obtain ⟨V, hV1, hV2, hV3, hV4, hV5, hC, hG⟩ := HC.out
    have HC1 := Lib.hid hC
    have HG := Lib.hid hG
    have HV5 := Lib.hid hV5
    have HV1 := Lib.hid hV1
    clear hV4 hV5 hC hG HC HL
    obtain ⟨cv, hcv⟩ : ∃ cv, cmpV V VB = cv := ⟨_, rfl⟩
    have hcv' := cmpV_ge (a := V) (b := VB)
    rw [hcv] at HC1 hcv'
    unfold ValB at HC1
    by_cases hge : VB ≤ V
    · have d1 : decide (0 ≤ cv) = true := by rw [decide_eq_true_iff]; exact hcv'.2 hge
      obtain ⟨hg, hl⟩ := HG.out hge
      have HGu := Lib.hid hg
      have HLe := Lib.hid hl
      clear hg hl HG hge hcv' hV1 hV2 hV3 hcv
      go_upto_region 4 with (first | (go_at_call 62; refine HC1.out.mono ?_; rintro e w2 ⟨rfl, hb2⟩; have K2 := Lib.hid hb2; clear hb2) | (go_at_call 63; refine (HGu.out _ K2.out).mono ?_; rintro e w3 ⟨k, rfl, hk1, hk2, hk3, hb3⟩; have K3 := Lib.hid (K2.out.trans (hb3.mono K2.out.size)); have HKB := Lib.hid hk3; clear hb3 hk3))
      have HL2 := Lib.hid (HLe.out _ k K3.out hk1 hk2 HKB.out)
      clear HLe HGu HC1 K2
      have hnk : Hid (n + k ≤ 255) := Lib.hid (HD0.out (n + k) (by omega) (by
        have h1 := HKB.out
        have h2 := HV1.out
        rw [Int.add_mul]
        omega))
      have hnk2 := hnk.out
      have hwk : IntKind.i64.wrap (n + k) = n + k := by rw [IntKind.wrap_i64]; omega
      go_wp2_with (go_at_call 40; refine HL2.out.mono ?_; rintro e w4 ⟨x2, m2, c3, rfl, HL', hb4⟩; have K4 := Lib.hid (HK.out.trans ((K3.out.trans (hb4.mono K3.out.size)).mono HK.out.size)); clear hb4)
      exact ⟨⟨x2, m2, c3, n + k, by trivial, by trivial, by omega, hnk.out, HL', K4⟩, by simp [RowKit.intOf]; omega⟩
    · have d1 : decide (0 ≤ cv) = false := by rw [decide_eq_false_iff_not]; exact fun h => hge (hcv'.1 h)
      have hfin := div_end hV1 hV2 (by omega) hn0
      rw [HQ.out, HR.out] at hfin
      have HF := Lib.hid hfin
      have hw8 : IntKind.u8.wrap n = n := by rw [IntKind.wrap_u8]; omega
      clear HG hge hcv' hV1 hV2 hV3 hcv hfin
      go_wp2_with (go_at_call 62; refine HC1.out.mono ?_; rintro e w2 ⟨rfl, hb2⟩; have K2 := Lib.hid hb2; clear hb2)
      go_ret2
      exact ⟨x, m, c, by rw [← HF.out.1]; rfl, by rw [← HF.out.2]; exact HV5.out.next K2.out, HK.out.trans (K2.out.mono HK.out.size)⟩
end Go.Proofs.YtbfacdfmanffdaaGreatDoor
