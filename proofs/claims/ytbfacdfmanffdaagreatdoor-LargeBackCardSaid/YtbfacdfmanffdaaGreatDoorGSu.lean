/- The document's Sub. -/
import Derived.Test.YtbfacdfmanffdaaGreatDoorGRo
namespace Go.Proofs.YtbfacdfmanffdaaGreatDoor
set_option maxRecDepth 1000000
open Go.ChangeShapes Go.WideShapes Go.ChangeAt Go.RowKit

/-- A number and an error, in one's own memory. -/
def NumPost (e0 : Int) (xs : List Int) (w : World) (e : Ending) (w' : World) : Prop := ∃ v, e = .returned (.tuple #[v, .int .i64 e0]) ∧ OwnB w.heap.size w' v xs ∧ Below w.heap.size w w'
def subE (A B : List Int) : Int := if ¬ (rightB A = true ∧ rightB B = true) then 2 else if val A < val B then 4 else 0
def subO (A B : List Int) : List Int := if subE A B = 0 then dig (val A - val B).toNat else []
theorem right_len {bs : List Int} (h : rightB bs = true) : bs.length ≤ 400 ∧ (bs = [] ∨ dgt bs (bs.length - 1) ≠ 0) := by
  unfold rightB at h
  rw [decide_eq_true_eq] at h
  rcases h with rfl | ⟨h1, h2⟩
  · exact ⟨by simp, .inl rfl⟩
  · exact ⟨h1, .inr h2⟩
theorem take_val {bs : List Int} (k : Nat) (h : k < bs.length) : val (bs.take (k + 1)) = val (bs.take k) + dgt bs k * 256 ^ k := by
  have e : bs.take (k + 1) = bs.take k ++ [dgt bs k] := by
    rw [List.take_add_one, List.getElem?_eq_getElem h]
    have : dgt bs k = bs[k] := by unfold dgt; rw [List.getD, List.getElem?_eq_getElem h]; rfl
    rw [this]; rfl
  rw [e, val_append, List.length_take, Nat.min_eq_left (by omega)]
  have : val [dgt bs k] = dgt bs k := by simp [val]
  rw [this, Int.mul_comm]
theorem own_down {B C : Nat} {w : World} {v : Value} {L : List Int} (h : OwnB B w v L) (hc : C ≤ B) : OwnB C w v L :=
  ⟨h.1, h.2.imp id fun ⟨g, cap, cur, h1, h2, h3⟩ => ⟨g, cap, cur, h1, Nat.le_trans hc h2, h3⟩⟩
theorem sumV_sub (f g : Nat → Int) : ∀ m, sumV (fun j => f j - g j) m = sumV f m - sumV g m
  | 0 => rfl
  | m + 1 => by simp only [sumV, sumV_sub f g m, Int.sub_mul]; omega
set_option maxHeartbeats 8000000 in
theorem sub_ref {N M : Nat → Prop} (v1 v2 : Value) (A B : List Int) (w : World) (h1 : Bts N w v1 A) (b1 : Bytes A) (l1 : A.length ≤ 1000000000000) (h2 : Bts M w v2 B) (b2 : Bytes B) (l2 : B.length ≤ 1000000000000) :
    Calls Tryz.prog 60 #[v1, v2] w (NumPost (subE A B) (subO A B) w) := by
  have R1 := Lib.hid (right_ref v1 A w h1 l1)
  have R2 := Lib.hid (right_ref v2 B w h2 l2)
  have HCm := Lib.hid (cmp_ref v1 v2 A B w h1 b1 l1 h2 b2 l2)
  have HE : Hid (∀ ra rb : Bool, rightB A = ra → rightB B = rb → (¬ (ra = true ∧ rb = true) → subE A B = 2 ∧ subO A B = []) ∧ (ra = true → rb = true → (val A < val B → subE A B = 4 ∧ subO A B = []) ∧ (¬ val A < val B → subE A B = 0 ∧ subO A B = dig (val A - val B).toNat))) := Lib.hid fun ra rb ha hb => by
    refine ⟨fun h => ?_, fun h h' => ⟨fun h2 => ?_, fun h2 => ?_⟩⟩
    · have e : subE A B = 2 := by unfold subE; rw [ha, hb, if_pos h]
      exact ⟨e, by unfold subO; rw [e]; rfl⟩
    · have e : subE A B = 4 := by unfold subE; rw [ha, hb, if_neg (fun h3 => h3 ⟨h, h'⟩), if_pos h2]
      exact ⟨e, by unfold subO; rw [e]; rfl⟩
    · have e : subE A B = 0 := by unfold subE; rw [ha, hb, if_neg (fun h3 => h3 ⟨h, h'⟩), if_neg h2]
      exact ⟨e, by unfold subO; rw [if_pos e]⟩
  have HLen : Hid ((rightB A = true → A.length ≤ 400) ∧ (rightB B = true → B.length ≤ 400)) := Lib.hid ⟨fun h => (right_len h).1, fun h => (right_len h).1⟩
  have H1 := Lib.hid h1
  have H2 := Lib.hid h2
  have B1 := Lib.hid b1
  have B2 := Lib.hid b2
  obtain ⟨a1, c1, rfl, hc1⟩ := Bts.form h1
  obtain ⟨a2, c2, rfl, hc2⟩ := Bts.form h2
  unfold NumPost
  generalize subE A B = se at *
  generalize subO A B = so at *
  clear h1 h2
  obtain ⟨ra, hra⟩ : ∃ r, rightB A = r := ⟨_, rfl⟩
  obtain ⟨rb, hrb⟩ : ∃ r, rightB B = r := ⟨_, rfl⟩
  have HE2 := Lib.hid (HE.out ra rb hra hrb)
  rw [hra] at R1 HLen
  rw [hrb] at R2 HLen
  clear HE hra hrb b1 b2
  by_cases hr : ra = true ∧ rb = true
  · obtain ⟨rfl, rfl⟩ := hr
    have la := HLen.out.1 rfl
    have lb := HLen.out.2 rfl
    obtain ⟨e4, e0⟩ := HE2.out.2 rfl rfl
    have E4 := Lib.hid e4
    have E0 := Lib.hid e0
    clear e4 e0 HE2 HLen l1 l2
    by_cases hlt : val A < val B
    · have hcm : cmpV (val A) (val B) = -1 := cmpV_lt hlt
      obtain ⟨rfl, rfl⟩ := E4.out hlt
      rw [hcm] at HCm
      clear hcm E4 E0 hlt
      go_enter Tryz.func60, Tryz.ntmps60
      go_wp2_with (first | (go_at_call 23; (with_reducible refine R1.out.mono ?_); rintro e w1 ⟨rfl, rfl⟩) | (go_at_call 23; (with_reducible refine R2.out.mono ?_); rintro e w1 ⟨rfl, rfl⟩) | (go_at_call 59; refine HCm.out.mono ?_; rintro e w1 ⟨rfl, rfl⟩))
      go_ret2
      exact ⟨_, rfl, World.ownsRow_nil _ _ _ _, Below.refl _ _⟩
    · obtain ⟨cm, hcm⟩ : ∃ c, cmpV (val A) (val B) = c := ⟨_, rfl⟩
      have hcm0 : ¬ cm < 0 := by
        rw [← hcm]
        unfold cmpV
        rw [if_neg hlt]
        split <;> omega
      have d0 : decide (cm < 0) = false := by simpa using hcm0
      rw [hcm] at HCm
      have HF := Lib.hid (E0.out hlt)
      have HRow := Lib.hid (row_ref (.slice a1 A.length c1) A B.length w H1.out B1.out (by omega) (by omega))
      unfold RowPost at HRow
      have HVA : Hid (∀ m, A.length ≤ m → sumV (dgt A) m = val A) := Lib.hid fun m h => (val_sum A m h).symm
      have HTV : Hid (∀ k, k < B.length → val (B.take (k + 1)) = val (B.take k) + dgt B k * 256 ^ k) := Lib.hid fun k h => take_val k h
      have HTE : Hid (∀ k, k = B.length → val (B.take k) = val B) := Lib.hid fun k h => by rw [h, List.take_length]
      have HC : Hid (∀ w' i, Below w.heap.size w w' → i < B.length → ∃ b off, a2 = some ⟨b, off, none⟩ ∧ b < w.heap.size ∧ w'.cell? ⟨b, off + i, none⟩ = some (.int .u8 (dgt B i))) := Lib.hid fun w' i hbw h => by
        obtain ⟨b, off, c, he, _, hlt, _, h'⟩ := bts_cells H2.out (by omega)
        injection he with e1 _ _
        exact ⟨b, off, e1, hlt, (hbw.cell (p := ⟨b, off + i, none⟩) hlt).trans (h' i (by omega))⟩
      have hnn : Hid (0 ≤ val A - val B) := Lib.hid (by omega)
      have hBo : Hid (∀ j, B.length ≤ j → dgt B j = 0) := Lib.hid fun j h => dgt_out h
      have HLB : Hid (∀ m, B.length ≤ m → val B = sumV (dgt B) m) := Lib.hid fun m h => val_sum B m h
      generalize hla : A.length = na at *
      generalize hlb : B.length = nb at *
      generalize val A = VA at *
      clear E4 E0 hlt hcm hcm0 H1 H2 hla hlb
      go_enter Tryz.func60, Tryz.ntmps60
      go_upto_region 6 with (first | (go_at_call 23; (with_reducible refine R1.out.mono ?_); rintro e w1 ⟨rfl, rfl⟩) | (go_at_call 23; (with_reducible refine R2.out.mono ?_); rintro e w1 ⟨rfl, rfl⟩) | (go_at_call 59; refine HCm.out.mono ?_; rintro e w1 ⟨rfl, rfl⟩) | (go_at_call 27; refine HRow.out.mono ?_; rintro e w1 ⟨g, m, rfl, hrow, hm1, hm2, hm3, hg, hbw⟩))
      have HR0 : Hid (RowF w1 g m (fun j => dgt A j - (if j < 0 then dgt B j else 0))) := Lib.hid (hrow.as fun j hj => by rw [if_neg (by omega)]; omega)
      have HB := Lib.hid hbw
      have hgm : m ≤ 400 := by omega
      clear hrow hbw HRow R1 R2 HCm hm3
      go_wp2_with fail
      go_loopw [7] (fun s7 wr => ∃ (k : Nat), k ≤ nb ∧ s7 = .int .i64 k ∧ Hid (RowF wr g m (fun j => dgt A j - (if j < k then dgt B j else 0))) ∧ Hid (Below w.heap.size w wr)) (fun s7 _ => nb - (RowKit.intOf s7).toNat)
      case atStart => exact ⟨0, Nat.zero_le _, rfl, HR0, HB⟩
      case round =>
        clear HR0 HB
        obtain ⟨k, hk, rfl, HR, HB⟩ := hrel
        by_cases hlt : k < nb
        · obtain ⟨b, off, rfl, hbl, _⟩ := HC.out w k (Below.refl _ _) hlt
          have d1 : decide ((k : Int) < nb) = true := by simpa using hlt
          have d2 : decide (k < nb) = true := by simpa using hlt
          have hk0 : (0 : Int) ≤ k := by omega
          have hkn : (k : Int) < nb := by omega
          have hkm : (k : Int) < m := by omega
          have hkm2 : k < m := by omega
          have hra := dgt_rng B1.out k
          have hrb := dgt_rng B2.out k
          have q := (HC.out wr k HB.out hlt)
          obtain ⟨b', off', he, _, q⟩ := q
          injection he with he
          injection he with e1 e2 _
          subst e1 e2
          have y : wr.cell? ⟨g, k, none⟩ = some (.int .i64 (dgt A k)) := by
            simpa using HR.out.1 k hkm2
          have yf := HR.out.2.1
          have HS : Hid (∀ w', w'.heap = (wr.setCell ⟨g, k, none⟩ (.int .i64 (dgt A k - dgt B k))).heap → RowF w' g m (fun j => dgt A j - (if j < k + 1 then dgt B j else 0))) := Lib.hid fun w' e => ((HR.out.set hkm2 (dgt A k - dgt B k)).as fun j hj => by
            by_cases e : j = k
            · subst e; simp
            · by_cases e2 : j < k
              · rw [if_neg e, if_pos e2, if_pos (by omega)]
              · rw [if_neg e, if_neg e2, if_neg (by omega)]).heap e
          have KS := Lib.hid (HB.out.setCell (p := ⟨g, k, none⟩) hg (.int .i64 (dgt A k - dgt B k)))
          generalize dgt A k = da at *
          generalize dgt B k = db at *
          have hw1 : IntKind.i64.wrap (da - db) = da - db := by rw [IntKind.wrap_i64]; omega
          have q' : wr.drew.cell? ⟨b, off + k, none⟩ = some (.int .u8 db) := q
          have y' : wr.drew.cell? ⟨g, k, none⟩ = some (.int .i64 da) := y
          have yf' : ∀ j, wr.drew.frozen? ⟨g, j, none⟩ = false := yf
          clear HC HR hk
          go_upto_region 9 with fail
          go_region
          go_wp2_with fail
          exact ⟨⟨k + 1, by omega, by go_num, Lib.hid (HS.out _ rfl), Lib.hid ⟨KS.out.os, KS.out.tape, KS.out.output, KS.out.size, KS.out.block⟩⟩, by simp [RowKit.intOf]; omega⟩
        · have hk' : k = nb := by omega
          have d1 : decide ((k : Int) < nb) = false := by simp [hk']
          have d2 : decide (k < nb) = false := by simp [hk']
          have HF2 : Hid (Ints (· = g) wr (.slice (some ⟨g, 0, none⟩) m m) (rowL (fun j => dgt A j - dgt B j) m) ∧ val (rowL (fun j => dgt A j - dgt B j) m) = VA - val B) := Lib.hid ⟨(HR.out.as fun j hj => by
            by_cases e : j < k
            · rw [if_pos e]
            · rw [if_neg e, hBo.out j (by omega)]).ints, by rw [rowL_val, sumV_sub, HVA.out m hm2, ← HLB.out m (by omega)]⟩
          have HSe := Lib.hid (settle_ref _ _ wr HF2.out.1 (fun j => by
            rw [rowL_dgt]
            have r1 := dgt_rng B1.out j
            have r2 := dgt_rng B2.out j
            split <;> omega) (by rw [rowL_len]; omega) (by rw [HF2.out.2]; exact hnn.out))
          unfold DigPost at HSe
          rw [HF2.out.2] at HSe
          clear HF2 HR HC hk' hlt hk HVA HTV HTE
          go_wp2_with (go_at_call 29; refine HSe.out.mono ?_; rintro e w2 ⟨v2, rfl, ho2, hb2⟩)
          go_ret2
          obtain ⟨rfl, rfl⟩ := HF.out
          exact ⟨v2, rfl, own_down ho2 HB.out.size, HB.out.trans (hb2.mono HB.out.size)⟩
  · obtain ⟨rfl, rfl⟩ := HE2.out.1 hr
    clear HE2 HLen HCm
    cases ra with
    | true =>
      obtain rfl : rb = false := by cases rb <;> simp_all
      clear hr
      go_enter Tryz.func60, Tryz.ntmps60
      go_wp2_with (first | (go_at_call 23; (with_reducible refine R1.out.mono ?_); rintro e w1 ⟨rfl, rfl⟩) | (go_at_call 23; (with_reducible refine R2.out.mono ?_); rintro e w1 ⟨rfl, rfl⟩))
      go_ret2
      exact ⟨_, rfl, World.ownsRow_nil _ _ _ _, Below.refl _ _⟩
    | false =>
      clear hr
      go_enter Tryz.func60, Tryz.ntmps60
      go_wp2_with (first | (go_at_call 23; (with_reducible refine R1.out.mono ?_); rintro e w1 ⟨rfl, rfl⟩) | (go_at_call 23; (with_reducible refine R2.out.mono ?_); rintro e w1 ⟨rfl, rfl⟩))
      go_ret2
      exact ⟨_, rfl, World.ownsRow_nil _ _ _ _, Below.refl _ _⟩
end Go.Proofs.YtbfacdfmanffdaaGreatDoor
