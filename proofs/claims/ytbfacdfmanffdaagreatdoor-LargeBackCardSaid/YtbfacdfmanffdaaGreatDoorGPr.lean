/- The document's product and Mul. -/
import Derived.Test.YtbfacdfmanffdaaGreatDoorGSu
namespace Go.Proofs.YtbfacdfmanffdaaGreatDoor
set_option maxRecDepth 1000000
open Go.ChangeShapes Go.WideShapes Go.ChangeAt Go.RowKit

theorem pr_step {S T da db tk p q : Int} (h : S = T + da * p * tk) : S + da * db * (p * q) = T + da * p * (tk + db * q) := by
  rw [h, Int.mul_add, Int.add_assoc]
  have : da * db * (p * q) = da * p * (db * q) := by
    rw [Int.mul_assoc, Int.mul_assoc, Int.mul_left_comm db p q]
  rw [this]
theorem pr_row {S ta da p VB : Int} (h : S = ta * VB + da * p * VB) : S = (ta + da * p) * VB := by rw [h, Int.add_mul]
theorem mul_rng {a b : Int} (ha : 0 ≤ a ∧ a ≤ 255) (hb : 0 ≤ b ∧ b ≤ 255) : 0 ≤ a * b ∧ a * b ≤ 65025 := by
  constructor
  · exact Int.mul_nonneg ha.1 hb.1
  · have := Int.mul_le_mul ha.2 hb.2 hb.1 (by omega : (0 : Int) ≤ 255)
    exact this
set_option maxHeartbeats 8000000 in
theorem product_ref {N M : Nat → Prop} (v1 v2 : Value) (A B : List Int) (w : World) (h1 : Bts N w v1 A) (b1 : Bytes A) (l1 : A.length ≤ 1000) (h2 : Bts M w v2 B) (b2 : Bytes B) (l2 : B.length ≤ 1000) :
    Calls Tryz.prog 28 #[v1, v2] w (DigPost (val A * val B) w) := by
  have HC (bs : List Int) (N : Nat → Prop) (v : Value) (h : Bts N w v bs) : Hid (∀ w' i, Below w.heap.size w w' → i < bs.length → ∃ b off c, v = .slice (some ⟨b, off, none⟩) bs.length c ∧ w'.cell? ⟨b, off + i, none⟩ = some (.int .u8 (dgt bs i))) := Lib.hid fun w' i hbw hi => by
    obtain ⟨b, off, c', he, _, hlt, _, h'⟩ := bts_cells h (by omega)
    exact ⟨b, off, c', he, (hbw.cell (p := ⟨b, off + i, none⟩) hlt).trans (h' i hi)⟩
  have C1 := HC A N v1 h1
  have C2 := HC B M v2 h2
  have B1 := Lib.hid b1
  have B2 := Lib.hid b2
  have T1 : Hid (∀ k, k < A.length → val (A.take (k + 1)) = val (A.take k) + dgt A k * 256 ^ k) := Lib.hid fun k h => take_val k h
  have T2 : Hid (∀ k, k < B.length → val (B.take (k + 1)) = val (B.take k) + dgt B k * 256 ^ k) := Lib.hid fun k h => take_val k h
  have E1 : Hid (∀ k, k = A.length → val (A.take k) = val A) := Lib.hid fun k h => by rw [h, List.take_length]
  have E2 : Hid (∀ k, k = B.length → val (B.take k) = val B) := Lib.hid fun k h => by rw [h, List.take_length]
  have hnn : Hid (0 ≤ val A * val B) := Lib.hid (Int.mul_nonneg (val_nonneg b1) (val_nonneg b2))
  obtain ⟨a1, c1, rfl, hc1⟩ := Bts.form h1
  obtain ⟨a2, c2, rfl, hc2⟩ := Bts.form h2
  unfold DigPost
  clear h1 h2 b1 b2 HC
  generalize hla : A.length = na at *
  generalize hlb : B.length = nb at *
  obtain ⟨m, hm⟩ : ∃ m, na + nb + 1 = m := ⟨_, rfl⟩
  have hmk : (Instr.makeSlice 45 (.int .i64 ((na : Int) + nb + 1)) (.int .i64 ((na : Int) + nb + 1))).run Tryz.prog w = .ok (.slice (some ⟨w.heap.size, 0, none⟩) m m) (w.alloc (.cells (madeCells #[Value.int .i64 0] m) 3)) := by
    have := mk_ints w m (by omega)
    rwa [show ((m : Nat) : Int) = (na : Int) + nb + 1 by omega] at this
  have R0 : Hid (RowF (w.alloc (.cells (madeCells #[Value.int .i64 0] m) 3)) w.heap.size m (fun _ => 0)) := Lib.hid ⟨fun j hj => made_int w m j hj, fun j => frozen_one _ _ _ _, by simp⟩
  have K0 := Lib.hid (below_new w (.cells (madeCells #[Value.int .i64 0] m) 3))
  have hz : ∀ k, sumV (fun _ => 0) k = 0 := fun k => by
    induction k with
    | zero => rfl
    | succ k ih => simp [sumV, ih]
  have HZ := Lib.hid hz
  obtain ⟨VA, hVA⟩ : ∃ V, val A = V := ⟨_, rfl⟩
  obtain ⟨VB, hVB⟩ : ∃ V, val B = V := ⟨_, rfl⟩
  rw [hVA] at E1
  rw [hVB] at E2
  rw [hVA, hVB] at hnn ⊢
  clear hla hlb hz hVA hVB
  go_enter Tryz.func28, Tryz.ntmps28
  go_upto_region 2 with fail
  generalize w.alloc (.cells (madeCells #[Value.int .i64 0] m) 3) = w1 at *
  clear hmk
  go_wp2_with fail
  go_loopw [6] (fun s6 wr => ∃ (i : Nat) (f : Nat → Int), i ≤ na ∧ s6 = .int .i64 i ∧ Hid (RowF wr w.heap.size m f) ∧ Hid (sumV f m = val (A.take i) * VB) ∧ Hid (∀ j, 0 ≤ f j ∧ f j ≤ 65025 * i) ∧ Hid (Below w.heap.size w wr)) (fun s6 _ => na - (RowKit.intOf s6).toNat)
  case atStart => exact ⟨0, _, Nat.zero_le _, rfl, R0, Lib.hid (by rw [HZ.out]; simp [val]), Lib.hid (fun j => by simp), K0⟩
  case round =>
    clear R0 K0
    obtain ⟨i, f, hi, rfl, HR, HV, HBd, HB⟩ := hrel
    by_cases hlt : i < na
    · have d1 : decide ((i : Int) < na) = true := by simpa using hlt
      have d2 : decide (i < na) = true := by simpa using hlt
      have hmark := True.intro
      go_wp2_with fail
      go_loopw [7] (fun s7 wx => ∃ (k : Nat) (f : Nat → Int), k ≤ nb ∧ s7 = .int .i64 k ∧ Hid (RowF wx w.heap.size m f) ∧ Hid (sumV f m = val (A.take i) * VB + dgt A i * 256 ^ i * val (B.take k)) ∧ Hid (∀ j, 0 ≤ f j ∧ f j ≤ 65025 * (i + 1)) ∧ Hid (∀ j, i + k ≤ j → f j ≤ 65025 * i) ∧ Hid (Below w.heap.size w wx)) (fun s7 _ => nb - (RowKit.intOf s7).toNat)
      case atStart => exact ⟨0, f, Nat.zero_le _, rfl, HR, Lib.hid (by rw [HV.out]; simp [val]), Lib.hid (fun j => by have := HBd.out j; omega), Lib.hid (fun j _ => (HBd.out j).2), HB⟩
      case round =>
        clear HR HV HBd HB
        obtain ⟨k, f, hk, rfl, HR, HV, HBd, HBe, HB⟩ := hrel
        by_cases hlk : k < nb
        · obtain ⟨b, off, cc, hvv, q1⟩ := C1.out wr i HB.out hlt
          injection hvv with e1 _ _
          subst e1
          obtain ⟨b', off', cc', hvv, q2⟩ := C2.out wr k HB.out hlk
          injection hvv with e1 _ _
          subst e1
          have e3 : decide ((k : Int) < nb) = true := by simpa using hlk
          have e4 : decide (k < nb) = true := by simpa using hlk
          obtain ⟨p, hp⟩ : ∃ p, i + k = p := ⟨_, rfl⟩
          have hpm : p < m := by omega
          have hr1 := dgt_rng B1.out i
          have hr2 := dgt_rng B2.out k
          have hmr := mul_rng hr1 hr2
          have hfp := HBd.out p
          have hfe := HBe.out p (by omega)
          have y := HR.out.1 p hpm
          have yf := HR.out.2.1
          obtain ⟨fp, hfpe⟩ : ∃ x, f p = x := ⟨_, rfl⟩
          obtain ⟨da, hda⟩ : ∃ x, dgt A i = x := ⟨_, rfl⟩
          obtain ⟨db, hdb⟩ : ∃ x, dgt B k = x := ⟨_, rfl⟩
          obtain ⟨pr, hpr⟩ : ∃ x, da * db = x := ⟨_, rfl⟩
          have HX : Hid (∃ f' : Nat → Int, (∀ w', w'.heap = (wr.setCell ⟨w.heap.size, p, none⟩ (.int .i64 (fp + pr))).heap → RowF w' w.heap.size m f') ∧ sumV f' m = val (A.take i) * VB + dgt A i * 256 ^ i * val (B.take (k + 1)) ∧ (∀ j, 0 ≤ f' j ∧ f' j ≤ 65025 * (i + 1)) ∧ (∀ j, i + (k + 1) ≤ j → f' j ≤ 65025 * i)) := Lib.hid (by
            have hmr' := hmr
            rw [hda, hdb, hpr] at hmr'
            refine ⟨fun j => if j = p then f p + pr else f j, fun w' e => ?_, ?_, fun j => ?_, fun j hj => ?_⟩
            · rw [← hfpe] at e
              exact (HR.out.set hpm (f p + pr)).heap e
            · rw [sumV_upd f p pr m hpm, T2.out k hlk, hdb, ← hpr, ← hda, ← hp, Int.pow_add]
              exact pr_step HV.out
            · show 0 ≤ (if j = p then f p + pr else f j) ∧ (if j = p then f p + pr else f j) ≤ _
              split
              · rw [hfpe]; omega
              · exact HBd.out j
            · show (if j = p then f p + pr else f j) ≤ _
              rw [if_neg (by omega)]
              exact HBe.out j (by omega))
          have KS := Lib.hid (HB.out.setCell (p := ⟨w.heap.size, p, none⟩) (Nat.le_refl _) (.int .i64 (fp + pr)))
          rw [hda, hdb, hpr] at hmr
          rw [hda] at hr1 q1
          rw [hdb] at hr2 q2
          rw [hfpe] at hfp hfe y
          have hw0 : IntKind.i64.wrap ((i : Int) + k) = (p : Int) := by rw [IntKind.wrap_i64]; omega
          have hw1 : IntKind.i64.wrap (da * db) = pr := by rw [hpr, IntKind.wrap_i64]; omega
          have hw2 : IntKind.i64.wrap (fp + pr) = fp + pr := by rw [IntKind.wrap_i64]; omega
          have hi0 : (0 : Int) ≤ i := by omega
          have hin : (i : Int) < na := by omega
          have hk0 : (0 : Int) ≤ k := by omega
          have hkn : (k : Int) < nb := by omega
          have hp0 : (0 : Int) ≤ p := by omega
          have hpmi : (p : Int) < m := by omega
          have q1' : wr.drew.cell? ⟨b, off + i, none⟩ = some (.int .u8 da) := q1
          have q2' : wr.drew.cell? ⟨b', off' + k, none⟩ = some (.int .u8 db) := q2
          have y' : wr.drew.cell? ⟨w.heap.size, p, none⟩ = some (.int .i64 fp) := y
          have yf' : ∀ j, wr.drew.frozen? ⟨w.heap.size, j, none⟩ = false := yf
          clear C1 C2 HR HV HBd HBe hpr hda hdb hfpe hk hp T1 T2 E1 E2
          go_upto_region 8 with fail
          go_region
          go_wp2_with fail
          obtain ⟨f', x1, x2, x3, x4⟩ := HX.out
          exact ⟨⟨k + 1, f', by omega, by go_num, Lib.hid (x1 _ rfl), Lib.hid x2, Lib.hid x3, Lib.hid x4, Lib.hid ⟨KS.out.os, KS.out.tape, KS.out.output, KS.out.size, KS.out.block⟩⟩, by simp [RowKit.intOf]; omega⟩
        · have hk' : k = nb := by omega
          have e3 : decide ((k : Int) < nb) = false := by simp [hk']
          have e4 : decide (k < nb) = false := by simp [hk']
          have HV2 : Hid (sumV f m = val (A.take (i + 1)) * VB) := Lib.hid (by
            have h := HV.out
            rw [E2.out k hk'] at h
            rw [T1.out i hlt]
            exact pr_row h)
          clear HV HBe hk' hlk hk
          go_wp2_with fail
          exact ⟨⟨i + 1, f, by omega, by go_num, HR, HV2, HBd, HB⟩, by simp [RowKit.intOf]; omega⟩
    · have hi' : i = na := by omega
      have d1 : decide ((i : Int) < na) = false := by simp [hi']
      have d2 : decide (i < na) = false := by simp [hi']
      have HVV : Hid (val (rowL f m) = VA * VB) := Lib.hid (by rw [rowL_val, HV.out, E1.out i hi'])
      have HSe := Lib.hid (settle_ref _ _ wr HR.out.ints (fun j => by
        rw [rowL_dgt]
        have := HBd.out j
        split <;> omega) (by rw [rowL_len]; omega) (by rw [HVV.out]; exact hnn.out))
      unfold DigPost at HSe
      rw [HVV.out] at HSe
      clear HV HVV HR HBd hi' hlt hi C1 C2 T1 T2 E1 E2
      go_wp2_with (go_at_call 29; refine HSe.out.mono ?_; rintro e w2 ⟨v2, rfl, ho2, hb2⟩)
      go_ret
      exact ⟨v2, rfl, own_down ho2 HB.out.size, HB.out.trans (hb2.mono HB.out.size)⟩
def mulE (A B : List Int) : Int := if ¬ (rightB A = true ∧ rightB B = true) then 2 else toldE (dig (val A * val B).toNat)
def mulO (A B : List Int) : List Int := if ¬ (rightB A = true ∧ rightB B = true) then [] else toldO (dig (val A * val B).toNat)
end Go.Proofs.YtbfacdfmanffdaaGreatDoor
