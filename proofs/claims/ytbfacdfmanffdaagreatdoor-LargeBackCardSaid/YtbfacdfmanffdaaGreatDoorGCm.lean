/- The document's Cmp. -/
import Derived.Test.YtbfacdfmanffdaaGreatDoorGIn
import Derived.Deep.Light
import Derived.Deep.RegionHeld3
import Derived.Deep.DeepCutAuto
import Derived.Deep.CutRange
import Derived.StillTailTactics
namespace Go.Proofs.YtbfacdfmanffdaaGreatDoor
set_option maxRecDepth 1000000
open Go.ChangeShapes Go.WideShapes Go.ChangeAt Go.RowKit

theorem dgt_out {xs : List Int} {j : Nat} (h : xs.length ≤ j) : dgt xs j = 0 := by unfold dgt; rw [List.getD, List.getElem?_eq_none h]; rfl
theorem cmp_at {X Y : List Int} (hX : Bytes X) (hY : Bytes Y) {M j : Nat} (hx : X.length ≤ M) (hy : Y.length ≤ M) (hj : j < M) (he : ∀ i, j + 1 ≤ i → dgt X i = dgt Y i) :
    (dgt X j < dgt Y j → cmpV (val X) (val Y) = -1) ∧ (dgt Y j < dgt X j → cmpV (val X) (val Y) = 1) := by
  rw [val_sum X M hx, val_sum Y M hy]
  exact ⟨fun h => cmpV_lt (sumV_less (fun i => dgt_rng hX i) (fun i => dgt_rng hY i) hj (fun i h1 _ => he i h1) h), fun h => cmpV_gt (sumV_less (fun i => dgt_rng hY i) (fun i => dgt_rng hX i) hj (fun i h1 _ => (he i h1).symm) h)⟩
theorem cmp_same {X Y : List Int} {M : Nat} (hx : X.length ≤ M) (hy : Y.length ≤ M) (he : ∀ i, dgt X i = dgt Y i) : cmpV (val X) (val Y) = 0 := by
  rw [val_sum X M hx, val_sum Y M hy, show dgt X = dgt Y from funext he]
  exact cmpV_eq _
theorem dgt_take {bs : List Int} {k i : Nat} (h : i < k) : dgt (bs.take k) i = dgt bs i := by unfold dgt; rw [List.getD, List.getD, List.getElem?_take, if_pos h]
theorem max_is (a b : Nat) : max (a : Int) (b : Int) = ((max a b : Nat) : Int) := by omega
set_option maxHeartbeats 8000000 in
theorem cmp_ref {N M : Nat → Prop} (v1 v2 : Value) (A B : List Int) (w : World) (h1 : Bts N w v1 A) (b1 : Bytes A) (l1 : A.length ≤ 1000000000000) (h2 : Bts M w v2 B) (b2 : Bytes B) (l2 : B.length ≤ 1000000000000) :
    Calls Tryz.prog 59 #[v1, v2] w fun e w' => e = .returned (.int .i64 (cmpV (val A) (val B))) ∧ w = w' := by
  have E1 := Lib.hid (bare_ref v1 A w h1 b1 l1)
  have E2 := Lib.hid (bare_ref v2 B w h2 b2 l2)
  have HC (bs : List Int) (N : Nat → Prop) (v : Value) (h : Bts N w v bs) : Hid (∀ a n c, v = .slice a n c → ∀ k i, k ≤ bs.length → i < k → ∃ b off, a = some ⟨b, off, none⟩ ∧ w.cell? ⟨b, off + i, none⟩ = some (.int .u8 (dgt (bs.take k) i))) := Lib.hid fun a n c hv k i hk hi => by
    obtain ⟨b, off, c', he, _, _, _, h'⟩ := bts_cells h (by omega)
    rw [hv] at he
    injection he with e1 _ _
    exact ⟨b, off, e1, by rw [dgt_take hi]; exact h' i (by omega)⟩
  have C1 := HC A N v1 h1
  have C2 := HC B M v2 h2
  have HV : Hid (∀ k l, A.take k = dig (val A).toNat → B.take l = dig (val B).toNat → cmpV (val A) (val B) = cmpV (val (A.take k)) (val (B.take l)) ∧ Bytes (A.take k) ∧ Bytes (B.take l)) := Lib.hid fun k l hk hl => by
    refine ⟨?_, take_bytes b1 _, take_bytes b2 _⟩
    rw [hk, hl, val_dig, val_dig, Int.toNat_of_nonneg (val_nonneg b1), Int.toNat_of_nonneg (val_nonneg b2)]
  obtain ⟨a1, c1, rfl, hc1⟩ := Bts.form h1
  obtain ⟨a2, c2, rfl, hc2⟩ := Bts.form h2
  have D1 := Lib.hid (C1.out _ _ _ rfl)
  have D2 := Lib.hid (C2.out _ _ _ rfl)
  generalize cmpV (val A) (val B) = r at *
  clear h1 h2 b1 b2 C1 C2 HC
  go_enter Tryz.func59, Tryz.ntmps59
  go_upto_region 2 with (go_at_call 45; refine E1.out.mono ?_; rintro e w1 ⟨a, k, c, hva, rfl, hk, htk, rfl⟩)
  have HTK := Lib.hid htk
  clear htk E1
  go_upto_region 3 with (go_at_call 45; refine E2.out.mono ?_; rintro e w2 ⟨a', l, c', hvb, rfl, hl, htl, rfl⟩)
  obtain ⟨HR, hX, hY⟩ := HV.out k l HTK.out htl
  have HRR := Lib.hid HR
  have HX := Lib.hid hX
  have HY := Lib.hid hY
  have X1 : Hid (∀ i, i < k → ∃ b off, a1 = some ⟨b, off, none⟩ ∧ w.cell? ⟨b, off + i, none⟩ = some (.int .u8 (dgt (A.take k) i))) := Lib.hid fun i hi => D1.out k i hk hi
  have X2 : Hid (∀ i, i < l → ∃ b off, a2 = some ⟨b, off, none⟩ ∧ w.cell? ⟨b, off + i, none⟩ = some (.int .u8 (dgt (B.take l) i))) := Lib.hid fun i hi => D2.out l i hl hi
  have hlA : (A.take k).length = k := by rw [List.length_take]; omega
  have hlB : (B.take l).length = l := by rw [List.length_take]; omega
  clear E2 htl HTK HV D1 D2 hX hY HR
  generalize A.take k = X at *
  generalize B.take l = Y at *
  have HLA := Lib.hid hlA
  have HLB := Lib.hid hlB
  clear hlA hlB
  by_cases hkl : k < l
  · go_upto_region 4 with fail
    go_wp2_with fail
    go_loopw [7] (fun s7 wr => ∃ (t : Nat), t ≤ l ∧ s7 = .int .i64 ((t : Int) - 1) ∧ Hid (∀ i, t ≤ i → dgt X i = dgt Y i) ∧ wr = w) (fun s7 _ => (RowKit.intOf s7 + 1).toNat)
    case atStart => exact ⟨l, Nat.le_refl _, rfl, Lib.hid (fun i hi => by rw [dgt_out (by rw [HLA.out]; omega), dgt_out (by rw [HLB.out]; omega)]), rfl⟩
    case round =>
      obtain ⟨t, ht, rfl, HE, hwr⟩ := hrel
      subst hwr
      cases t with
      | zero =>
        have HF : Hid (r = 0) := Lib.hid (HRR.out.trans (cmp_same (M := l) (by rw [HLA.out]; omega) (by rw [HLB.out]; omega) (fun i => HE.out i (Nat.zero_le _))))
        clear HE X1 X2
        go_wp2_with fail
        go_ret
        exact ⟨by rw [HF.out]; rfl, rfl⟩
      | succ j =>
        have HAt := Lib.hid (cmp_at HX.out HY.out (M := l) (j := j) (by rw [HLA.out]; omega) (by rw [HLB.out]; omega) (by omega) HE.out)
        have HNx : Hid (dgt X j = dgt Y j → ∀ i, j ≤ i → dgt X i = dgt Y i) := Lib.hid fun h i hi => by
          by_cases e : i = j
          · rw [e]; exact h
          · exact HE.out i (by omega)
        have hP : Hid (∃ p : Int, dgt X j = p ∧ (k ≤ j → p = 0) ∧ (j < k → ∃ b off, a1 = some ⟨b, off, none⟩ ∧ wr.cell? ⟨b, off + j, none⟩ = some (.int .u8 p))) := Lib.hid ⟨_, rfl, fun h => dgt_out (by rw [HLA.out]; omega), fun h => X1.out j h⟩
        have hQ : Hid (∃ q : Int, dgt Y j = q ∧ (l ≤ j → q = 0) ∧ (j < l → ∃ b off, a2 = some ⟨b, off, none⟩ ∧ wr.cell? ⟨b, off + j, none⟩ = some (.int .u8 q))) := Lib.hid ⟨_, rfl, fun h => dgt_out (by rw [HLB.out]; omega), fun h => X2.out j h⟩
        have hrp := dgt_rng HX.out j
        have hrq := dgt_rng HY.out j
        obtain ⟨p, hp, hp0, hpc⟩ := hP.out
        obtain ⟨q, hq, hq0, hqc⟩ := hQ.out
        rw [hp, hq] at HAt HNx
        rw [hp] at hrp
        rw [hq] at hrq
        have hjj : (((j + 1 : Nat) : Int) - 1) = (j : Int) := by omega
        rw [hjj]
        have HPC := Lib.hid hpc
        have HQC := Lib.hid hqc
        have HP0 := Lib.hid hp0
        have HQ0 := Lib.hid hq0
        have hj0 : (0 : Int) ≤ j := by omega
        clear hP hQ hp hq hjj hpc hqc hp0 hq0
        by_cases ck : j < k
        · have e1 : decide ((j : Int) < k) = true := by simpa using ck
          have e2 : decide (j < k) = true := by simpa using ck
          obtain ⟨b, off, rfl, q1⟩ := HPC.out ck
          by_cases cl : j < l
          · have e3 : decide ((j : Int) < l) = true := by simpa using cl
            have e4 : decide (j < l) = true := by simpa using cl
            obtain ⟨b', off', rfl, q2⟩ := HQC.out cl
            rcases Int.lt_trichotomy p q with h9 | h9 | h9
            · have f1 : decide (p < q) = true := by simpa using h9
              have HF : Hid (r = -1) := Lib.hid (HRR.out.trans (HAt.out.1 h9))
              clear HAt HE h9 X1 X2 HNx
              go_wp2_with fail
              go_ret
              exact ⟨by rw [HF.out]; rfl, rfl⟩
            · have f1 : decide (p < q) = false := by simp; omega
              have f2 : decide (q < p) = false := by simp; omega
              have HE' := Lib.hid (HNx.out h9)
              clear HAt HE h9 HNx
              go_wp2_with fail
              exact ⟨⟨j, by omega, rfl, HE', by trivial⟩, by simp [RowKit.intOf] <;> omega⟩
            · have f1 : decide (p < q) = false := by simp; omega
              have f2 : decide (q < p) = true := by simpa using h9
              have HF : Hid (r = 1) := Lib.hid (HRR.out.trans (HAt.out.2 h9))
              clear HAt HE h9 X1 X2 HNx
              go_wp2_with fail
              go_ret
              exact ⟨by rw [HF.out]; rfl, rfl⟩
          · have e3 : decide ((j : Int) < l) = false := by simp; omega
            have e4 : decide (j < l) = false := by simp; omega
            obtain rfl := HQ0.out (by omega)
            rcases Int.lt_trichotomy p 0 with h9 | h9 | h9
            · have f1 : decide (p < 0) = true := by simpa using h9
              have HF : Hid (r = -1) := Lib.hid (HRR.out.trans (HAt.out.1 h9))
              clear HAt HE h9 X1 X2 HNx
              go_wp2_with fail
              go_ret
              exact ⟨by rw [HF.out]; rfl, rfl⟩
            · have f1 : decide (p < 0) = false := by simp; omega
              have f2 : decide (0 < p) = false := by simp; omega
              have HE' := Lib.hid (HNx.out h9)
              clear HAt HE h9 HNx
              go_wp2_with fail
              exact ⟨⟨j, by omega, rfl, HE', by trivial⟩, by simp [RowKit.intOf] <;> omega⟩
            · have f1 : decide (p < 0) = false := by simp; omega
              have f2 : decide (0 < p) = true := by simpa using h9
              have HF : Hid (r = 1) := Lib.hid (HRR.out.trans (HAt.out.2 h9))
              clear HAt HE h9 X1 X2 HNx
              go_wp2_with fail
              go_ret
              exact ⟨by rw [HF.out]; rfl, rfl⟩
        · have e1 : decide ((j : Int) < k) = false := by simp; omega
          have e2 : decide (j < k) = false := by simp; omega
          obtain rfl := HP0.out (by omega)
          have cl : j < l := by omega
          have e3 : decide ((j : Int) < l) = true := by simpa using cl
          have e4 : decide (j < l) = true := by simpa using cl
          obtain ⟨b', off', rfl, q2⟩ := HQC.out cl
          rcases Int.lt_trichotomy 0 q with h9 | h9 | h9
          · have f1 : decide (0 < q) = true := by simpa using h9
            have HF : Hid (r = -1) := Lib.hid (HRR.out.trans (HAt.out.1 h9))
            clear HAt HE h9 X1 X2 HNx
            go_wp2_with fail
            go_ret
            exact ⟨by rw [HF.out]; rfl, rfl⟩
          · have f1 : decide (0 < q) = false := by simp; omega
            have f2 : decide (q < 0) = false := by simp; omega
            have HE' := Lib.hid (HNx.out h9)
            clear HAt HE h9 HNx
            go_wp2_with fail
            exact ⟨⟨j, by omega, rfl, HE', by trivial⟩, by simp [RowKit.intOf] <;> omega⟩
          · have f1 : decide (0 < q) = false := by simp; omega
            have f2 : decide (q < 0) = true := by simpa using h9
            have HF : Hid (r = 1) := Lib.hid (HRR.out.trans (HAt.out.2 h9))
            clear HAt HE h9 X1 X2 HNx
            go_wp2_with fail
            go_ret
            exact ⟨by rw [HF.out]; rfl, rfl⟩
  · go_upto_region 4 with fail
    go_wp2_with fail
    go_loopw [7] (fun s7 wr => ∃ (t : Nat), t ≤ k ∧ s7 = .int .i64 ((t : Int) - 1) ∧ Hid (∀ i, t ≤ i → dgt X i = dgt Y i) ∧ wr = w) (fun s7 _ => (RowKit.intOf s7 + 1).toNat)
    case atStart => exact ⟨k, Nat.le_refl _, rfl, Lib.hid (fun i hi => by rw [dgt_out (by rw [HLA.out]; omega), dgt_out (by rw [HLB.out]; omega)]), rfl⟩
    case round =>
      obtain ⟨t, ht, rfl, HE, hwr⟩ := hrel
      subst hwr
      cases t with
      | zero =>
        have HF : Hid (r = 0) := Lib.hid (HRR.out.trans (cmp_same (M := k) (by rw [HLA.out]; omega) (by rw [HLB.out]; omega) (fun i => HE.out i (Nat.zero_le _))))
        clear HE X1 X2
        go_wp2_with fail
        go_ret
        exact ⟨by rw [HF.out]; rfl, rfl⟩
      | succ j =>
        have HAt := Lib.hid (cmp_at HX.out HY.out (M := k) (j := j) (by rw [HLA.out]; omega) (by rw [HLB.out]; omega) (by omega) HE.out)
        have HNx : Hid (dgt X j = dgt Y j → ∀ i, j ≤ i → dgt X i = dgt Y i) := Lib.hid fun h i hi => by
          by_cases e : i = j
          · rw [e]; exact h
          · exact HE.out i (by omega)
        have hP : Hid (∃ p : Int, dgt X j = p ∧ (k ≤ j → p = 0) ∧ (j < k → ∃ b off, a1 = some ⟨b, off, none⟩ ∧ wr.cell? ⟨b, off + j, none⟩ = some (.int .u8 p))) := Lib.hid ⟨_, rfl, fun h => dgt_out (by rw [HLA.out]; omega), fun h => X1.out j h⟩
        have hQ : Hid (∃ q : Int, dgt Y j = q ∧ (l ≤ j → q = 0) ∧ (j < l → ∃ b off, a2 = some ⟨b, off, none⟩ ∧ wr.cell? ⟨b, off + j, none⟩ = some (.int .u8 q))) := Lib.hid ⟨_, rfl, fun h => dgt_out (by rw [HLB.out]; omega), fun h => X2.out j h⟩
        have hrp := dgt_rng HX.out j
        have hrq := dgt_rng HY.out j
        obtain ⟨p, hp, hp0, hpc⟩ := hP.out
        obtain ⟨q, hq, hq0, hqc⟩ := hQ.out
        rw [hp, hq] at HAt HNx
        rw [hp] at hrp
        rw [hq] at hrq
        have hjj : (((j + 1 : Nat) : Int) - 1) = (j : Int) := by omega
        rw [hjj]
        have HPC := Lib.hid hpc
        have HQC := Lib.hid hqc
        have HP0 := Lib.hid hp0
        have HQ0 := Lib.hid hq0
        have hj0 : (0 : Int) ≤ j := by omega
        clear hP hQ hp hq hjj hpc hqc hp0 hq0
        by_cases ck : j < k
        · have e1 : decide ((j : Int) < k) = true := by simpa using ck
          have e2 : decide (j < k) = true := by simpa using ck
          obtain ⟨b, off, rfl, q1⟩ := HPC.out ck
          by_cases cl : j < l
          · have e3 : decide ((j : Int) < l) = true := by simpa using cl
            have e4 : decide (j < l) = true := by simpa using cl
            obtain ⟨b', off', rfl, q2⟩ := HQC.out cl
            rcases Int.lt_trichotomy p q with h9 | h9 | h9
            · have f1 : decide (p < q) = true := by simpa using h9
              have HF : Hid (r = -1) := Lib.hid (HRR.out.trans (HAt.out.1 h9))
              clear HAt HE h9 X1 X2 HNx
              go_wp2_with fail
              go_ret
              exact ⟨by rw [HF.out]; rfl, rfl⟩
            · have f1 : decide (p < q) = false := by simp; omega
              have f2 : decide (q < p) = false := by simp; omega
              have HE' := Lib.hid (HNx.out h9)
              clear HAt HE h9 HNx
              go_wp2_with fail
              exact ⟨⟨j, by omega, rfl, HE', by trivial⟩, by simp [RowKit.intOf] <;> omega⟩
            · have f1 : decide (p < q) = false := by simp; omega
              have f2 : decide (q < p) = true := by simpa using h9
              have HF : Hid (r = 1) := Lib.hid (HRR.out.trans (HAt.out.2 h9))
              clear HAt HE h9 X1 X2 HNx
              go_wp2_with fail
              go_ret
              exact ⟨by rw [HF.out]; rfl, rfl⟩
          · have e3 : decide ((j : Int) < l) = false := by simp; omega
            have e4 : decide (j < l) = false := by simp; omega
            obtain rfl := HQ0.out (by omega)
            rcases Int.lt_trichotomy p 0 with h9 | h9 | h9
            · have f1 : decide (p < 0) = true := by simpa using h9
              have HF : Hid (r = -1) := Lib.hid (HRR.out.trans (HAt.out.1 h9))
              clear HAt HE h9 X1 X2 HNx
              go_wp2_with fail
              go_ret
              exact ⟨by rw [HF.out]; rfl, rfl⟩
            · have f1 : decide (p < 0) = false := by simp; omega
              have f2 : decide (0 < p) = false := by simp; omega
              have HE' := Lib.hid (HNx.out h9)
              clear HAt HE h9 HNx
              go_wp2_with fail
              exact ⟨⟨j, by omega, rfl, HE', by trivial⟩, by simp [RowKit.intOf] <;> omega⟩
            · have f1 : decide (p < 0) = false := by simp; omega
              have f2 : decide (0 < p) = true := by simpa using h9
              have HF : Hid (r = 1) := Lib.hid (HRR.out.trans (HAt.out.2 h9))
              clear HAt HE h9 X1 X2 HNx
              go_wp2_with fail
              go_ret
              exact ⟨by rw [HF.out]; rfl, rfl⟩
        · have e1 : decide ((j : Int) < k) = false := by simp; omega
          have e2 : decide (j < k) = false := by simp; omega
          obtain rfl := HP0.out (by omega)
          have cl : j < l := by omega
          have e3 : decide ((j : Int) < l) = true := by simpa using cl
          have e4 : decide (j < l) = true := by simpa using cl
          obtain ⟨b', off', rfl, q2⟩ := HQC.out cl
          rcases Int.lt_trichotomy 0 q with h9 | h9 | h9
          · have f1 : decide (0 < q) = true := by simpa using h9
            have HF : Hid (r = -1) := Lib.hid (HRR.out.trans (HAt.out.1 h9))
            clear HAt HE h9 X1 X2 HNx
            go_wp2_with fail
            go_ret
            exact ⟨by rw [HF.out]; rfl, rfl⟩
          · have f1 : decide (0 < q) = false := by simp; omega
            have f2 : decide (q < 0) = false := by simp; omega
            have HE' := Lib.hid (HNx.out h9)
            clear HAt HE h9 HNx
            go_wp2_with fail
            exact ⟨⟨j, by omega, rfl, HE', by trivial⟩, by simp [RowKit.intOf] <;> omega⟩
          · have f1 : decide (0 < q) = false := by simp; omega
            have f2 : decide (q < 0) = true := by simpa using h9
            have HF : Hid (r = 1) := Lib.hid (HRR.out.trans (HAt.out.2 h9))
            clear HAt HE h9 X1 X2 HNx
            go_wp2_with fail
            go_ret
            exact ⟨by rw [HF.out]; rfl, rfl⟩
end Go.Proofs.YtbfacdfmanffdaaGreatDoor
