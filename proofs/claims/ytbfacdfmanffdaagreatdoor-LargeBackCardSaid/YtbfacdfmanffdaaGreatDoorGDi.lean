/- The document's Div. -/
import Derived.Test.YtbfacdfmanffdaaGreatDoorGDa
namespace Go.Proofs.YtbfacdfmanffdaaGreatDoor
set_option maxRecDepth 1000000
open Go.ChangeShapes Go.WideShapes Go.ChangeAt Go.RowKit

/-- What one digit's search asks: is mid times B at most X? -/
theorem prod_mid {N : Nat → Prop} (v : Value) (B : List Int) (w : World) (hv : Bts N w v B) (hb : Bytes B) (hl : B.length ≤ 1000) (d : Int) (h0 : 0 ≤ d) (h1 : d ≤ 255) :
    Calls Tryz.prog 28 #[v, .slice (some ⟨w.heap.size, 0, none⟩) 1 1] (w.alloc (.cells #[.int .u8 d] 5)) fun e w' => ∃ u, e = .returned u ∧ Bts (w.heap.size ≤ ·) w' u (dig (val B * d).toNat) ∧ Below w.heap.size w w' := by
  refine (product_ref v _ B [d] _ (hv.next (below_new w _)) hb hl (ownB1 w d).bts (fun n hn => by simp at hn; omega) (by simp)).mono ?_
  rintro e w' ⟨u, rfl, ho, hbw⟩
  have e1 : val [d] = d := by simp [val]
  rw [e1] at ho
  exact ⟨u, rfl, Bts.kind ho.bts (fun b _ h => by simp at h; omega), (below_new w _).trans (hbw.mono (by simp))⟩
theorem u8_small {n : Int} (h0 : 0 ≤ n) (h1 : n < 256) : IntKind.u8.wrap n = n := by simp [IntKind.wrap, IntKind.bits, IntKind.signed]; omega
theorem drew_below {b : Nat} {w w' : World} (h : Below b w w') : Below b w w'.drew := ⟨h.os, h.tape, h.output, h.size, h.block⟩
set_option maxHeartbeats 16000000 in
theorem div_ref {N M : Nat → Prop} (v1 v2 : Value) (A B : List Int) (w : World) (h1 : Bts N w v1 A) (b1 : Bytes A) (l1 : A.length ≤ 1000000000000) (h2 : Bts M w v2 B) (b2 : Bytes B) (l2 : B.length ≤ 1000000000000) :
    Calls Tryz.prog 36 #[v1, v2] w (DivPost A B w) := by
  have R1 := Lib.hid (right_ref v1 A w h1 l1)
  have R2 := Lib.hid (right_ref v2 B w h2 l2)
  have H1 := Lib.hid h1
  have H2 := Lib.hid h2
  have B1 := Lib.hid b1
  have B2 := Lib.hid b2
  have HE : Hid (∀ ra rb : Bool, rightB A = ra → rightB B = rb → (¬ (ra = true ∧ rb = true) → divE A B = 2 ∧ divQ A B = [] ∧ divR A B = []) ∧ (ra = true → rb = true → (B = [] → divE A B = 4 ∧ divQ A B = [] ∧ divR A B = []) ∧ (B ≠ [] → divE A B = 0 ∧ divQ A B = dig (val A / val B).toNat ∧ divR A B = dig (val A % val B).toNat))) := Lib.hid fun ra rb ha hb => by
    refine ⟨fun h => ?_, fun h h' => ⟨fun h2 => ?_, fun h2 => ?_⟩⟩
    · have e : divE A B = 2 := by unfold divE; rw [ha, hb, if_pos h]
      exact ⟨e, by unfold divQ; rw [e]; rfl, by unfold divR; rw [e]; rfl⟩
    · have e : divE A B = 4 := by unfold divE; rw [ha, hb, if_neg (fun h3 => h3 ⟨h, h'⟩), if_pos h2]
      exact ⟨e, by unfold divQ; rw [e]; rfl, by unfold divR; rw [e]; rfl⟩
    · have e : divE A B = 0 := by unfold divE; rw [ha, hb, if_neg (fun h3 => h3 ⟨h, h'⟩), if_neg h2]
      exact ⟨e, by unfold divQ; rw [if_pos e], by unfold divR; rw [if_pos e]⟩
  obtain ⟨a1, c1, rfl, hc1⟩ := Bts.form h1
  obtain ⟨a2, c2, rfl, hc2⟩ := Bts.form h2
  unfold DivPost
  generalize divE A B = se at *
  generalize divQ A B = sq at *
  generalize divR A B = sr at *
  obtain ⟨ra, hra⟩ : ∃ r, rightB A = r := ⟨_, rfl⟩
  obtain ⟨rb, hrb⟩ : ∃ r, rightB B = r := ⟨_, rfl⟩
  have HE2 := Lib.hid (HE.out ra rb hra hrb)
  have HRA := Lib.hid hra
  have HRB := Lib.hid hrb
  rw [hra] at R1
  rw [hrb] at R2
  clear HE hra hrb b1 b2 h1 h2
  by_cases hr : ra = true ∧ rb = true
  · obtain ⟨rfl, rfl⟩ := hr
    obtain ⟨e4, e0⟩ := HE2.out.2 rfl rfl
    have E4 := Lib.hid e4
    have E0 := Lib.hid e0
    have la := (right_len HRA.out).1
    have lb := (right_len HRB.out).1
    clear e4 e0 HE2
    by_cases hbn : B = []
    · obtain ⟨rfl, rfl, rfl⟩ := E4.out hbn
      have hlb : B.length = 0 := by rw [hbn]; rfl
      rw [hlb] at R2 H2 ⊢
      clear E4 E0 hbn hlb
      go_enter Tryz.func36, Tryz.ntmps36
      go_wp2_with (first | (go_at_call 23; (with_reducible refine R1.out.mono ?_); rintro e w1 ⟨rfl, rfl⟩) | (go_at_call 23; (with_reducible refine R2.out.mono ?_); rintro e w1 ⟨rfl, rfl⟩))
      go_ret3
      exact ⟨_, _, rfl, bts_nil _ _, bts_nil _ _, Below.refl _ _⟩
    · have HF := Lib.hid (E0.out hbn)
      have hVB := right_bare B2.out HRB.out hbn
      have HVB := Lib.hid hVB
      have hlb : 0 < B.length := List.length_pos_iff.2 hbn
      clear E4 E0 hbn
      have HA : Hid (∀ j, j < A.length → ∃ b off, a1 = some ⟨b, off, none⟩ ∧ ∀ w', Below w.heap.size w w' → w'.cell? ⟨b, off + j, none⟩ = some (.int .u8 (dgt A j))) := Lib.hid fun j hj => by
        obtain ⟨b, off, c', he, _, hlt, _, h'⟩ := bts_cells H1.out (by omega)
        injection he with e1 _ _
        exact ⟨b, off, e1, fun w' hb => (hb.cell (p := ⟨b, off + j, none⟩) hlt).trans (h' j hj)⟩
      have HDr : Hid (∀ j, j < A.length → val (A.drop j) = dgt A j + 256 * val (A.drop (j + 1))) := Lib.hid fun j h => val_drop h
      have HSm : Hid (∀ j, 0 ≤ val (A.drop j) ∧ val (A.drop j) < 256 ^ 400) := Lib.hid fun j => ⟨val_nonneg (drop_bytes B1.out j), drop_small B1.out la j⟩
      have HD0 : Hid (val (A.drop 0) = val A) := Lib.hid rfl
      have HDe : Hid (val (A.drop A.length) = 0) := Lib.hid (by rw [List.drop_of_length_le (Nat.le_refl _)]; rfl)
      have HDg := Lib.hid (fun j => dgt_rng B1.out j)
      have HPm : Hid (∀ (w' : World) (d : Int), Below w.heap.size w w' → 0 ≤ d → d ≤ 255 → Calls Tryz.prog 28 #[.slice a2 B.length c2, .slice (some ⟨w'.heap.size, 0, none⟩) 1 1] (w'.alloc (.cells #[.int .u8 d] 5)) fun e w'' => ∃ u, e = .returned u ∧ Bts (w'.heap.size ≤ ·) w'' u (dig (val B * d).toNat) ∧ Below w'.heap.size w' w'') := Lib.hid fun w' d h h0 h1 => prod_mid _ B w' (H2.out.next h) B2.out (by omega) d h0 h1
      have HPg : Hid (∀ (w' : World) (u : Value) (C : List Int) (N : Nat → Prop), Below w.heap.size w w' → Bts N w' u C → Bytes C → C.length ≤ 1000 → Calls Tryz.prog 28 #[.slice a2 B.length c2, u] w' (DigPost (val B * val C) w')) := Lib.hid fun w' u C N h hu hc hcl => product_ref _ _ B C w' (H2.out.next h) B2.out (by omega) hu hc hcl
      have HVBs : Hid (val B < 256 ^ 400) := Lib.hid (by have := drop_small B2.out lb 0; rwa [List.drop_zero] at this)
      generalize hla : A.length = na at *
      generalize hlbb : B.length = nb at *
      obtain ⟨VB, hVBB⟩ : ∃ V, val B = V := ⟨_, rfl⟩
      obtain ⟨VA, hVAA⟩ : ∃ V, val A = V := ⟨_, rfl⟩
      rw [hVBB] at HVB hVB HPm HPg HF HVBs
      rw [hVAA] at HF HD0
      have hmk := mk_bytes w na (by omega)
      have hnb0 : ((nb : Int) == 0) = false := by rw [beq_eq_false_iff_ne]; omega
      have R0 : Hid (RowB (w.alloc (.cells (madeCells #[Value.int .u8 0] na) 5)) w.heap.size na (fun _ => 0)) := Lib.hid ⟨fun j hj => made_byte w na j hj, fun j => frozen_one _ _ _ _, by simp⟩
      have K0 := Lib.hid (below_new w (.cells (madeCells #[Value.int .u8 0] na) 5))
      clear hla hlbb hVBB hVAA H1 H2
      go_enter Tryz.func36, Tryz.ntmps36
      go_upto_region 6 with (first | (go_at_call 23; (with_reducible refine R1.out.mono ?_); rintro e w1 ⟨rfl, rfl⟩) | (go_at_call 23; (with_reducible refine R2.out.mono ?_); rintro e w1 ⟨rfl, rfl⟩))
      generalize w.alloc (.cells (madeCells #[Value.int .u8 0] na) 5) = w1 at *
      clear hmk R1 R2
      go_wp2_with fail
      go_loopw [8, 9] (fun s8 s9 wr => ∃ (t : Nat) (R : Int) (f : Nat → Int), t ≤ na ∧ s9 = .int .i64 ((t : Int) - 1) ∧ 0 ≤ R ∧ R < VB ∧ Hid (Bts (w.heap.size < ·) wr s8 (dig R.toNat)) ∧ Hid (RowB wr w.heap.size na f) ∧ Hid (∀ j, 0 ≤ f j ∧ f j ≤ 255) ∧ Hid (topV f t na * VB + R = val (A.drop t)) ∧ Hid (Below w.heap.size w wr)) (fun _ s9 _ => (RowKit.intOf s9 + 1).toNat)
      case atStart => exact ⟨na, 0, fun _ => 0, Nat.le_refl _, rfl, by omega, hVB, Lib.hid (by show Bts _ _ _ (dig 0); rw [dig_zero]; exact bts_nil _ _), R0, Lib.hid (fun j => by simp), Lib.hid (by rw [topV_end, HDe.out]; simp), K0⟩
      case round =>
        clear R0 K0
        obtain ⟨t, R, f, ht, rfl, hR0, hR1, HRe, HRow, HFd, HQ, HB⟩ := hrel
        cases t with
        | zero =>
          have hend := div_end (A := VA) (B := VB) (Q := topV f 0 na) (R := R) (by rw [HQ.out, HD0.out]) hR0 hR1 (topV_nonneg HFd.out 0 na)
          have hfb : Bytes (rowL f na) := fun n hn => by
            obtain ⟨j, _, rfl⟩ := List.mem_map.1 hn
            exact HFd.out j
          have HBa := Lib.hid (bare_ref _ (rowL f na) wr HRow.out.bts hfb (by rw [rowL_len]; omega))
          have hvt : val (rowL f na) = topV f 0 na := rfl
          rw [hvt, hend.1, rowL_len] at HBa
          have HRM := Lib.hid hend.2
          have HRL := Lib.hid (rowL_len f na)
          clear HA HDr HSm HD0 HDe HDg HPm HPg HQ hend hfb hvt
          go_wp2_with (go_at_call 45; refine HBa.out.mono ?_; rintro e w2 ⟨a, k, c, hva, rfl, hk, htk, rfl⟩; have HTK := Lib.hid htk; clear htk)
          go_ret3
          obtain ⟨rfl, rfl, rfl⟩ := HF.out
          have hbq := Bts.take (k := k) HRow.out.bts hk HRL.out.symm
          rw [HTK.out] at hbq
          have hbq2 := Bts.kind hbq (M := (w.heap.size ≤ ·)) (fun b _ h => by rw [h]; exact Nat.le_refl _)
          exact ⟨_, _, rfl, hbq2, by rw [← HRM.out]; exact Bts.kind HRe.out (fun b _ h => Nat.le_of_lt h), HB.out⟩
        | succ j =>
          obtain ⟨b, off, rfl, hcell⟩ := HA.out j (by omega)
          have q := hcell wr HB.out
          have hrd := HDg.out j
          have hdr := HDr.out j (by omega)
          have hsm := HSm.out j
          have htop := topV_nonneg HFd.out (j + 1) na
          have hQ := HQ.out
          obtain ⟨a, ha⟩ : ∃ x, dgt A j = x := ⟨_, rfl⟩
          obtain ⟨T, hT⟩ : ∃ x, topV f (j + 1) na = x := ⟨_, rfl⟩
          obtain ⟨D1, hD1⟩ : ∃ x, val (A.drop (j + 1)) = x := ⟨_, rfl⟩
          rw [ha] at hrd hdr q
          rw [hD1] at hdr hQ
          rw [hT] at hQ htop
          have hTB : 0 ≤ T * VB := Int.mul_nonneg htop (by omega)
          have hRD : R ≤ D1 := by omega
          have hX0 : 0 ≤ a + 256 * R := by omega
          have hX1 : a + 256 * R < 256 * VB := div_digit hrd.2 hR1
          have hX2 : a + 256 * R ≤ val (A.drop j) := by omega
          obtain ⟨X, hX⟩ : ∃ X, a + 256 * R = X := ⟨_, rfl⟩
          have HStep : Hid (∀ low : Int, low * VB ≤ X → X < (low + 1) * VB → (low + 256 * T) * VB + (X - low * VB) = val (A.drop j)) := Lib.hid fun low h1 h2 => by
            rw [← hX] at h1 h2
            have := (div_step (Q := T) h1 h2).1
            rw [hX] at this
            rw [this, hQ, hdr]
          have HTop : Hid (∀ low : Int, topV (fun i => if i = j then low else f i) j na = low + 256 * T) := Lib.hid fun low => by
            rw [topV_step _ na (by omega), if_pos rfl, ← hT]
            rw [topV_congr (g := f) na na (j + 1) (by omega) (fun i hi => by rw [if_neg (by omega)])]
          have HXd : Hid (val ([a] ++ dig R.toNat) = X) := Lib.hid (by rw [val_cons_dig a R hR0, hX])
          have HXs : Hid (0 ≤ X ∧ X < 256 ^ 400) := Lib.hid ⟨by omega, by have := hsm.2; omega⟩
          have HX1 : Hid (X < 256 * VB) := Lib.hid (by omega)
          have hlR : Hid ((dig R.toNat).length ≤ 401) := Lib.hid (by
            have e : ((R.toNat : Nat) : Int) = R := Int.toNat_of_nonneg hR0
            have h400 : R < 256 ^ 400 := by have := hsm.2; omega
            have := (dig_len (n := R.toNat) (k := 400)).2 (by rw [e]; exact h400)
            omega)
          have hab := hrd
          have hjj : (((j + 1 : Nat) : Int) - 1) = (j : Int) := by omega
          rw [hjj]
          have hj0 : (0 : Int) ≤ j := by omega
          have hjn : (j : Int) < na := by omega
          have hjn2 : j < na := by omega
          have O1 := Lib.hid (ownB1 wr a)
          have RE2 := Lib.hid (HRe.out.next (below_new wr (.cells #[.int .u8 a] 5)))
          have RW2 := Lib.hid (HRow.out.next (below_new wr (.cells #[.int .u8 a] 5)))
          have K2 := Lib.hid (HB.out.alloc HB.out.size (.cells #[.int .u8 a] 5))
          have hgw := HRow.out.2.2
          have hsz2 : wr.heap.size ≤ (wr.alloc (.cells #[.int .u8 a] 5)).heap.size := by simp
          clear hcell hdr hsm htop hQ ha hT hD1 hTB hRD hX0 hX1 hX2 hX hjj HA HDr HSm HQ HRe HRow HB HD0 HDe HDg
          go_upto_region 11 with fail
          generalize wr.alloc (.cells #[.int .u8 a] 5) = w2 at *
          clear q
          obtain ⟨v3, w3, hrun, ho3, hgrow⟩ := append_bts O1.out RE2.out (by have := hlR.out; simp; omega) hsz2 22
          have hK : Below (w.heap.size + 1) w2 w3 := (Below.refl _ w2).grown hgrow (by omega) fun g hg => by have := (World.ownsRow.lt O1.out g hg).1; omega
          have K3 := Lib.hid (K2.out.trans (hK.mono (by omega)))
          have RW3 := Lib.hid (RW2.out.kept hK (by omega))
          have HRUN := Lib.hid hrun
          have O3 := Lib.hid ho3
          obtain ⟨x3, c3, rfl⟩ : ∃ x c, v3 = .slice x ([a] ++ dig R.toNat).length c := own_form ho3
          have hdb : Bytes ([a] ++ dig R.toNat) := fun n hn => by
            rcases List.mem_append.1 hn with h | h
            · rw [List.mem_singleton] at h; omega
            · exact dig_bytes _ n h
          have HBa := Lib.hid (bare_ref _ ([a] ++ dig R.toNat) w3 O3.out.bts hdb (by have := hlR.out; rw [List.length_append]; simp; omega))
          rw [HXd.out] at HBa
          have HLn : Hid (([a] ++ dig R.toNat).length = ([a] ++ dig R.toNat).length) := Lib.hid rfl
          obtain ⟨n3, hn3⟩ : ∃ n, ([a] ++ dig R.toNat).length = n := ⟨_, rfl⟩
          have HN3 := Lib.hid hn3
          rw [hn3] at HBa HRUN O3
          clear hrun ho3 hgrow hK hdb HLn hn3 RE2
          go_upto_region 12 with (at_builtin; refine wpList_append_eq _ rfl _ _ 22 rfl _ _ _ _ rfl rfl HRUN.out ?_)
          clear HRUN
          go_upto_region 13 with (go_at_call 45; refine HBa.out.mono ?_; rintro e w4 ⟨a4, k4, c4, hva, rfl, hk4, htk4, rfl⟩)
          have hre := Bts.take (k := k4) O3.out.bts hk4 HN3.out.symm
          rw [htk4] at hre
          have RE3 := Lib.hid (Bts.kind hre (M := (w.heap.size < ·)) (fun b _ h => by omega))
          obtain ⟨k5, hk5⟩ : ∃ k5, k4 = k5 := ⟨_, rfl⟩
          rw [hk5] at RE3 ⊢
          clear hre htk4 hk4 O3 HBa HXd HN3 hk5
          have hmark := True.intro
          go_wp2_with fail
          go_loopw [11, 12] (fun s11 s12 wx => ∃ low high : Int, s11 = .int .i64 low ∧ s12 = .int .i64 high ∧ 0 ≤ low ∧ low < high ∧ high ≤ 256 ∧ Hid (low * VB ≤ X ∧ X < high * VB) ∧ Hid (Bts (w.heap.size < ·) wx (.slice x3 k5 c3) (dig X.toNat)) ∧ Hid (RowB wx w.heap.size na f) ∧ Hid (Below w.heap.size w wx)) (fun s11 s12 _ => (RowKit.intOf s12 - RowKit.intOf s11).toNat)
          case atStart => exact ⟨0, 256, rfl, rfl, by omega, by omega, by omega, Lib.hid ⟨by have := HXs.out.1; omega, HX1.out⟩, RE3, RW3, K3⟩
          case round =>
            clear RE3 RW3 K3 RW2 K2 O1
            obtain ⟨low, high, rfl, rfl, hl0, hlh, hh, HLH, RE, RW, KB⟩ := hrel
            have hw0 : IntKind.i64.wrap (high - low) = high - low := by rw [IntKind.wrap_i64]; omega
            by_cases hlt : 1 < high - low
            · have d1 : decide (1 < high - low) = true := by simpa using hlt
              obtain ⟨mid, hmid⟩ : ∃ m, (low + high) / 2 = m := ⟨_, rfl⟩
              have hm1 : low < mid := by omega
              have hm2 : mid < high := by omega
              have r1 : (low + high).tdiv 2 = mid := by rw [Int.tdiv_eq_ediv_of_nonneg (by omega)]; exact hmid
              have hw1 : IntKind.i64.wrap (low + high) = low + high := by rw [IntKind.wrap_i64]; omega
              have hmu : IntKind.u8.wrap mid = mid := u8_small (by omega) (by omega)
              have HP := Lib.hid (HPm.out wr mid KB.out (by omega) (by omega))
              obtain ⟨PM, hPM⟩ : ∃ P, VB * mid = P := ⟨_, rfl⟩
              have hPM0 : 0 ≤ PM := by rw [← hPM]; exact Int.mul_nonneg (by omega) (by omega)
              rw [hPM] at HP
              have HCm : Hid (∀ (w' : World) (u : Value), Bts (wr.heap.size ≤ ·) w' u (dig PM.toNat) → Below wr.heap.size wr w' → Calls Tryz.prog 59 #[u, .slice x3 k5 c3] w' fun e w'' => e = .returned (.int .i64 (cmpV PM X)) ∧ w' = w'') := Lib.hid fun w' u h h' => by
                have h4 : (dig PM.toNat).length ≤ 1000000000000 := by
                  have : (dig PM.toNat).length ≤ 1000 := dig_len.2 (by
                    rw [Int.toNat_of_nonneg hPM0]
                    have h5 : PM ≤ 255 * VB := by rw [← hPM, Int.mul_comm]; exact Int.mul_le_mul_of_nonneg_right (by omega) (by omega)
                    have h6 := HVBs.out
                    have : (256 : Int) ^ 402 ≤ 256 ^ 1000 := by decide +kernel
                    omega)
                  omega
                have h5 : (dig X.toNat).length ≤ 1000000000000 := by
                  have : (dig X.toNat).length ≤ 400 := dig_len.2 (by rw [Int.toNat_of_nonneg HXs.out.1]; exact HXs.out.2)
                  omega
                have := cmp_ref u (.slice x3 k5 c3) (dig PM.toNat) (dig X.toNat) w' h (dig_bytes _) h4 (RE.out.next h') (dig_bytes _) h5
                rwa [val_dig, val_dig, Int.toNat_of_nonneg hPM0, Int.toNat_of_nonneg HXs.out.1] at this
              by_cases hle : PM ≤ X
              · have HL2 : Hid (mid * VB ≤ X ∧ X < high * VB) := Lib.hid ⟨by rw [Int.mul_comm, hPM]; exact hle, HLH.out.2⟩
                have d2 : decide (cmpV PM X ≤ 0) = true := by rw [decide_eq_true_eq]; exact cmpV_le.2 hle
                generalize cmpV PM X = cm at *
                clear HLH hPM hle hmid hPM0
                go_wp2_with (first | (go_at_call 28; refine HP.out.mono ?_; rintro e w5 ⟨u, rfl, hu, hb5⟩; have U := Lib.hid hu; have K5 := Lib.hid hb5; clear hu hb5) | (go_at_call 59; refine (HCm.out w5 u U.out K5.out).mono ?_; rintro e w6 ⟨rfl, rfl⟩))
                exact ⟨⟨mid, high, rfl, rfl, by omega, hm2, hh, HL2, Lib.hid (RE.out.next K5.out), Lib.hid (RW.out.next K5.out), Lib.hid (KB.out.trans (K5.out.mono KB.out.size))⟩, by simp [RowKit.intOf]; omega⟩
              · have HL2 : Hid (low * VB ≤ X ∧ X < mid * VB) := Lib.hid ⟨HLH.out.1, by rw [Int.mul_comm, hPM]; omega⟩
                have d2 : decide (cmpV PM X ≤ 0) = false := by rw [decide_eq_false_iff_not]; exact fun h => hle (cmpV_le.1 h)
                generalize cmpV PM X = cm at *
                clear HLH hPM hle hmid hPM0
                go_wp2_with (first | (go_at_call 28; refine HP.out.mono ?_; rintro e w5 ⟨u, rfl, hu, hb5⟩; have U := Lib.hid hu; have K5 := Lib.hid hb5; clear hu hb5) | (go_at_call 59; refine (HCm.out w5 u U.out K5.out).mono ?_; rintro e w6 ⟨rfl, rfl⟩))
                exact ⟨⟨low, mid, rfl, rfl, hl0, hm1, by omega, HL2, Lib.hid (RE.out.next K5.out), Lib.hid (RW.out.next K5.out), Lib.hid (KB.out.trans (K5.out.mono KB.out.size))⟩, by simp [RowKit.intOf]; omega⟩
            · have d1 : decide (1 < high - low) = false := by simpa using hlt
              have hhl : high = low + 1 := by omega
              have HLH2 : Hid (low * VB ≤ X ∧ X < (low + 1) * VB) := Lib.hid ⟨HLH.out.1, by have := HLH.out.2; rw [hhl] at this; exact this⟩
              have hlu : IntKind.u8.wrap low = low := u8_small (by omega) (by omega)
              have y := RW.out.1 j hjn2
              have yf := RW.out.2.1
              have RW5 := Lib.hid (RW.out.set hjn2 low)
              have hon : Only (· = w.heap.size) wr (wr.setCell ⟨w.heap.size, j, none⟩ (.int .u8 low)) := Only.setCell (F := (· = w.heap.size)) (Only.refl _ _) ⟨w.heap.size, j, none⟩ (.inl rfl) _
              have RE5 := Lib.hid (Bts.only RE.out hon (fun b h e => by omega))
              have K5 := Lib.hid (KB.out.setCell (p := ⟨w.heap.size, j, none⟩) (Nat.le_refl _) (.int .u8 low))
              have HNew : Hid ((low + 256 * T) * VB + (X - low * VB) = val (A.drop j) ∧ topV (fun i => if i = j then low else f i) j na = low + 256 * T ∧ 0 ≤ X - low * VB ∧ X - low * VB < VB ∧ ∀ i, 0 ≤ (if i = j then low else f i) ∧ (if i = j then low else f i) ≤ 255) := Lib.hid ⟨HStep.out low HLH2.out.1 HLH2.out.2, HTop.out low, by have := HLH2.out.1; omega, by have := HLH2.out.2; rw [Int.add_mul] at this; omega, fun i => by
                split
                · omega
                · exact HFd.out i⟩
              clear hon HLH HStep HTop hhl RW RE KB hlt
              go_upto_region 20 with fail
              go_upto_region 21 with fail
              generalize wr.setCell ⟨w.heap.size, j, none⟩ (.int .u8 low) = w5 at *
              have O6 := Lib.hid (ownB1 w5 low)
              have RW6 := Lib.hid (RW5.out.next (below_new w5 (.cells #[.int .u8 low] 5)))
              have RE6 := Lib.hid (RE5.out.next (below_new w5 (.cells #[.int .u8 low] 5)))
              have K6 := Lib.hid (K5.out.alloc K5.out.size (.cells #[.int .u8 low] 5))
              have HBa := Lib.hid (bare_ref _ [low] (w5.alloc (.cells #[.int .u8 low] 5)) O6.out.bts (fun n hn => by rw [List.mem_singleton] at hn; omega) (by simp))
              have HV1 : Hid (val [low] = low) := Lib.hid (by simp [val])
              rw [HV1.out] at HBa
              have HPr : Hid (∀ k, k ≤ 1 → [low].take k = dig low.toNat → Calls Tryz.prog 28 #[.slice a2 nb c2, .slice (some ⟨w5.heap.size, 0, none⟩) k 1] (w5.alloc (.cells #[.int .u8 low] 5)) (DigPost (VB * low) (w5.alloc (.cells #[.int .u8 low] 5)))) := Lib.hid fun k hk hke => by
                have h := HPg.out (w5.alloc (.cells #[.int .u8 low] 5)) (.slice (some ⟨w5.heap.size, 0, none⟩) k 1) ([low].take k) _ K6.out (Bts.take O6.out.bts hk rfl) (by rw [hke]; exact dig_bytes _) (by rw [List.length_take]; omega)
                rwa [hke, val_dig, Int.toNat_of_nonneg hl0] at h
              have HSub : Hid (∀ (w' : World) (u : Value), Bts (w5.heap.size ≤ ·) w' u (dig (VB * low).toNat) → Below (w5.heap.size + 1) (w5.alloc (.cells #[.int .u8 low] 5)) w' → Calls Tryz.prog 60 #[.slice x3 k5 c3, u] w' (NumPost 0 (dig (X - low * VB).toNat) w')) := Lib.hid fun w' u h h' => by
                have hm0 : 0 ≤ VB * low := Int.mul_nonneg (by omega) hl0
                have hmX : VB * low ≤ X := by rw [Int.mul_comm]; exact HLH2.out.1
                have e1 : (((VB * low).toNat : Nat) : Int) = VB * low := Int.toNat_of_nonneg hm0
                have e2 : ((X.toNat : Nat) : Int) = X := Int.toNat_of_nonneg HXs.out.1
                have r1 : rightB (dig X.toNat) = true := right_dig (by rw [e2]; exact HXs.out.2)
                have r2 : rightB (dig (VB * low).toNat) = true := right_dig (by rw [e1]; have := HXs.out.2; omega)
                have h5 : (dig X.toNat).length ≤ 1000000000000 := by have := (right_len r1).1; omega
                have h6 : (dig (VB * low).toNat).length ≤ 1000000000000 := by have := (right_len r2).1; omega
                have hs := sub_ref (.slice x3 k5 c3) u (dig X.toNat) (dig (VB * low).toNat) w' (RE6.out.next (h'.mono (by simp))) (dig_bytes _) h5 h (dig_bytes _) h6
                have hE : subE (dig X.toNat) (dig (VB * low).toNat) = 0 := by
                  unfold subE
                  rw [if_neg (fun h3 => h3 ⟨r1, r2⟩), val_dig, val_dig, e1, e2, if_neg (by omega)]
                have hO : subO (dig X.toNat) (dig (VB * low).toNat) = dig (X - low * VB).toNat := by
                  unfold subO
                  rw [if_pos hE, val_dig, val_dig, e1, e2, Int.mul_comm VB low]
                rwa [hE, hO] at hs
              unfold DigPost at HPr
              unfold NumPost at HSub
              have hsz6 : (w5.alloc (.cells #[.int .u8 low] 5)).heap.size = w5.heap.size + 1 := by simp
              have hsz5 : w.heap.size < w5.heap.size := RW5.out.2.2
              clear y yf HV1 O6 RW5 RE5 HLH2
              go_wp2_with (first | (go_at_call 45; refine HBa.out.mono ?_; rintro e w6 ⟨a6, k6, c6, hva, rfl, hk6, htk6, rfl⟩; have HK6 := Lib.hid hk6; have HTK6 := Lib.hid htk6; clear hk6 htk6) | (go_at_call 28; refine (HPr.out k6 HK6.out HTK6.out).mono ?_; rintro e w7 ⟨vs7, rfl, ho7, hb7⟩; have O7 := Lib.hid ho7; have K7 := Lib.hid hb7; clear ho7 hb7) | (go_at_call 60; refine (HSub.out w7 vs7 (Bts.kind O7.out.bts (fun b _ h => by omega)) (K7.out.mono (by omega))).mono ?_; rintro e w8 ⟨vs8, rfl, ho8, hb8⟩; have O8 := Lib.hid ho8; have K8 := Lib.hid hb8; clear ho8 hb8))
              obtain ⟨n1, n2, n3', n4, n5⟩ := HNew.out
              have RW8 : RowB w8 w.heap.size na (fun i => if i = j then low else f i) := RowB.kept (B := w5.heap.size) RW6.out ((K7.out.trans (K8.out.mono K7.out.size)).mono (by simp)) hsz5
              have KB8 : Below w.heap.size w w8 := K6.out.trans ((K7.out.trans (K8.out.mono K7.out.size)).mono K6.out.size)
              have hrest : Bts (w.heap.size < ·) w8 vs8 (dig (X - low * VB).toNat) := Bts.kind O8.out.bts (fun b _ h => by have := K7.out.size; omega)
              exact ⟨⟨j, X - low * VB, _, by omega, rfl, n3', n4, Lib.hid hrest, Lib.hid RW8, Lib.hid n5, Lib.hid (by rw [n2]; exact n1), Lib.hid KB8⟩, by simp [RowKit.intOf] <;> omega⟩
  · obtain ⟨rfl, rfl, rfl⟩ := HE2.out.1 hr
    clear HE2
    cases ra with
    | true =>
      obtain rfl : rb = false := by cases rb <;> simp_all
      clear hr
      go_enter Tryz.func36, Tryz.ntmps36
      go_wp2_with (first | (go_at_call 23; (with_reducible refine R1.out.mono ?_); rintro e w1 ⟨rfl, rfl⟩) | (go_at_call 23; (with_reducible refine R2.out.mono ?_); rintro e w1 ⟨rfl, rfl⟩))
      go_ret3
      exact ⟨_, _, rfl, bts_nil _ _, bts_nil _ _, Below.refl _ _⟩
    | false =>
      clear hr
      go_enter Tryz.func36, Tryz.ntmps36
      go_wp2_with (first | (go_at_call 23; (with_reducible refine R1.out.mono ?_); rintro e w1 ⟨rfl, rfl⟩) | (go_at_call 23; (with_reducible refine R2.out.mono ?_); rintro e w1 ⟨rfl, rfl⟩))
      go_ret3
      exact ⟨_, _, rfl, bts_nil _ _, bts_nil _ _, Below.refl _ _⟩
end Go.Proofs.YtbfacdfmanffdaaGreatDoor
