/- The walk of the law SecondMakes. -/
import Derived.Test.YtapjeilfkpfllaaDoorSLay
namespace Go.Proofs.YtapjeilfkpfllaaDoor
set_option maxRecDepth 1000000
open Go.ChangeShapes Go.WideShapes Go.ChangeAt Go.RowKit
open Wd (Ob okO encO refsO ObjAt In64 I64)

/-- Objects side by side from the first sector on, up to the sector z; numbers from 1 on. -/
structure Packed (L : List Ent) (n z : Nat) : Prop where
  tk : ∀ i, tk (rowsE L) i = decide (i < z)
  tot : total (rowsE L) = z
  len : L.length = n
  last : n = 0 ∨ hasE L n = true
  bound : z ≤ 32 * n
theorem packed_nil : Packed [] 0 0 := ⟨fun i => by simp [rowsE, Proofs.YtapjeilfkpfllaaDoor.tk], rfl, rfl, .inl rfl, Nat.le_refl _⟩
theorem packed_first {L : List Ent} {n z : Nat} (h : Packed L n z) {q : Nat} (hq : 1 ≤ q) (hz : z + q ≤ 2000) : FirstIs (tk (rowsE L)) 2000 q z true :=
  .inl ⟨rfl, hz, fun k hk => by rw [h.tk]; exact decide_eq_false (by omega), fun b hb => ⟨0, by omega, by rw [h.tk]; exact decide_eq_true (by omega)⟩⟩
theorem packed_snoc {L : List Ent} {n z : Nat} (h : Packed L n z) (hg : GoodE n L) {o : Ob} (hs : szO o ≤ 32) : Packed (L ++ [⟨n + 1, o, z⟩]) (n + 1) (z + szO o) := by
  have hr : rowsE (L ++ [⟨n + 1, o, z⟩]) = rowsE L ++ [(z, encO o)] := by simp [rowsE, erow]
  have hl : len (z, encO o) = szO o := rfl
  refine ⟨fun i => ?_, ?_, by rw [List.length_append, h.len]; rfl, .inr ?_, by have := h.bound; omega⟩
  · rw [hr]
    have e : tk (rowsE L ++ [(z, encO o)]) i = (tk (rowsE L) i || inR z (szO o) i) := by simp [tk, hl]
    rw [e, h.tk, Bool.eq_iff_iff]
    simp only [Bool.or_eq_true, decide_eq_true_eq, inR_iff]
    omega
  · rw [hr, total_add, h.tot, hl]
  · unfold hasE
    rw [findE_snoc ⟨n + 1, o, z⟩ _ (fun x hx e => by have := hg.rng x hx; have e : (x.id : Int) = ((n + 1 : Nat) : Int) := e; omega), if_pos rfl]
    rfl
theorem has_next {L : List Ent} {n : Nat} (hg : GoodE n L) : hasE L ((n : Int) + 1) = false := by
  cases h : hasE L ((n : Int) + 1) with
  | false => rfl
  | true =>
    rw [hasE_iff] at h
    obtain ⟨e, he, hi⟩ := List.mem_map.1 h
    have := hg.rng e he
    omega
def MkInv (c : Sc) (W : World) (k n z : Nat) (wr : World) : Prop := ∃ L, SecAt wr c 2000 k n L ∧ Packed L n z ∧ n ≤ k ∧ Below W.heap.size W wr

set_option maxHeartbeats 8000000 in
theorem makes_walk (W : World) (hT : Tab W) (h0 : 0 < W.heap.size) (v : Value) (os : List Ob) (hv : Objs W v os) :
    Calls Tryd.prog 4 #[v] W fun e w' => e = .returned (.bool true) ∧ Below W.heap.size W w' := by
  have HV := Lib.hid hv
  have KN : Hid (∀ w', Below W.heap.size W w' → Calls Tryd.prog 8 #[] w' fun e w'' => e = .returned (.bool true) ∧ Below W.heap.size W w'') := fun w' h =>
    (known_true w' (hT.below h h0) (by have := h.size; omega)).mono fun e w'' ⟨he, hb⟩ => ⟨he, h.trans (hb.mono h.size)⟩
  have HN := Lib.hid (snew_yes 2000 W (by omega) hT h0)
  obtain ⟨a, cp, rfl, _, _⟩ := hv
  clear hT h0
  go_enter Tryd.func4, Tryd.ntmps4
  by_cases hlong : 40 < os.length
  · have hl1 : decide ((40 : Int) < os.length) = true := decide_eq_true (by omega)
    clear hlong
    go_wp2_with fail
    refine (KN.out W (Below.refl _ _)).mono ?_
    rintro e w1 ⟨rfl, b1⟩
    go_wp2
    go_ret
    exact ⟨rfl, b1⟩
  have HL40 := Lib.hid hlong
  have hl1 : decide ((40 : Int) < os.length) = false := decide_eq_false (by omega)
  clear hlong
  go_wp2_with fail
  refine (show Calls Tryd.prog 9 #[.int .i64 2000] _ _ from HN.out).mono ?_
  rintro e w1 ⟨c, rfl, s1, hlo, b1⟩
  have I1 : Hid (MkInv c W 0 0 0 w1) := ⟨[], s1, packed_nil, Nat.le_refl _, b1⟩
  have HLO := Lib.hid hlo
  have KF : Hid (∀ w' w'' : World, Below W.heap.size W w' → Only c.F w' w'' → Below W.heap.size W w'') := fun w' w'' h o => h.trans (o.below (fun i hi hf => by have := hf.1; have := HLO.out; omega) h.size)
  have KE : Hid (∀ w' w'' : World, Below W.heap.size W w' → Below w'.heap.size w' w'' → Below W.heap.size W w'') := fun w' w'' h o => h.trans (o.mono h.size)
  clear s1 b1 hlo HN hl1
  go_wp2_with fail
  go_loopw [5, 6, 7] (fun n z i wr => ∃ k n' z' : Nat, k ≤ os.length ∧ i = .int .i64 k ∧ n = .int .i64 n' ∧ z = .int .i64 z' ∧ MkInv c W k n' z' wr) (fun _ _ i _ => os.length - (RowKit.intOf i).toNat)
  case atStart => exact ⟨0, 0, 0, Nat.zero_le _, rfl, rfl, rfl, I1.out⟩
  case round =>
    obtain ⟨k, n, z, hk, rfl, rfl, rfl, L, hs, hp, hn, hb⟩ := hrel
    by_cases hlt : k < os.length
    · obtain ⟨b, off, c', he, a1, d1, a2, d2, hobj, hf1, hf2⟩ := HV.out.at_ hlt
      injection he with g1 g2 g3
      subst g1 g3
      clear g2
      have HOBJ := Lib.hid hobj
      have HFAR := Lib.hid (And.intro hf1 hf2)
      obtain ⟨e0, e1, e2, e3, _⟩ := hobj wr hb
      have HS := Lib.hid hs
      have HP := Lib.hid hp
      have HB := Lib.hid hb
      have HNK := Lib.hid hn
      clear hobj hf1 hf2 hs hp hb hn
      have hk1 : (k : Int) + 1 ≤ 100 := by have := HL40.out; omega
      generalize os[k] = o at *
      cases hok : okO o with
      | false =>
        have HOK := Lib.hid hok
        have HE := Lib.hid (Wd.refencode_no _ o wr (HOBJ.out wr HB.out).2.2.2.2 HFAR.out hok)
        clear hok
        go_wp2_with fail
        refine HE.out.mono ?_
        rintro e w2 ⟨rfl, b2⟩
        have B2 := Lib.hid (KE.out _ _ HB.out b2)
        have HM := Lib.hid (make_bad c 2000 k n L _ o w2 (HS.out.fresh b2) (HOBJ.out w2 B2.out).2.2.2.2 HOK.out)
        clear e0 e1 e2 e3 b2
        obtain ⟨e0, e1, e2, e3, _⟩ := HOBJ.out w2 B2.out
        go_wp2_with fail
        refine HM.out.mono ?_
        rintro e w3 ⟨rfl, s3, o3⟩
        have S3 := Lib.hid s3
        have B3 := Lib.hid (KF.out _ _ B2.out o3)
        clear e0 e1 e2 e3 s3 o3
        go_wp2_with fail
        go_roundw
        case rel => exact ⟨k + 1, n, z, by omega, by go_num, rfl, rfl, L, S3.out.mono (Nat.le_succ k), HP.out, by have := HNK.out; omega, B3.out⟩
        case measure => simp [RowKit.intOf]; omega
      | true =>
        have HOK := Lib.hid hok
        have HE := Lib.hid (Wd.refencode_yes _ o wr (HOBJ.out wr HB.out).2.2.2.2 hok)
        have hle := (Wd.enc_le hok).2
        clear hok
        go_wp2_with fail
        refine HE.out.mono ?_
        rintro e w2 ⟨v2, rfl, hown, b2⟩
        obtain ⟨a5, c5, rfl, _⟩ := Wd.own_room hown
        have B2 := Lib.hid (KE.out _ _ HB.out b2)
        obtain ⟨id, t, m', L', is, call⟩ := make_any c 2000 k n L _ o w2 (HS.out.fresh b2) (HOBJ.out w2 B2.out).2.2.2.2 (by have := HL40.out; omega)
        have IS := Lib.hid is
        have HM := Lib.hid call
        clear e0 e1 e2 e3 b2 hown is call
        obtain ⟨e0, e1, e2, e3, _⟩ := HOBJ.out w2 B2.out
        have hzl : (encO o).length = (encO o).length := rfl
        obtain ⟨ln, hln⟩ : ∃ ln, (encO o).length = ln := ⟨_, rfl⟩
        have HLN := Lib.hid hln
        rw [hln] at hle ⊢
        clear hzl hln
        go_wp2_with fail
        refine HM.out.mono ?_
        rintro e w3 ⟨rfl, s3, o3⟩
        have S3 := Lib.hid s3
        have B3 := Lib.hid (KF.out _ _ B2.out o3)
        clear e0 e1 e2 e3 s3 o3
        by_cases hbig : 2000 < ln
        · have hb1 : decide ((2000 : Int) < (ln : Int)) = true := decide_eq_true (by omega)
          clear hbig
          go_wp2_with fail
          refine (KN.out w3 B3.out).mono ?_
          rintro e w4 ⟨rfl, b4⟩
          go_wp2
          go_ret
          exact ⟨rfl, b4⟩
        have hb1 : decide ((2000 : Int) < (ln : Int)) = false := decide_eq_false (by omega)
        have HSZ : Hid (szO o = secs ln ∧ secs ln ≤ 32 ∧ 1 ≤ secs ln) := by
          have h1 : szO o = secs ln := by unfold szO; rw [HLN.out]
          have h2 : secs ln ≤ 32 := by unfold secs; omega
          exact ⟨h1, h2, secs_pos ln⟩
        obtain ⟨rfl, rfl, rfl, rfl⟩ := IS.out.room HOK.out (by have := HNK.out; have := HL40.out; omega) (packed_first HP.out (by rw [HSZ.out.1]; exact HSZ.out.2.2) (by have := HP.out.bound; have := HSZ.out; have := HNK.out; have := HL40.out; omega))
        have P3 : Hid (Packed (L ++ [⟨n + 1, o, z⟩]) (n + 1) (z + secs ln)) := by
          have := packed_snoc HP.out HS.out.good (o := o) (by rw [HSZ.out.1]; exact HSZ.out.2.1)
          rw [HSZ.out.1] at this
          exact this
        have HSEC := Lib.hid (fun w => refsec_any ln w (by omega))
        have hn1 : (n : Int) + 1 ≤ 41 := by have := HNK.out; have := HL40.out; omega
        have hz1 : (z : Int) + secs ln ≤ 100000 := by have := HP.out.bound; have := HSZ.out; have := HNK.out; have := HL40.out; omega
        have h32 : (secs ln : Int) ≤ 32 := by have := HSZ.out; omega
        clear hbig IS
        generalize secs ln = q at *
        go_wp2_with fail
        refine (HSEC.out _).mono ?_
        rintro e w4 ⟨rfl, rfl⟩
        go_wp2_with fail
        have HG3 := Lib.hid (good_snoc HS.out.good o z HOK.out)
        have hc1 : ((n + 1 : Nat) : Int) = (n : Int) + 1 := by omega
        have hc2 : ((z + q : Nat) : Int) = (z : Int) + q := by omega
        have HH1 : Hid (hasE (L ++ [⟨n + 1, o, z⟩]) ((n : Int) + 1) = true) := by
          have := P3.out.last.resolve_left (by omega)
          rw [hc1] at this
          exact this
        have HH2 : Hid (hasE (L ++ [⟨n + 1, o, z⟩]) ((n : Int) + 1 + 1) = false) := by
          have := has_next HG3.out
          rw [hc1] at this
          exact this
        have HT3 := Lib.hid P3.out.tot
        generalize hLL : L ++ [⟨n + 1, o, z⟩] = LL at *
        have HMD : Hid (Calls Tryd.prog 20 #[.pointer (some ⟨c.q, 0, none⟩)] w3 fun e w' => e = .returned (.int .i64 ((n : Int) + 1)) ∧ w3 = w') := by
          have := made_any c 2000 (k + 1) (n + 1) LL w3 S3.out
          rw [hc1] at this
          exact this
        have HUD : Hid (Calls Tryd.prog 19 #[.pointer (some ⟨c.q, 0, none⟩)] w3 (Tells (.int .i64 ((z : Int) + q)) c 2000 (k + 1) (n + 1) LL w3)) := by
          have := used_any c 2000 (k + 1) (n + 1) LL w3 S3.out
          rw [HT3.out, hc2] at this
          exact this
        clear hc1 hc2 hLL
        refine HMD.out.mono ?_
        rintro e w4 ⟨rfl, rfl⟩
        go_wp2_with fail
        refine HUD.out.mono ?_
        rintro e w5 ⟨rfl, s5, b5⟩
        have S5 := Lib.hid s5
        have B5 := Lib.hid (KE.out _ _ B3.out b5)
        clear s5 b5 HMD HUD
        go_wp2_with fail
        refine (has_any c 2000 (k + 1) (n + 1) LL _ (W64.of (by omega) (by omega)) w5 S5.out).mono ?_
        rintro e w6 ⟨rfl, s6, b6⟩
        rw [HH1.out]
        have S6 := Lib.hid s6
        have B6 := Lib.hid (KE.out _ _ B5.out b6)
        clear s6 b6
        go_wp2_with fail
        refine (has_any c 2000 (k + 1) (n + 1) LL _ (W64.of (by omega) (by omega)) w6 S6.out).mono ?_
        rintro e w7 ⟨rfl, s7, b7⟩
        rw [HH2.out]
        have S7 := Lib.hid s7
        have B7 := Lib.hid (KE.out _ _ B6.out b7)
        clear s7 b7
        go_wp2_with fail
        go_roundw
        case rel => exact ⟨k + 1, n + 1, z + q, by omega, by go_num, by go_num, by go_num, LL, S7.out, P3.out, by have := HNK.out; omega, B7.out⟩
        case measure => simp [RowKit.intOf]; omega
    · have HS := Lib.hid hs
      have HB := Lib.hid hb
      have HP := Lib.hid hp
      have hlt2 : ¬ (k : Int) < os.length := by omega
      clear hs hp hb hn hlt
      go_wp2_with fail
      refine (ids_any c 2000 k n L wr HS.out).mono ?_
      rintro e w2 ⟨v2, rfl, hown, s2, b2⟩
      obtain ⟨a5, c5, rfl, _⟩ := Wd.own_room hown
      have hll : (idsE L).length = n := by rw [← HP.out.len]; exact List.length_map _
      rw [hll]
      have B2 := Lib.hid (KE.out _ _ HB.out b2)
      clear hown s2 b2 hll
      go_wp2_with fail
      refine (KN.out w2 B2.out).mono ?_
      rintro e w4 ⟨rfl, b4⟩
      go_wp2
      go_ret
      exact ⟨rfl, b4⟩
end Go.Proofs.YtapjeilfkpfllaaDoor
