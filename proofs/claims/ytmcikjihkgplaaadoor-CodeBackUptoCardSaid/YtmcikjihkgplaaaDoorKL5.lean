/- The walk of CodeBack. -/
import Derived.Test.YtmcikjihkgplaaaDoorKL1
import Derived.Test.YtmcikjihkgplaaaDoorKBk
namespace Go.Proofs.YtmcikjihkgplaaaDoor
set_option maxRecDepth 1000000
open Go.ChangeShapes Go.WideShapes Go.ChangeAt Go.RowKit

set_option maxHeartbeats 8000000 in
theorem codeBack_walk {N : Nat → Prop} (W : World) (hT : Tabs W) (v : Value) (bs : List Int) (hv : Bts N W v bs) (hb : Bytes bs) (hl : bs.length ≤ 300000000000) :
    Calls Tryd.prog 6 #[v] W fun e W' => e = .returned (.bool true) ∧ Below W.heap.size W W' := by
  have HT := Lib.hid hT
  have HK := Lib.hid (fun w' (h : Below W.heap.size W w') => known_any w' (hT.next h))
  clear hT
  have HA := Lib.hid (all_code v bs W HT.out hv hb (by omega))
  obtain ⟨R, hch, hR1, hR2⟩ := allO_ch bs
  have hLL := allO_len bs
  obtain ⟨ln, hln⟩ : ∃ n, bs.length = n := ⟨_, rfl⟩
  have HL := Lib.hid hln
  unfold AllPost at HA
  obtain ⟨va, c, rfl, _⟩ := Bts.form hv
  rw [hln] at hl hLL HA ⊢
  generalize (allO bs).1 = L at *
  generalize (allO bs).2 = er at *
  have HTold : Hid (er = 0 → (∀ o ∈ L, ToldBy o) ∧ begAt L L.length = ln) := Lib.hid fun h => by
    have e := hR1 h
    subst e
    refine ⟨fun o ho => ?_, ?_⟩
    · obtain ⟨i, hi⟩ := List.mem_iff_getElem?.1 ho
      obtain ⟨p, h1, h2, h3, h4⟩ := ch_at hch i o hi
      rw [h4]
      exact atO_told hb h3
    · have := ch_end hch h
      rw [hln] at this
      simpa using this
  clear hv hb hch hR1 hR2 hln
  obtain ⟨nl, hnl⟩ : ∃ n, L.length = n := ⟨_, rfl⟩
  have HNL := Lib.hid hnl
  rw [hnl] at hLL
  clear hnl
  go_enter Tryd.func6, Tryd.ntmps6
  go_upto_region 2 with (go_at_call 14; refine HA.out.mono ?_; rintro e w1 ⟨v1, rfl, hown, hb1⟩)
  have K1 := Lib.hid hb1
  have OP := Lib.hid (OwnL.ops hown)
  obtain ⟨xa, xc, rfl⟩ : ∃ x c, v1 = .slice x L.length c := own_form hown
  have HV : Hid (∀ (w' : World) (j : Nat), Below w1.heap.size w1 w' → j < nl → ∃ b off o, xa = some ⟨b, off, none⟩ ∧ L[j]? = some o ∧ RowO w' b (off + j * 4) o) := Lib.hid fun w' j hb hj => by
    obtain ⟨b, off, c, hv', _, _, hr⟩ := (OP.out.next hb).at_ (j := j) (by rw [HNL.out]; exact hj)
    injection hv' with e1 _ _
    exact ⟨b, off, L[j]'(by rw [HNL.out]; exact hj), e1, List.getElem?_eq_getElem _, hr⟩
  have HBy := Lib.hid (bytes_code _ L w1 (HT.out.next K1.out) OP.out (by rw [HNL.out]; omega))
  unfold BytesPost at HBy
  rw [HNL.out] at HBy ⊢
  clear hown hb1 OP HA
  by_cases hlt : 40 < ln
  · have d1 : decide (40 < ln) = true := by simpa using hlt
    have d2 : decide ((40 : Int) < ln) = true := by simpa using (by omega : (40 : Int) < ln)
    go_wp2_with (go_at_call 11; refine (HK.out _ (K1.out)).mono ?_; rintro e w2 ⟨rfl, hb2⟩)
    all_goals go_ret
    all_goals exact ⟨rfl, K1.out.trans (hb2.mono K1.out.size)⟩
  · have d1 : decide (40 < ln) = false := by simpa using hlt
    have d2 : decide ((40 : Int) < ln) = false := by simpa using (by omega : ¬ (40 : Int) < ln)
    by_cases he : er = 0
    · subst he
      obtain ⟨hT1, hT2⟩ := HTold.out rfl
      have HT1 := Lib.hid hT1
      have HT2 := Lib.hid hT2
      clear HTold hT1 hT2 d1 d2
      have d1 : decide (40 < ln) = false := by simpa using hlt
      have d2 : decide ((40 : Int) < ln) = false := by simpa using (by omega : ¬ (40 : Int) < ln)
      go_upto_region 5 with (go_at_call 19; refine HBy.out.mono ?_; rintro e w2 ⟨r, v5, hbi, rfl, o5, hb2⟩)
      have BI := Lib.hid hbi
      have O5 := Lib.hid o5
      have K2 := Lib.hid hb2
      have HV2 : Hid (∀ (w' : World) (j : Nat), Below w2.heap.size w2 w' → j < nl → ∃ b off o, xa = some ⟨b, off, none⟩ ∧ L[j]? = some o ∧ RowO w' b (off + j * 4) o) := Lib.hid fun w' j h hj => HV.out w' j (K2.out.trans (h.mono K2.out.size)) hj
      have KW := Lib.hid (K1.out.trans (K2.out.mono K1.out.size))
      clear hbi o5 hb2 HV HBy K1 K2
      obtain ⟨ef, hef⟩ : ∃ x : Int, (if r.isSome = true then 0 else 2) = x := ⟨_, rfl⟩
      rw [hef]
      have HEF := Lib.hid hef
      clear hef
      have hmark := True.intro
      go_wp2_with fail
      go_loopw [7, 8] (fun s7 s8 wx => ∃ (i : Nat) (fb : Bool), i ≤ nl ∧ s8 = .int .i64 i ∧ s7 = .bool fb ∧ Hid (fb = true ↔ ∃ (j : Nat) (o : OpT), j < i ∧ L[j]? = some o ∧ o.k = 0) ∧ wx = w2) (fun _ s8 _ => nl - (RowKit.intOf s8).toNat)
      case atStart => exact ⟨0, false, Nat.zero_le _, rfl, rfl, Lib.hid ⟨fun h => (by cases h), fun ⟨j, o, h, _⟩ => by omega⟩, rfl⟩
      case round =>
        obtain ⟨i, fb, hi, rfl, rfl, HF, hwr⟩ := hrel
        subst hwr
        by_cases hli : i < nl
        · obtain ⟨b, off, o, rfl, ho, x0, x1, x2, x3⟩ := HV2.out wr i (Below.refl _ _) hli
          have d3 : decide ((i : Int) < nl) = true := by simpa using hli
          have d4 : decide (i < nl) = true := by simpa using hli
          have hi0 : (0 : Int) ≤ i := by omega
          have hil : (i : Int) < nl := by omega
          have HO := Lib.hid ho
          clear ho x1 x2 x3
          cases fb with
          | true =>
            have HF' : Hid (true = true ↔ ∃ (j : Nat) (o : OpT), j < i + 1 ∧ L[j]? = some o ∧ o.k = 0) := Lib.hid ⟨fun h => by obtain ⟨j, o, h1, h2⟩ := HF.out.1 h; exact ⟨j, o, by omega, h2⟩, fun _ => rfl⟩
            clear HF
            go_wp2_with fail
            exact ⟨⟨i + 1, true, by omega, by go_num, rfl, HF', by trivial⟩, by simp [RowKit.intOf]; omega⟩
          | false =>
            by_cases hk : o.k = 0
            · have f1 : (o.k == 0) = true := by simpa using hk
              have HF' : Hid (true = true ↔ ∃ (j : Nat) (o : OpT), j < i + 1 ∧ L[j]? = some o ∧ o.k = 0) := Lib.hid ⟨fun _ => ⟨i, o, by omega, HO.out, hk⟩, fun _ => rfl⟩
              clear HF hk
              go_wp2_with fail
              exact ⟨⟨i + 1, true, by omega, by go_num, rfl, HF', by trivial⟩, by simp [RowKit.intOf]; omega⟩
            · have f1 : (o.k == 0) = false := by simpa using hk
              have HF' : Hid (false = true ↔ ∃ (j : Nat) (o : OpT), j < i + 1 ∧ L[j]? = some o ∧ o.k = 0) := Lib.hid ⟨fun h => (by cases h), fun ⟨j, p, h1, h2, h3⟩ => by
                rcases Nat.lt_or_ge j i with h | h
                · exact HF.out.2 ⟨j, p, h, h2, h3⟩
                · obtain rfl : j = i := by omega
                  have := HO.out.symm.trans h2
                  injection this with this
                  subst this
                  exact (hk h3).elim⟩
              clear HF hk
              go_wp2_with fail
              exact ⟨⟨i + 1, false, by omega, by go_num, rfl, HF', by trivial⟩, by simp [RowKit.intOf]; omega⟩
        · have hi' : i = nl := by omega
          have d3 : decide ((i : Int) < nl) = false := by simp [hi']
          have d4 : decide (i < nl) = false := by simp [hi']
          have HF2 : Hid (fb = true ↔ ∃ o ∈ L, o.k = 0) := Lib.hid (HF.out.trans ⟨fun ⟨j, o, _, h2, h3⟩ => ⟨o, List.mem_of_getElem? h2, h3⟩, fun ⟨o, h1, h2⟩ => by
            obtain ⟨j, hj⟩ := List.mem_iff_getElem?.1 h1
            exact ⟨j, o, by have := (List.getElem?_eq_some_iff.1 hj).1; rw [HNL.out] at this; omega, hj, h2⟩⟩)
          clear HF hi hi' hli
          cases fb with
          | true =>
            obtain ⟨o, ho, hk⟩ := HF2.out.1 rfl
            have hr : r = none := by
              cases r with
              | none => rfl
              | some c => exact (bytes_kinds BI.out o ho hk).elim
            subst hr
            have hef : ef = 2 := HEF.out.symm
            subst hef
            clear ho hk
            go_wp2_with (go_at_call 11; refine (HK.out _ (KW.out)).mono ?_; rintro e w3 ⟨rfl, hb3⟩)
            all_goals go_ret
            all_goals exact ⟨rfl, KW.out.trans (hb3.mono KW.out.size)⟩
          | false =>
            obtain ⟨cs, Q, rfl, hch, hQl, hQi, hcl, hcb⟩ := bytes_back (fun o ho => ⟨HT1.out o ho, fun hk => by have := HF2.out.2 ⟨o, ho, hk⟩; cases this⟩) BI.out
            rw [HT2.out] at hcl
            rw [HNL.out] at hQl
            have hef : ef = 0 := HEF.out.symm
            subst hef
            have O5' := Lib.hid O5.out
            simp only [Option.getD_some] at O5'
            have HA2 := Lib.hid (all_code _ cs wr (HT.out.next KW.out) (OwnB.bts O5'.out) hcb (by omega))
            unfold AllPost at HA2
            rw [ch_allO hch, if_pos rfl] at HA2
            have BI2 := Lib.hid (bytes_same (L := L) (K := Q) (hQl.trans HNL.out.symm) (fun i p o hp ho => ⟨(hQi i p o hp ho).1, (hQi i p o hp ho).2.1, (hQi i p o hp ho).2.2.1⟩) BI.out)
            have HQi := Lib.hid hQi
            have HQl := Lib.hid hQl
            obtain ⟨a5, c5, rfl⟩ : ∃ x c, v5 = .slice x cs.length c := own_form O5'.out
            obtain ⟨nc, hnc⟩ : ∃ n, cs.length = n := ⟨_, rfl⟩
            have HNC := Lib.hid hnc
            have hcn : ¬ (ln : Int) < nc := by omega
            have f5 : decide (ln < nc) = false := by simpa using (by omega : ¬ ln < nc)
            have f6 : decide ((ln : Int) < nc) = false := by simpa using hcn
            rw [hnc] at HA2
            simp only [Option.getD_some, hnc]
            clear hch hQi hcb hcl hQl BI O5 hnc HT1 HT2 HF2
            go_upto_region 13 with (go_at_call 14; refine HA2.out.mono ?_; rintro e w3 ⟨v9, rfl, o9, hb3⟩)
            have K3 := Lib.hid hb3
            have OQ := Lib.hid (OwnL.ops o9)
            obtain ⟨x9, c9, rfl⟩ : ∃ x c, v9 = .slice x Q.length c := own_form o9
            have HB3 := Lib.hid (fun (w' : World) (h : Below w3.heap.size w3 w') => bytes_code _ Q w' (HT.out.next (KW.out.trans ((K3.out.trans (h.mono K3.out.size)).mono KW.out.size))) (OQ.out.next h) (by rw [HQl.out]; omega))
            unfold BytesPost at HB3
            rw [HQl.out] at HB3 OQ ⊢
            have HVQ : Hid (∀ (j : Nat), j < nl → ∃ b off p, x9 = some ⟨b, off, none⟩ ∧ Q[j]? = some p ∧ RowO w3 b (off + j * 4) p) := Lib.hid fun j hj => by
              obtain ⟨b, off, c, hv', _, _, hr⟩ := OQ.out.at_ (j := j) (by rw [HQl.out]; exact hj)
              injection hv' with e1 _ _
              exact ⟨b, off, Q[j]'(by rw [HQl.out]; exact hj), e1, List.getElem?_eq_getElem _, hr⟩
            have HVL : Hid (∀ (j : Nat), j < nl → ∃ b off o, xa = some ⟨b, off, none⟩ ∧ L[j]? = some o ∧ RowO w3 b (off + j * 4) o) := Lib.hid fun j hj => HV2.out w3 j K3.out hj
            have K4 := Lib.hid (KW.out.trans (K3.out.mono KW.out.size))
            have OC3 := Lib.hid (OwnB.next O5'.out K3.out)
            clear o9 hb3 HV2 OQ HA2 d3 d4
            have hmark2 := True.intro
            go_wp2_with fail
            go_loopw [11] (fun s11 wx => ∃ (i d : Nat), i ≤ nl ∧ s11 = .int .i64 i ∧ wx = w3.drewN d) (fun s11 _ => nl - (RowKit.intOf s11).toNat)
            case atStart => exact ⟨0, 0, Nat.zero_le _, rfl, rfl⟩
            case round =>
              obtain ⟨q, d, hq, rfl, rfl⟩ := hrel
              by_cases hlq : q < nl
              · obtain ⟨b, off, o, rfl, ho, x0, x1, x2, x3⟩ := HVL.out q hlq
                obtain ⟨b', off', p, rfl, hp, y0, y1, y2, y3⟩ := HVQ.out q hlq
                obtain ⟨e1, e2, e3, e4⟩ := HQi.out q p o hp ho
                rw [e1] at y0
                rw [e2] at y1
                rw [e3] at y2
                have d3 : decide ((q : Int) < nl) = true := by simpa using hlq
                have d4 : decide (q < nl) = true := by simpa using hlq
                have hi0 : (0 : Int) ≤ q := by omega
                have hil : (q : Int) < nl := by omega
                have f7 : decide (o.l < p.l) = false := by simpa using e4
                clear e1 e2 e3 ho hp
                go_wp2_with fail
                go_quiet (fail)
                go_wp2_with fail
                exact ⟨⟨q + 1, _, by omega, by go_num, rfl⟩, by simp [RowKit.intOf]; omega⟩
              · have hq' : q = nl := by omega
                have d3 : decide ((q : Int) < nl) = false := by simp [hq']
                have d4 : decide (q < nl) = false := by simp [hq']
                clear hq' hlq hq HVL HVQ HQi
                go_upto_region 21 with (go_at_call 19; refine (HB3.out _ (below_drewN _ w3 d)).mono ?_; rintro e w4 ⟨r2, v12, j2, rfl, o12, hb4⟩)
                obtain rfl := BI2.out.eq j2
                have K5 : Hid (Below w3.heap.size w3 w4) := Lib.hid (Below.trans (below_drewN w3.heap.size w3 d) hb4)
                simp only [Option.getD_some] at o12
                have O12 := Lib.hid o12
                have S := Lib.hid (same_eq _ _ cs w4 (OwnB.bts (OwnB.next OC3.out K5.out)) (OwnB.bts O12.out))
                rw [HNC.out] at S
                have K6 := Lib.hid (K4.out.trans (K5.out.mono K4.out.size))
                clear j2 o12 hb4
                go_wp2_with (first | (go_at_call 21; refine S.out.mono ?_; rintro e w5 ⟨rfl, rfl⟩) | (go_at_call 11; refine (HK.out _ (K6.out)).mono ?_; rintro e w6 ⟨rfl, hb6⟩))
                all_goals go_ret
                all_goals exact ⟨rfl, K6.out.trans (hb6.mono K6.out.size)⟩
    · have f1 : (er == 0) = false := by simpa using he
      go_wp2_with (go_at_call 11; refine (HK.out _ (K1.out)).mono ?_; rintro e w2 ⟨rfl, hb2⟩)
      all_goals go_ret
      all_goals exact ⟨rfl, K1.out.trans (hb2.mono K1.out.size)⟩
end Go.Proofs.YtmcikjihkgplaaaDoor
