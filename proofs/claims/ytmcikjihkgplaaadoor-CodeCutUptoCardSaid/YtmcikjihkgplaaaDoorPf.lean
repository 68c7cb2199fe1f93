/- The package's Jumps: what it answers. -/
import Derived.Test.YtmcikjihkgplaaaDoorPe
import Derived.Test.YtmcikjihkgplaaaDoorKCh
namespace Go.Proofs.YtmcikjihkgplaaaDoor
set_option maxRecDepth 1000000
open Go.ChangeShapes Go.WideShapes Go.ChangeAt Go.RowKit

set_option maxHeartbeats 8000000 in
theorem jumps_code {N : Nat → Prop} (v : Value) (bs : List Int) (w : World) (hT : Tabs w) (hv : Bts N w v bs) (hb : Bytes bs) (hl : bs.length ≤ 1000000000000) :
    Calls Tryd.prog 17 #[v] w fun e w' => ∃ b, JumpsIs bs b ∧ e = .returned (.bool b) ∧ Below w.heap.size w w' := by
  have HA := Lib.hid (all_code v bs w hT hv hb hl)
  have HLim := Lib.hid (allO_lim hb)
  have hL := allO_len bs
  obtain ⟨R, hch, hR1, _⟩ := allO_ch bs
  obtain ⟨ln, hln⟩ : ∃ n, bs.length = n := ⟨_, rfl⟩
  have HJ : Hid (∀ b : Bool, (b = true ↔ ((allO bs).2 = 0 ∧ JumpsOK (allO bs).1 ln)) → JumpsIs bs b) := Lib.hid fun b h => by unfold JumpsIs; rw [hln]; exact h
  have HCh : Hid ((allO bs).2 = 0 → (∀ (i : Nat) (o : OpT), (allO bs).1[i]? = some o → begAt (allO bs).1 i < ln) ∧ begAt (allO bs).1 (allO bs).1.length = ln) := Lib.hid fun h => by
    have e := hR1 h
    rw [← e]
    refine ⟨fun i o hi => ?_, ?_⟩
    · obtain ⟨p, h1, h2, h3, h4⟩ := ch_at hch i o hi
      omega
    · have := ch_end hch h
      rw [hln] at this
      simpa using this
  obtain ⟨va, c, rfl, _⟩ := Bts.form hv
  unfold AllPost at HA
  rw [hln] at hl hL HA ⊢
  generalize (allO bs).1 = L at *
  generalize (allO bs).2 = er at *
  clear hv hb hln hch hR1 hT
  obtain ⟨nl, hnl⟩ : ∃ n, L.length = n := ⟨_, rfl⟩
  have HNL := Lib.hid hnl
  rw [hnl] at hL
  clear hnl
  go_enter Tryd.func17, Tryd.ntmps17
  go_wp2_with fail
  go_step3
  go_upto_region 2 with (go_at_call 14; refine HA.out.mono ?_; rintro e w1 ⟨v1, rfl, hown, hb1⟩)
  have HB := Lib.hid hb1
  have OP := Lib.hid (OwnL.ops hown)
  obtain ⟨xa, xc, rfl⟩ : ∃ x c, v1 = .slice x L.length c := own_form hown
  clear hown hb1 HA
  by_cases he : er = 0
  · have HJ' : Hid (∀ b : Bool, (b = true ↔ JumpsOK L ln) → JumpsIs bs b) := Lib.hid fun b h => HJ.out b (by rw [h]; exact ⟨fun x => ⟨he, x⟩, fun x => x.2⟩)
    have HC1 := Lib.hid (HCh.out he).1
    have HC2 := Lib.hid (HCh.out he).2
    have HBG := Lib.hid (begin_code (.slice xa L.length xc) L ln w1 OP.out HLim.out (fun i hi => by have := HC1.out i _ (List.getElem?_eq_getElem hi); omega) hl (by have := HNL.out; omega))
    have HV : Hid (∀ (w' : World) (j : Nat), Below w1.heap.size w1 w' → j < nl → ∃ b off o, xa = some ⟨b, off, none⟩ ∧ L[j]? = some o ∧ RowO w' b (off + j * 4) o) := Lib.hid fun w' j hb hj => by
      obtain ⟨b, off, c, hv', _, _, hr⟩ := (OP.out.next hb).at_ (j := j) (by rw [HNL.out]; exact hj)
      injection hv' with e1 _ _
      exact ⟨b, off, L[j]'(by rw [HNL.out]; exact hj), e1, List.getElem?_eq_getElem _, hr⟩
    unfold BegPost at HBG
    rw [HNL.out] at HBG ⊢
    clear HJ HCh OP
    subst he
    go_upto_region 5 with (go_at_call 27; refine HBG.out.mono ?_; rintro e w2 ⟨g, rfl, hfl, hg, hb2⟩)
    have HF := Lib.hid hfl
    have HB2 := Lib.hid hb2
    clear hfl hb2 HBG hg
    go_wp2_with fail
    go_step3
    go_wp2_with fail
    go_loopw [6, 24] (fun s6 s24 wx => ∃ (i : Nat), i ≤ nl ∧ s24 = .int .i64 i ∧ s6 = .int .i64 (begAt L i) ∧ Hid (∀ (j : Nat) (o : OpT), j < i → L[j]? = some o → Leads L ln j o) ∧ Hid (Below w2.heap.size w2 wx)) (fun _ s24 _ => nl - (RowKit.intOf s24).toNat)
    case atStart => exact ⟨0, Nat.zero_le _, rfl, rfl, Lib.hid fun j o h => by omega, Lib.hid (Below.refl _ _)⟩
    case round =>
      obtain ⟨i, hi, rfl, rfl, HI, HBR⟩ := hrel
      by_cases hlt : i < nl
      · obtain ⟨b, off, o, rfl, ho, x0, x1, x2, x3⟩ := HV.out wr i (HB2.out.trans (HBR.out.mono HB2.out.size)) hlt
        have d1 : decide ((i : Int) < nl) = true := by simpa using hlt
        have d2 : decide (i < nl) = true := by simpa using hlt
        have hi0 : (0 : Int) ≤ i := by omega
        have hil : (i : Int) < nl := by omega
        have hbeg := begAt_rng HLim.out i (by rw [HNL.out]; omega)
        have hbeg1 := begAt_rng HLim.out (i + 1) (by rw [HNL.out]; omega)
        have hlim := HLim.out o (List.mem_of_getElem? ho)
        obtain ⟨l1, l2, l3, l4, l5, l6, l7, l8⟩ := hlim
        have hs := begAt_succ ho
        have HO := Lib.hid ho
        have hlt2 := HC1.out i o ho
        clear ho
        rw [hs] at hbeg1
        have HS := Lib.hid hs
        clear hs
        obtain ⟨A, hA⟩ : ∃ A, begAt L i = A := ⟨_, rfl⟩
        rw [hA] at hbeg hbeg1 hlt2 ⊢
        have HA := Lib.hid hA
        obtain ⟨a1, a2⟩ := hbeg
        obtain ⟨a3, a4⟩ := hbeg1
        clear hA
        have fend : (A == (ln : Int)) = false := by rw [beq_eq_false_iff_ne]; omega
        have hwA : IntKind.i64.wrap (A + o.l) = A + o.l := by rw [IntKind.wrap_i64]; omega
        have B8 := Lib.hid (box_new wr (.int .i64 o.k) (.int .i64 o.n) (.int .i64 o.m) (.int .i64 o.l))
        have K8 := Lib.hid (HBR.out.alloc HBR.out.size (.cells #[.int .i64 o.k, .int .i64 o.n, .int .i64 o.m, .int .i64 o.l] 25))
        go_upto_region 9 with fail
        generalize wr.alloc (.cells #[.int .i64 o.k, .int .i64 o.n, .int .i64 o.m, .int .i64 o.l] 25) = w3 at *
        obtain ⟨⟨z0, z1, z2, z3⟩, _, _⟩ := B8.out
        clear x0 x1 x2 x3
        have HW : Hid (∀ P : Prop, (o.k = 0 ∨ (22 ≤ o.k ∧ o.k ≤ 24 ∧ ¬ (A + o.l + o.n = ln ∨ ∃ j, j < L.length ∧ begAt L j = A + o.l + o.n))) → JumpsIs bs false) := Lib.hid fun _ h => HJ'.out false ⟨fun h => (by cases h), fun hh => by
          have h2 := hh i o HO.out
          rcases h with h | h
          · exact (h2.1 h).elim
          · have h3 := h2.2 h.1 h.2.1
            rw [HS.out, HA.out] at h3
            exact (h.2.2 h3).elim⟩
        have HN : Hid ((o.k ≠ 0 ∧ (22 ≤ o.k → o.k ≤ 24 → (A + o.l + o.n = ln ∨ ∃ j, j < L.length ∧ begAt L j = A + o.l + o.n))) → ∀ (j : Nat) (o : OpT), j < i + 1 → L[j]? = some o → Leads L ln j o) := Lib.hid fun h j o' hj hjo => by
          rcases Nat.lt_or_ge j i with h' | h'
          · exact HI.out j o' h' hjo
          · obtain rfl : j = i := by omega
            have := HO.out.symm.trans hjo
            injection this with this
            subst this
            unfold Leads
            rw [HS.out, HA.out]
            exact h
        clear HJ' HI
        by_cases hk0 : o.k = 0
        · have f0 : (o.k == 0) = true := by simpa using hk0
          have HFin := Lib.hid (HW.out True (.inl hk0))
          clear HW HN hk0
          go_wp2_with fail
          (try rw [Exit.noGoto_ret])
          go_ret
          exact ⟨false, HFin.out, rfl, HB.out.trans ((HB2.out.trans (K8.out.mono HB2.out.size)).mono HB.out.size)⟩
        · have f0 : (o.k == 0) = false := by simpa using hk0
          by_cases hj : 22 ≤ o.k ∧ o.k ≤ 24
          · obtain ⟨T, hT⟩ : ∃ T, A + o.l + o.n = T := ⟨_, rfl⟩
            have hT1 : -1024 ≤ T := by omega
            have hT2 : T ≤ 4000000000003 := by omega
            have hwT : IntKind.i64.wrap (A + o.l + o.n) = T := by rw [IntKind.wrap_i64]; omega
            rw [hT] at HW HN
            have hkk : o.k = 22 ∨ o.k = 23 ∨ o.k = 24 := by omega
            clear hT
            have HP : Hid (∀ j, j < L.length → 0 ≤ begAt L j ∧ begAt L j ≤ ln) := Lib.hid fun j hj => ⟨(begAt_rng HLim.out j (by omega)).1, by have := HC1.out j _ (List.getElem?_eq_getElem hj); omega⟩
            have HH : Hid (22 ≤ o.k ∧ o.k ≤ 24 ∧ o.k ≠ 0) := Lib.hid ⟨hj.1, hj.2, hk0⟩
            clear hj hk0 l3 l4
            rcases hkk with hkk | hkk | hkk
            · have f1 : (o.k == 22) = true := by simp [hkk]
              clear hkk
              go_upto_region 16 with fail
              by_cases t1 : T < 0
              · have g1 : decide (T < 0) = true := by simpa using t1
                have HFin := Lib.hid (HW.out True (.inr ⟨HH.out.1, HH.out.2.1, fun h => by
                  rcases h with h | ⟨j, hj, h⟩
                  · omega
                  · have := HP.out j hj; omega⟩))
                clear HW HN
                go_wp2_with fail
                (try rw [Exit.noGoto_ret])
                go_ret
                exact ⟨false, HFin.out, rfl, HB.out.trans ((HB2.out.trans (K8.out.mono HB2.out.size)).mono HB.out.size)⟩
              · have g1 : decide (T < 0) = false := by simpa using t1
                by_cases t2 : (ln : Int) < T
                · have g2 : decide ((ln : Int) < T) = true := by simpa using t2
                  have HFin := Lib.hid (HW.out True (.inr ⟨HH.out.1, HH.out.2.1, fun h => by
                    rcases h with h | ⟨j, hj, h⟩
                    · omega
                    · have := HP.out j hj; omega⟩))
                  clear HW HN
                  go_wp2_with fail
                  (try rw [Exit.noGoto_ret])
                  go_ret
                  exact ⟨false, HFin.out, rfl, HB.out.trans ((HB2.out.trans (K8.out.mono HB2.out.size)).mono HB.out.size)⟩
                · have g2 : decide ((ln : Int) < T) = false := by simpa using t2
                  obtain ⟨t, rfl⟩ := Int.eq_ofNat_of_zero_le (show 0 ≤ T by omega)
                  have ht : t ≤ ln := by omega
                  have ht2 : t < ln + 1 := by omega
                  have ht3 : (t : Int) < (ln : Int) + 1 := by omega
                  have g3 : decide (ln < t) = false := by simp; omega
                  have y : w3.cell? ⟨g, t, none⟩ = some (.bool (decide ((ln : Int) = (t : Int)) || begB L nl t)) := (HF.out.next K8.out).1 t ht
                  have hfl : (decide ((ln : Int) = (t : Int)) || begB L nl t) = true ↔ ((t : Int) = ln ∨ ∃ j, j < L.length ∧ begAt L j = (t : Int)) := by
                    rw [Bool.or_eq_true, begB_iff, decide_eq_true_eq, HNL.out]
                    exact ⟨fun h => h.imp Eq.symm id, fun h => h.imp Eq.symm id⟩
                  generalize (decide ((ln : Int) = (t : Int)) || begB L nl t) = fb at y hfl
                  cases fb with
                  | true =>
                    have HI' := Lib.hid (HN.out ⟨HH.out.2.2, fun _ _ => hfl.1 rfl⟩)
                    clear HW HN hfl t1 t2 g1 g2
                    go_wp2_with fail
                    exact ⟨⟨i + 1, by omega, by go_num, by rw [HS.out, HA.out], HI', K8⟩, by simp [RowKit.intOf]; omega⟩
                  | false =>
                    have HFin := Lib.hid (HW.out True (.inr ⟨HH.out.1, HH.out.2.1, fun h => by cases hfl.2 h⟩))
                    clear HW HN hfl t1 t2 g1 g2
                    go_wp2_with fail
                    (try rw [Exit.noGoto_ret])
                    go_ret
                    exact ⟨false, HFin.out, rfl, HB.out.trans ((HB2.out.trans (K8.out.mono HB2.out.size)).mono HB.out.size)⟩
            · have f1 : (o.k == 22) = false := by simp [hkk]
              have f2 : (o.k == 23) = true := by simp [hkk]
              clear hkk
              go_upto_region 16 with fail
              by_cases t1 : T < 0
              · have g1 : decide (T < 0) = true := by simpa using t1
                have HFin := Lib.hid (HW.out True (.inr ⟨HH.out.1, HH.out.2.1, fun h => by
                  rcases h with h | ⟨j, hj, h⟩
                  · omega
                  · have := HP.out j hj; omega⟩))
                clear HW HN
                go_wp2_with fail
                (try rw [Exit.noGoto_ret])
                go_ret
                exact ⟨false, HFin.out, rfl, HB.out.trans ((HB2.out.trans (K8.out.mono HB2.out.size)).mono HB.out.size)⟩
              · have g1 : decide (T < 0) = false := by simpa using t1
                by_cases t2 : (ln : Int) < T
                · have g2 : decide ((ln : Int) < T) = true := by simpa using t2
                  have HFin := Lib.hid (HW.out True (.inr ⟨HH.out.1, HH.out.2.1, fun h => by
                    rcases h with h | ⟨j, hj, h⟩
                    · omega
                    · have := HP.out j hj; omega⟩))
                  clear HW HN
                  go_wp2_with fail
                  (try rw [Exit.noGoto_ret])
                  go_ret
                  exact ⟨false, HFin.out, rfl, HB.out.trans ((HB2.out.trans (K8.out.mono HB2.out.size)).mono HB.out.size)⟩
                · have g2 : decide ((ln : Int) < T) = false := by simpa using t2
                  obtain ⟨t, rfl⟩ := Int.eq_ofNat_of_zero_le (show 0 ≤ T by omega)
                  have ht : t ≤ ln := by omega
                  have ht2 : t < ln + 1 := by omega
                  have ht3 : (t : Int) < (ln : Int) + 1 := by omega
                  have g3 : decide (ln < t) = false := by simp; omega
                  have y : w3.cell? ⟨g, t, none⟩ = some (.bool (decide ((ln : Int) = (t : Int)) || begB L nl t)) := (HF.out.next K8.out).1 t ht
                  have hfl : (decide ((ln : Int) = (t : Int)) || begB L nl t) = true ↔ ((t : Int) = ln ∨ ∃ j, j < L.length ∧ begAt L j = (t : Int)) := by
                    rw [Bool.or_eq_true, begB_iff, decide_eq_true_eq, HNL.out]
                    exact ⟨fun h => h.imp Eq.symm id, fun h => h.imp Eq.symm id⟩
                  generalize (decide ((ln : Int) = (t : Int)) || begB L nl t) = fb at y hfl
                  cases fb with
                  | true =>
                    have HI' := Lib.hid (HN.out ⟨HH.out.2.2, fun _ _ => hfl.1 rfl⟩)
                    clear HW HN hfl t1 t2 g1 g2
                    go_wp2_with fail
                    exact ⟨⟨i + 1, by omega, by go_num, by rw [HS.out, HA.out], HI', K8⟩, by simp [RowKit.intOf]; omega⟩
                  | false =>
                    have HFin := Lib.hid (HW.out True (.inr ⟨HH.out.1, HH.out.2.1, fun h => by cases hfl.2 h⟩))
                    clear HW HN hfl t1 t2 g1 g2
                    go_wp2_with fail
                    (try rw [Exit.noGoto_ret])
                    go_ret
                    exact ⟨false, HFin.out, rfl, HB.out.trans ((HB2.out.trans (K8.out.mono HB2.out.size)).mono HB.out.size)⟩
            · have f1 : (o.k == 22) = false := by simp [hkk]
              have f2 : (o.k == 23) = false := by simp [hkk]
              have f3 : (o.k == 24) = true := by simp [hkk]
              clear hkk
              go_upto_region 16 with fail
              by_cases t1 : T < 0
              · have g1 : decide (T < 0) = true := by simpa using t1
                have HFin := Lib.hid (HW.out True (.inr ⟨HH.out.1, HH.out.2.1, fun h => by
                  rcases h with h | ⟨j, hj, h⟩
                  · omega
                  · have := HP.out j hj; omega⟩))
                clear HW HN
                go_wp2_with fail
                (try rw [Exit.noGoto_ret])
                go_ret
                exact ⟨false, HFin.out, rfl, HB.out.trans ((HB2.out.trans (K8.out.mono HB2.out.size)).mono HB.out.size)⟩
              · have g1 : decide (T < 0) = false := by simpa using t1
                by_cases t2 : (ln : Int) < T
                · have g2 : decide ((ln : Int) < T) = true := by simpa using t2
                  have HFin := Lib.hid (HW.out True (.inr ⟨HH.out.1, HH.out.2.1, fun h => by
                    rcases h with h | ⟨j, hj, h⟩
                    · omega
                    · have := HP.out j hj; omega⟩))
                  clear HW HN
                  go_wp2_with fail
                  (try rw [Exit.noGoto_ret])
                  go_ret
                  exact ⟨false, HFin.out, rfl, HB.out.trans ((HB2.out.trans (K8.out.mono HB2.out.size)).mono HB.out.size)⟩
                · have g2 : decide ((ln : Int) < T) = false := by simpa using t2
                  obtain ⟨t, rfl⟩ := Int.eq_ofNat_of_zero_le (show 0 ≤ T by omega)
                  have ht : t ≤ ln := by omega
                  have ht2 : t < ln + 1 := by omega
                  have ht3 : (t : Int) < (ln : Int) + 1 := by omega
                  have g3 : decide (ln < t) = false := by simp; omega
                  have y : w3.cell? ⟨g, t, none⟩ = some (.bool (decide ((ln : Int) = (t : Int)) || begB L nl t)) := (HF.out.next K8.out).1 t ht
                  have hfl : (decide ((ln : Int) = (t : Int)) || begB L nl t) = true ↔ ((t : Int) = ln ∨ ∃ j, j < L.length ∧ begAt L j = (t : Int)) := by
                    rw [Bool.or_eq_true, begB_iff, decide_eq_true_eq, HNL.out]
                    exact ⟨fun h => h.imp Eq.symm id, fun h => h.imp Eq.symm id⟩
                  generalize (decide ((ln : Int) = (t : Int)) || begB L nl t) = fb at y hfl
                  cases fb with
                  | true =>
                    have HI' := Lib.hid (HN.out ⟨HH.out.2.2, fun _ _ => hfl.1 rfl⟩)
                    clear HW HN hfl t1 t2 g1 g2
                    go_wp2_with fail
                    exact ⟨⟨i + 1, by omega, by go_num, by rw [HS.out, HA.out], HI', K8⟩, by simp [RowKit.intOf]; omega⟩
                  | false =>
                    have HFin := Lib.hid (HW.out True (.inr ⟨HH.out.1, HH.out.2.1, fun h => by cases hfl.2 h⟩))
                    clear HW HN hfl t1 t2 g1 g2
                    go_wp2_with fail
                    (try rw [Exit.noGoto_ret])
                    go_ret
                    exact ⟨false, HFin.out, rfl, HB.out.trans ((HB2.out.trans (K8.out.mono HB2.out.size)).mono HB.out.size)⟩
          · have f1 : (o.k == 22) = false := by simp; omega
            have f2 : (o.k == 23) = false := by simp; omega
            have f3 : (o.k == 24) = false := by simp; omega
            have HI' := Lib.hid (HN.out ⟨hk0, fun h h2 => absurd ⟨h, h2⟩ hj⟩)
            clear HW HN hk0 hj
            go_wp2_with fail
            exact ⟨⟨i + 1, by omega, by go_num, by rw [HS.out, HA.out], HI', K8⟩, by simp [RowKit.intOf]; omega⟩
      · have hi' : i = nl := by omega
        have hbe : begAt L i = ln := by rw [hi', ← HNL.out]; exact HC2.out
        have d1 : decide ((i : Int) < nl) = false := by simp [hi']
        have d2 : decide (i < nl) = false := by simp [hi']
        have HFin : Hid (JumpsIs bs true) := Lib.hid (HJ'.out true ⟨fun _ j o hj => HI.out j o (by have := (List.getElem?_eq_some_iff.1 hj).1; rw [HNL.out] at this; omega) hj, fun _ => rfl⟩)
        rw [hbe]
        have fend : ((ln : Int) == (ln : Int)) = true := by simp
        clear hi' hlt hi hbe HI HJ' HV
        go_wp2_with fail
        (try rw [Exit.noGoto_ret])
        go_ret
        exact ⟨true, HFin.out, rfl, HB.out.trans ((HB2.out.trans (HBR.out.mono HB2.out.size)).mono HB.out.size)⟩
  · have f1 : (er == 0) = false := by simpa using he
    have HFin : Hid (JumpsIs bs false) := Lib.hid (HJ.out false ⟨fun h => (by cases h), fun h => (he h.1).elim⟩)
    clear HJ he OP HCh
    go_wp2_with fail
    (try rw [Exit.noGoto_ret])
    go_ret
    exact ⟨false, HFin.out, rfl, HB.out⟩
end Go.Proofs.YtmcikjihkgplaaaDoor
