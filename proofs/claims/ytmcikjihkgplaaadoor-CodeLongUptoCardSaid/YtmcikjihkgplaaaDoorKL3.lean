/- The walk of CodeLong. -/
import Derived.Test.YtmcikjihkgplaaaDoorKL1
import Derived.Test.YtmcikjihkgplaaaDoorKCh
namespace Go.Proofs.YtmcikjihkgplaaaDoor
set_option maxRecDepth 1000000
open Go.ChangeShapes Go.WideShapes Go.ChangeAt Go.RowKit

set_option maxHeartbeats 8000000 in
theorem codeLong_walk {N : Nat → Prop} (W : World) (hT : Tabs W) (v : Value) (bs : List Int) (hv : Bts N W v bs) (hb : Bytes bs) (hl : bs.length ≤ 1000000000000) :
    Calls Tryd.prog 8 #[v] W fun e W' => e = .returned (.bool true) ∧ Below W.heap.size W W' := by
  have HT := Lib.hid hT
  have HK := Lib.hid (fun w' (h : Below W.heap.size W w') => known_any w' (hT.next h))
  clear hT
  have HAt := Lib.hid (fun (w' : World) (h : Below W.heap.size W w') (p : Nat) (hp : p < bs.length) => at_code v bs p w' (HT.out.next h) (hv.next h) hb (by omega) ⟨by omega, by omega⟩)
  have HA := Lib.hid (all_code v bs W HT.out hv hb hl)
  obtain ⟨R, hch, hR1, hR2⟩ := allO_ch bs
  have HLim := Lib.hid (allO_lim hb)
  have hLL := allO_len bs
  obtain ⟨ln, hln⟩ : ∃ n, bs.length = n := ⟨_, rfl⟩
  have HL := Lib.hid hln
  unfold AllPost at HA
  unfold AtPost at HAt
  obtain ⟨va, c, rfl, _⟩ := Bts.form hv
  rw [hln] at hl hLL HAt HA ⊢
  generalize (allO bs).1 = L at *
  generalize (allO bs).2 = er at *
  have HCh : Hid (er = 0 → (∀ (i : Nat) (o : OpT), L[i]? = some o → ∃ p : Nat, (p : Int) = begAt L i ∧ p < ln ∧ atE bs p = 0 ∧ o = atO bs p) ∧ begAt L L.length = ln) := Lib.hid fun h => by
    have e := hR1 h
    subst e
    refine ⟨fun i o hi => ?_, ?_⟩
    · obtain ⟨p, h1, h2, h3, h4⟩ := ch_at hch i o hi
      exact ⟨p, by simpa using h1, by omega, h3, h4⟩
    · have := ch_end hch h
      rw [hln] at this
      simpa using this
  clear hv hb hch hR1 hR2 hln
  obtain ⟨nl, hnl⟩ : ∃ n, L.length = n := ⟨_, rfl⟩
  have HNL := Lib.hid hnl
  rw [hnl] at hLL
  clear hnl
  go_enter Tryd.func8, Tryd.ntmps8
  go_upto_region 2 with (go_at_call 14; refine HA.out.mono ?_; rintro e w1 ⟨v1, rfl, hown, hb1⟩)
  have K1 := Lib.hid hb1
  have OP := Lib.hid (OwnL.ops hown)
  obtain ⟨xa, xc, rfl⟩ : ∃ x c, v1 = .slice x L.length c := own_form hown
  have HV : Hid (∀ (w' : World) (j : Nat), Below w1.heap.size w1 w' → j < nl → ∃ b off o, xa = some ⟨b, off, none⟩ ∧ L[j]? = some o ∧ RowO w' b (off + j * 4) o) := Lib.hid fun w' j hb hj => by
    obtain ⟨b, off, c, hv', _, _, hr⟩ := (OP.out.next hb).at_ (j := j) (by rw [HNL.out]; exact hj)
    injection hv' with e1 _ _
    exact ⟨b, off, L[j]'(by rw [HNL.out]; exact hj), e1, List.getElem?_eq_getElem _, hr⟩
  rw [HNL.out]
  clear hown hb1 OP HA
  by_cases hlt : 3000 < ln
  · have d1 : decide (3000 < ln) = true := by simpa using hlt
    have d2 : decide ((3000 : Int) < ln) = true := by simpa using (by omega : (3000 : Int) < ln)
    go_wp2_with (go_at_call 11; refine (HK.out _ (K1.out)).mono ?_; rintro e w2 ⟨rfl, hb2⟩)
    all_goals go_ret
    all_goals exact ⟨rfl, K1.out.trans (hb2.mono K1.out.size)⟩
  · have d1 : decide (3000 < ln) = false := by simpa using hlt
    have d2 : decide ((3000 : Int) < ln) = false := by simpa using (by omega : ¬ (3000 : Int) < ln)
    by_cases he : er = 0
    · subst he
      obtain ⟨hc1, hc2⟩ := HCh.out rfl
      have HC1 := Lib.hid hc1
      have HC2 := Lib.hid hc2
      clear HCh hc1 hc2
      go_wp2_with fail
      go_loopw [5, 6] (fun s5 s6 wx => ∃ i : Nat, i ≤ nl ∧ s6 = .int .i64 i ∧ s5 = .int .i64 (begAt L i) ∧ Hid (Below w1.heap.size w1 wx)) (fun _ s6 _ => nl - (RowKit.intOf s6).toNat)
      case atStart => exact ⟨0, Nat.zero_le _, rfl, rfl, Lib.hid (Below.refl _ _)⟩
      case round =>
        obtain ⟨i, hi, rfl, rfl, HB⟩ := hrel
        by_cases hli : i < nl
        · obtain ⟨b, off, o, rfl, ho, _⟩ := HV.out wr i HB.out hli
          obtain ⟨p, hp1, hp2, hp3, hp4⟩ := HC1.out i o ho
          have hs := begAt_succ ho
          obtain ⟨_, _, _, _, _, _, l7, l8⟩ := HLim.out o (List.mem_of_getElem? ho)
          have HAt1 := Lib.hid (HAt.out wr (K1.out.trans (HB.out.mono K1.out.size)) p hp2)
          rw [hp3, ← hp4] at HAt1
          rw [← hp1] at hs
          have HS := Lib.hid hs
          have hRO : Hid (∀ w', Below wr.heap.size wr w' → RowO w' b (off + i * 4) o) := Lib.hid fun w' h => by
            obtain ⟨b', off', o', e1, h2, h3⟩ := HV.out w' i (HB.out.trans (h.mono HB.out.size)) hli
            injection e1 with e1
            injection e1 with e1 e2 _
            subst e1 e2
            rw [ho] at h2
            injection h2 with h2
            rw [h2]
            exact h3
          rw [← hp1]
          have d3 : decide ((i : Int) < nl) = true := by simpa using hli
          have d4 : decide (i < nl) = true := by simpa using hli
          have hi0 : (0 : Int) ≤ i := by omega
          have hil : (i : Int) < nl := by omega
          have hp0 : (p : Int) + o.l ≤ 1000000000003 := by omega
          have hp00 : (0 : Int) ≤ (p : Int) + o.l := by omega
          have hgd := fun op x y xs ys w => guard_op op x y xs ys w
          have hq := fun w => neq_op o o w
          simp only [decide_true, Bool.not_true] at hq
          have f1 : decide (o.l < 1) = false := by simpa using l7
          clear ho hp1 hp3 hp4 hs
          go_upto_region 9 with (go_at_call 12; refine HAt1.out.mono ?_; rintro e w2 ⟨rfl, hb2⟩)
          have B3 := Lib.hid (box_new w2 (.int .i64 o.k) (.int .i64 o.n) (.int .i64 o.m) (.int .i64 o.l))
          have K3 := Lib.hid (hb2.alloc hb2.size (.cells #[.int .i64 o.k, .int .i64 o.n, .int .i64 o.m, .int .i64 o.l] 25))
          generalize w2.alloc (.cells #[.int .i64 o.k, .int .i64 o.n, .int .i64 o.m, .int .i64 o.l] 25) = w3 at *
          generalize w2.heap.size = p7 at *
          obtain ⟨y0, y1, y2, y3⟩ := hRO.out w3 K3.out
          obtain ⟨⟨x0, x1, x2, x3⟩, _, _⟩ := B3.out
          have K4 := Lib.hid (HB.out.trans (K3.out.mono HB.out.size))
          clear hb2 HAt1 hRO HB
          go_wp2_with fail
          go_quiet (fail)
          go_wp2_with fail
          exact ⟨⟨i + 1, by omega, by go_num, by rw [HS.out], Lib.hid (K4.out.trans (below_drewN w1.heap.size w3 _))⟩, by simp [RowKit.intOf]; omega⟩
        · have hi' : i = nl := by omega
          have hbe : begAt L i = ln := by rw [hi', ← HNL.out]; exact HC2.out
          have d3 : decide ((i : Int) < nl) = false := by simp [hi']
          have d4 : decide (i < nl) = false := by simp [hi']
          rw [hbe]
          have f1 : ((ln : Int) == (ln : Int)) = true := by simp
          clear hi' hli hi hbe HV
          go_wp2_with (go_at_call 11; refine (HK.out _ (K1.out.trans (HB.out.mono K1.out.size))).mono ?_; rintro e w2 ⟨rfl, hb2⟩)
          all_goals go_ret
          all_goals exact ⟨rfl, K1.out.trans ((HB.out.trans (hb2.mono HB.out.size)).mono K1.out.size)⟩
    · have f1 : (er == 0) = false := by simpa using he
      go_wp2_with (go_at_call 11; refine (HK.out _ (K1.out)).mono ?_; rintro e w2 ⟨rfl, hb2⟩)
      all_goals go_ret
      all_goals exact ⟨rfl, K1.out.trans (hb2.mono K1.out.size)⟩
end Go.Proofs.YtmcikjihkgplaaaDoor
