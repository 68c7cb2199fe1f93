/- The walk of the document's Jumps. -/
import Derived.Test.YtmcikjihkgplaaaDoorKJm
namespace Go.Proofs.YtmcikjihkgplaaaDoor
set_option maxRecDepth 1000000
open Go.ChangeShapes Go.WideShapes Go.ChangeAt Go.RowKit

set_option maxHeartbeats 8000000 in
theorem jumps_ref {N : Nat → Prop} (v : Value) (bs : List Int) (w : World) (hv : Bts N w v bs) (hb : Bytes bs) (hl : bs.length ≤ 1000000000000) :
    Calls Tryd.prog 18 #[v] w fun e w' => ∃ b, JumpsIs bs b ∧ e = .returned (.bool b) ∧ Below w.heap.size w w' := by
  have HA := Lib.hid (all_ref v bs w hv hb hl)
  have HLim := Lib.hid (allO_lim hb)
  have hL := allO_len bs
  obtain ⟨ln, hln⟩ : ∃ n, bs.length = n := ⟨_, rfl⟩
  have HJ : Hid (∀ b : Bool, (b = true ↔ ((allO bs).2 = 0 ∧ JumpsOK (allO bs).1 ln)) → JumpsIs bs b) := Lib.hid fun b h => by unfold JumpsIs; rw [hln]; exact h
  obtain ⟨va, c, rfl, _⟩ := Bts.form hv
  unfold AllPost at HA
  rw [hln] at hl hL HA ⊢
  generalize (allO bs).1 = L at *
  generalize (allO bs).2 = er at *
  clear hv hb hln
  obtain ⟨nl, hnl⟩ : ∃ n, L.length = n := ⟨_, rfl⟩
  have HNL := Lib.hid hnl
  rw [hnl] at hL
  clear hnl
  go_enter Tryd.func18, Tryd.ntmps18
  go_upto_region 2 with (go_at_call 15; refine HA.out.mono ?_; rintro e w1 ⟨v1, rfl, hown, hb1⟩)
  have HB := Lib.hid hb1
  have OP := Lib.hid (OwnL.ops hown)
  obtain ⟨xa, xc, rfl⟩ : ∃ x c, v1 = .slice x L.length c := own_form hown
  have HV : Hid (∀ (j : Nat), (hj : j < nl) → ∃ b off o, xa = some ⟨b, off, none⟩ ∧ L[j]? = some o ∧ RowO w1 b (off + j * 4) o) := Lib.hid fun j hj => by
    obtain ⟨b, off, c, hv', _, _, hr⟩ := OP.out.at_ (j := j) (by rw [HNL.out]; exact hj)
    injection hv' with e1 _ _
    exact ⟨b, off, L[j]'(by rw [HNL.out]; exact hj), e1, List.getElem?_eq_getElem _, hr⟩
  rw [HNL.out]
  clear hown hb1 OP HA
  by_cases he : er = 0
  · have HJ' : Hid (∀ b : Bool, (b = true ↔ JumpsOK L ln) → JumpsIs bs b) := Lib.hid fun b h => HJ.out b (by rw [h]; exact ⟨fun x => ⟨he, x⟩, fun x => x.2⟩)
    clear HJ
    subst he
    go_wp2_with fail
    go_loopw [5, 6] (fun s5 s6 wx => ∃ (i : Nat), i ≤ nl ∧ s6 = .int .i64 i ∧ s5 = .int .i64 (begAt L i) ∧ Hid (∀ (j : Nat) (o : OpT), j < i → L[j]? = some o → Leads L ln j o) ∧ wx = w1) (fun _ s6 _ => nl - (RowKit.intOf s6).toNat)
    case atStart => exact ⟨0, Nat.zero_le _, rfl, rfl, Lib.hid fun j o h => by omega, rfl⟩
    case round =>
      obtain ⟨i, hi, rfl, rfl, HI, rfl⟩ := hrel
      by_cases hlt : i < nl
      · obtain ⟨b, off, o, rfl, ho, x0, x1, x2, x3⟩ := HV.out i hlt
        have d1 : decide ((i : Int) < nl) = true := by simpa using hlt
        have d2 : decide (i < nl) = true := by simpa using hlt
        have hi0 : (0 : Int) ≤ i := by omega
        have hil : (i : Int) < nl := by omega
        have hbeg := begAt_rng HLim.out i (by rw [HNL.out]; omega)
        have hbeg1 := begAt_rng HLim.out (i + 1) (by rw [HNL.out]; omega)
        have hlim := HLim.out o (List.mem_of_getElem? ho)
        obtain ⟨l1, l2, l3, l4, l5, l6, l7, l8⟩ := hlim
        have hs := begAt_succ ho
        have HO := Lib.hid ho
        clear ho
        rw [hs] at hbeg1
        have HS := Lib.hid hs
        clear hs
        obtain ⟨A, hA⟩ : ∃ A, begAt L i = A := ⟨_, rfl⟩
        rw [hA] at hbeg hbeg1 HS
        rw [hA]
        clear hA
        obtain ⟨g1, g2⟩ := hbeg
        obtain ⟨g3, g4⟩ := hbeg1
        have hln1 : A + o.l ≤ 3000000000003 := by omega
        clear g4 g2
        by_cases hk0 : o.k = 0
        · have f0 : (o.k == 0) = true := by simpa using hk0
          have HF : Hid (JumpsIs bs false) := Lib.hid (HJ'.out false ⟨fun h => (by cases h), fun h => ((h i o HO.out).1 hk0).elim⟩)
          clear HJ' HI
          go_wp2_with fail
          all_goals go_ret
          all_goals exact ⟨false, HF.out, rfl, HB.out⟩
        · have f0 : (o.k == 0) = false := by simpa using hk0
          by_cases hk1 : o.k < 22
          · have f1 : decide (o.k < 22) = true := by simpa using hk1
            have HI' : Hid (∀ (j : Nat) (o : OpT), j < i + 1 → L[j]? = some o → Leads L ln j o) := Lib.hid fun j o' hj hjo => by
              rcases Nat.lt_or_ge j i with h | h
              · exact HI.out j o' h hjo
              · obtain rfl : j = i := by omega
                have := HO.out.symm.trans hjo
                injection this with this
                subst this
                exact ⟨hk0, fun h => by omega⟩
            clear HI HJ' hk0
            go_wp2_with fail
            exact ⟨⟨i + 1, by omega, by go_num, by rw [HS.out], HI', by trivial⟩, by simp [RowKit.intOf]; omega⟩
          · have f1 : decide (o.k < 22) = false := by simpa using hk1
            by_cases hk2 : 24 < o.k
            · have f2 : decide (24 < o.k) = true := by simpa using hk2
              have HI' : Hid (∀ (j : Nat) (o : OpT), j < i + 1 → L[j]? = some o → Leads L ln j o) := Lib.hid fun j o' hj hjo => by
                rcases Nat.lt_or_ge j i with h | h
                · exact HI.out j o' h hjo
                · obtain rfl : j = i := by omega
                  have := HO.out.symm.trans hjo
                  injection this with this
                  subst this
                  exact ⟨hk0, fun h h2 => by omega⟩
              clear HI HJ' hk0
              go_wp2_with fail
              exact ⟨⟨i + 1, by omega, by go_num, by rw [HS.out], HI', by trivial⟩, by simp [RowKit.intOf]; omega⟩
            · have f2 : decide (24 < o.k) = false := by simpa using hk2
              have HK := Lib.hid (And.intro hk0 (And.intro hk1 hk2))
              obtain ⟨T, hT⟩ : ∃ T, A + o.l + o.n = T := ⟨_, rfl⟩
              have hT1 : -1024 ≤ T := by omega
              have hT2 : T ≤ 4000000000003 := by omega
              have hwT : IntKind.i64.wrap (A + o.l + o.n) = T := by rw [IntKind.wrap_i64]; omega
              have hwA : IntKind.i64.wrap (A + o.l) = A + o.l := by rw [IntKind.wrap_i64]; omega
              have HT := Lib.hid hT
              go_upto_region 14 with fail
              clear x0 x2 f1 f2 f0 l3 l4 l5 l6 hk0 hk1 hk2 hT
              have hmark := True.intro
              go_wp2_with fail
              go_loopw [7, 8, 9] (fun s7 s8 s9 wx => ∃ (k : Nat) (fb : Bool), k ≤ nl ∧ s9 = .int .i64 k ∧ s7 = .int .i64 (begAt L k) ∧ s8 = .bool fb ∧ Hid (fb = true ↔ (T = ln ∨ ∃ j, j < k ∧ begAt L j = T)) ∧ wx = wr) (fun _ _ s9 _ => nl - (RowKit.intOf s9).toNat)
              case atStart => exact ⟨0, _, Nat.zero_le _, rfl, rfl, rfl, Lib.hid (by constructor <;> intro h; exact .inl (by simpa using h); rcases h with h | ⟨j, hj, _⟩; simpa using h; omega), rfl⟩
              case round =>
                obtain ⟨k, fb, hk, rfl, rfl, rfl, HFB, hwr⟩ := hrel
                subst hwr
                by_cases hlk : k < nl
                · obtain ⟨b2, off2, p, hbb, ho, y0, y1, y2, y3⟩ := HV.out k hlk
                  injection hbb with hbb
                  injection hbb with e1 e2 _
                  subst e1 e2
                  have d3 : decide ((k : Int) < nl) = true := by simpa using hlk
                  have d4 : decide (k < nl) = true := by simpa using hlk
                  have hk0 : (0 : Int) ≤ k := by omega
                  have hkl : (k : Int) < nl := by omega
                  have hbeg := begAt_rng HLim.out k (by rw [HNL.out]; omega)
                  have hlim := HLim.out p (List.mem_of_getElem? ho)
                  obtain ⟨_, _, _, _, _, _, m7, m8⟩ := hlim
                  have hs := begAt_succ ho
                  obtain ⟨D, hD⟩ : ∃ D, begAt L k = D := ⟨_, rfl⟩
                  rw [hD] at hbeg hs
                  rw [hD]
                  have HD := Lib.hid hD
                  have HS2 := Lib.hid hs
                  obtain ⟨g5, g6⟩ := hbeg
                  have hw5 : IntKind.i64.wrap (D + p.l) = D + p.l := by rw [IntKind.wrap_i64]; omega
                  clear ho hs hD y0 y1 y2 g5 g6 m7 m8
                  by_cases hDT : D = T
                  · have f3 : (D == T) = true := by simpa using hDT
                    have HFB' : Hid (true = true ↔ (T = ln ∨ ∃ j, j < k + 1 ∧ begAt L j = T)) := Lib.hid ⟨fun _ => .inr ⟨k, by omega, by rw [HD.out]; exact hDT⟩, fun _ => rfl⟩
                    clear HFB hDT
                    go_wp2_with fail
                    exact ⟨⟨k + 1, true, by omega, by go_num, by rw [HS2.out], rfl, HFB', by trivial⟩, by simp [RowKit.intOf]; omega⟩
                  · have f3 : (D == T) = false := by simpa using hDT
                    have HFB' : Hid (fb = true ↔ (T = ln ∨ ∃ j, j < k + 1 ∧ begAt L j = T)) := Lib.hid ⟨fun h => (HFB.out.1 h).imp id fun ⟨j, hj, e⟩ => ⟨j, by omega, e⟩, fun h => HFB.out.2 (h.imp id fun ⟨j, hj, e⟩ => ⟨j, by
                      rcases Nat.lt_or_ge j k with h' | h'
                      · exact h'
                      · obtain rfl : j = k := by omega
                        exact (hDT (HD.out.symm.trans e)).elim, e⟩)⟩
                    clear HFB hDT
                    go_wp2_with fail
                    exact ⟨⟨k + 1, fb, by omega, by go_num, by rw [HS2.out], rfl, HFB', by trivial⟩, by simp [RowKit.intOf]; omega⟩
                · have hk' : k = nl := by omega
                  have d3 : decide ((k : Int) < nl) = false := by simp [hk']
                  have d4 : decide (k < nl) = false := by simp [hk']
                  have HFin : Hid (fb = true ↔ (T = ln ∨ ∃ j, j < L.length ∧ begAt L j = T)) := Lib.hid (by rw [HNL.out, ← hk']; exact HFB.out)
                  clear HFB hlk hk hk' HV
                  cases fb with
                  | true =>
                    have HI' : Hid (∀ (j : Nat) (o : OpT), j < i + 1 → L[j]? = some o → Leads L ln j o) := Lib.hid fun j o' hj hjo => by
                      rcases Nat.lt_or_ge j i with h | h
                      · exact HI.out j o' h hjo
                      · obtain rfl : j = i := by omega
                        have := HO.out.symm.trans hjo
                        injection this with this
                        subst this
                        refine ⟨HK.out.1, fun _ _ => ?_⟩
                        rw [HS.out, HT.out]
                        exact HFin.out.1 rfl
                    clear HI HJ'
                    go_wp2_with fail
                    exact ⟨⟨i + 1, by omega, by go_num, by rw [HS.out], HI', by trivial⟩, by simp [RowKit.intOf]; omega⟩
                  | false =>
                    have HF : Hid (JumpsIs bs false) := Lib.hid (HJ'.out false ⟨fun h => (by cases h), fun h => by
                      have h2 := (h i o HO.out).2 (by have := HK.out.2.1; omega) (by have := HK.out.2.2; omega)
                      rw [HS.out, HT.out] at h2
                      exact HFin.out.2 h2⟩)
                    clear HJ' HI
                    go_wp2_with fail
                    go_ret
                    exact ⟨false, HF.out, rfl, HB.out⟩
      · have hi' : i = nl := by omega
        have d1 : decide ((i : Int) < nl) = false := by simp [hi']
        have d2 : decide (i < nl) = false := by simp [hi']
        have HF : Hid (JumpsIs bs true) := Lib.hid (HJ'.out true ⟨fun _ j o hj => HI.out j o (by have := (List.getElem?_eq_some_iff.1 hj).1; rw [HNL.out] at this; omega) hj, fun _ => rfl⟩)
        clear HJ' HI hi' hlt HV
        go_wp2_with fail
        go_ret
        exact ⟨true, HF.out, rfl, HB.out⟩
  · have f1 : (er == 0) = false := by simpa using he
    have HF : Hid (JumpsIs bs false) := Lib.hid (HJ.out false ⟨fun h => (by cases h), fun h => (he h.1).elim⟩)
    clear HJ he
    go_wp2_with fail
    go_ret
    exact ⟨false, HF.out, rfl, HB.out⟩
end Go.Proofs.YtmcikjihkgplaaaDoor
