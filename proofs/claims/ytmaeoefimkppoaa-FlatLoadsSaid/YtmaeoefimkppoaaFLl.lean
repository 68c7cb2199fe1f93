/- The walk of FlatLoads: objects that are loaded are there, by number, as they were. -/
import Derived.Test.YtmaeoefimkppoaaFLo
namespace Go.Proofs.Ytmaeoefimkppoaa.Fl
set_option maxRecDepth 1000000
open Go.ChangeShapes Go.WideShapes Go.ChangeAt Go.RowKit
open Go.Proofs.Ytmaeoefimkppoaa.Wd

theorem some_at {L : List Ob} {i : Nat} (hi : i < L.length) (hl : L.length ≤ 1000) : objF (L.map some) (2 * ((i : Int) + 1)) = L[i] ∧ errF (L.map some) (2 * ((i : Int) + 1)) = 0 := by
  have h1 : at_ (L.map some) ((i : Int) + 1) = some L[i] := by
    have := at_get (L := L.map some) i
    rw [show ((i + 1 : Nat) : Int) = (i : Int) + 1 by omega] at this
    rw [this, List.getElem?_map, List.getElem?_eq_getElem hi]
    rfl
  have h2 := nam_two (i := (i : Int) + 1) (by omega) (by omega)
  unfold objF errF
  rw [h2, h1]
  exact ⟨rfl, rfl⟩
theorem load_no {L : List Ob} (h : L.all okO = false) : LoadE [] L = 2 ∧ LoadF [] L = [] := by
  have hn : ¬ (([] : Mem).length = 0 ∧ L.any (fun x => !okO x) = false) := by
    rintro ⟨_, e⟩
    rw [List.all_eq_not_any_not, e] at h
    cases h
  unfold LoadE LoadF
  rw [if_neg hn, if_neg hn]
  exact ⟨rfl, rfl⟩
theorem load_yes {L : List Ob} (h : L.all okO = true) : LoadE [] L = 0 ∧ LoadF [] L = L.map some := by
  have hn : (([] : Mem).length = 0 ∧ L.any (fun x => !okO x) = false) := by
    refine ⟨rfl, ?_⟩
    rw [List.all_eq_not_any_not] at h
    simpa using h
  unfold LoadE LoadF
  rw [if_pos hn, if_pos hn]
  exact ⟨rfl, rfl⟩
theorem load_two {L : List Ob} (h : L.length ≠ 0) : LoadE (L.map some) L = 2 ∧ LoadF (L.map some) L = L.map some := by
  have hn : ¬ ((L.map some).length = 0 ∧ L.any (fun x => !okO x) = false) := by
    rintro ⟨e, _⟩
    rw [List.length_map] at e
    exact h e
  unfold LoadE LoadF
  rw [if_neg hn, if_neg hn]
  exact ⟨rfl, rfl⟩
theorem all_next {L : List Ob} {i : Nat} (hi : i < L.length) : (L.take (i + 1)).all okO = ((L.take i).all okO && okO L[i]) := by
  rw [List.take_succ_eq_append_getElem hi, List.all_append]
  simp
theorem all_short {L : List Ob} (h : L.all okO = true) (i : Nat) (hi : i < L.length) : Short L[i] := by
  have := ok_short (List.all_eq_true.1 h _ (List.getElem_mem hi))
  exact ⟨by omega, by omega⟩
set_option maxHeartbeats 4000000 in
theorem flatLoads_walk (W : World) (v : Value) (L : List Ob) (h : Objs W v L) :
    Calls Try.prog 4 #[v] W fun e W' => e = .returned (.bool true) ∧ Below W.heap.size W W' := by
  have HK := Lib.hid (fun w => known_any w)
  have HO := Lib.hid h
  obtain ⟨a, c, rfl, hmax, _⟩ := h
  have hml : L.length ≤ 9223372036854775807 := hmax
  obtain ⟨n, hn⟩ : ∃ n, L.length = n := ⟨_, rfl⟩
  have HN := Lib.hid hn
  rw [hn] at hml ⊢
  clear hmax hn
  by_cases h60 : 60 < n
  · have d1 : decide ((60 : Int) < n) = true := by simp; omega
    have d2 : decide (60 < n) = true := by simp; omega
    go_enter Try.func4, Try.ntmps4
    go_wp2_with (go_at_call 13; refine (HK.out _).mono ?_; rintro e w1 ⟨rfl, hb1⟩; have B1 := Lib.hid hb1; clear hb1)
    go_ret
    exact ⟨rfl, B1.out⟩
  · have d1 : decide ((60 : Int) < n) = false := by simp; omega
    have d2 : decide (60 < n) = false := by simp; omega
    have H0 := Lib.hid (mem_new W (· < W.heap.size) (fun _ h => h))
    have HW : Hid (Below W.heap.size W (newW W)) := Lib.hid (below_new W _)
    have hsz : W.heap.size < (newW W).heap.size := by unfold newW; simp
    have HL60 : Hid (L.length ≤ 1000) := Lib.hid (by rw [HN.out]; omega)
    have hn60 : n ≤ 60 := by omega
    clear hml h60
    go_enter Try.func4, Try.ntmps4
    go_wp2_with fail
    refine (new10_any W).mono ?_
    rintro e w0 ⟨rfl, rfl⟩
    generalize newW W = w0 at *
    clear d1 d2
    go_wp2
    go_loopw [4, 5] (fun s4 s5 wr => ∃ i : Nat, i ≤ n ∧ s4 = .bool ((L.take i).all okO) ∧ s5 = .int .i64 i ∧ Below w0.heap.size w0 wr) (fun _ s5 _ => n - (RowKit.intOf s5).toNat)
    case atStart => exact ⟨0, Nat.zero_le _, rfl, rfl, Below.refl _ _⟩
    case round =>
      obtain ⟨i, hi, rfl, rfl, hb⟩ := hrel
      have B1 := Lib.hid hb
      clear hb
      have BW : Hid (Below W.heap.size W wr) := Lib.hid (HW.out.trans (B1.out.mono (by omega)))
      by_cases hlt : i < n
      · have hiL : i < L.length := by rw [HN.out]; exact hlt
        obtain ⟨b, off, c', he, a1, c1, a2, c2, hat, hw1, hw2⟩ := HO.out.at_ hiL
        injection he with e1 e2 e3
        subst e1 e3
        obtain ⟨x0, x1, x2, x3, hob⟩ := hat wr BW.out
        have HC := Lib.hid (refcheck_any _ L[i] wr hob ⟨hw1, hw2⟩)
        unfold ChkPost chk at HC
        have HA := Lib.hid (all_next hiL)
        obtain ⟨ok, hok⟩ : ∃ b, okO L[i] = b := ⟨_, rfl⟩
        rw [hok] at HA HC
        obtain ⟨al, hal⟩ : ∃ b, (L.take i).all okO = b := ⟨_, rfl⟩
        rw [hal] at HA ⊢
        have d1 : decide ((i : Int) < n) = true := by simpa using hlt
        have d2 : decide (i < n) = true := by simpa using hlt
        have hw3 : IntKind.i64.wrap ((i : Int) + 1) = (i : Int) + 1 := by rw [IntKind.wrap_i64]; omega
        clear e2 hat hob hok hal hw1 hw2
        generalize L[i].c = oc at *
        generalize L[i].k = okk at *
        generalize L[i].w.length = n1 at *
        generalize L[i].b.length = n2 at *
        cases ok with
        | true =>
          rw [if_pos rfl] at HC
          go_wp2_with (go_at_call 26; refine HC.out.mono ?_; rintro e w2 ⟨rfl, hb2⟩; have B2 := Lib.hid (B1.out.trans (hb2.mono B1.out.size)); clear hb2)
          refine ⟨⟨i + 1, by omega, ?_, by go_num, B2.out⟩, by simp [RowKit.intOf]; omega⟩
          rw [HA.out, Bool.and_true]
        | false =>
          rw [if_neg Bool.false_ne_true] at HC
          go_wp2_with (go_at_call 26; refine HC.out.mono ?_; rintro e w2 ⟨rfl, hb2⟩; have B2 := Lib.hid (B1.out.trans (hb2.mono B1.out.size)); clear hb2)
          refine ⟨⟨i + 1, by omega, ?_, by go_num, B2.out⟩, by simp [RowKit.intOf]; omega⟩
          rw [HA.out, Bool.and_false]
      · obtain rfl : n = i := by omega
        have d1 : decide ((n : Int) < n) = false := by simp
        have d2 : decide (n < n) = false := by simp
        have hta : L.take n = L := by rw [← HN.out, List.take_length]
        rw [hta]
        clear hta
        have M1 : Hid (MemB (· < W.heap.size) wr W.heap.size []) := Lib.hid (H0.out.keep B1.out fun g hg => .inl hg)
        have HLd := loads_any M1.out (W := W) (fun g h => h) _ L HO.out BW.out HL60.out
        rw [HN.out] at HLd
        cases hr : L.all okO with
        | false =>
          rw [(load_no hr).1, (load_no hr).2] at HLd
          have HLd := Lib.hid HLd
          clear hr
          go_wp2_with fail
          refine HLd.out.mono ?_
          rintro e w2 ⟨rfl, hm, hk⟩
          have M2 := Lib.hid hm
          have K2 := Lib.hid (hk)
          clear hm hk HLd
          have HMd : Hid (Calls Try.prog 18 #[.pointer (some ⟨W.heap.size, 0, none⟩)] w2 fun e w' => e = .returned (.int .i64 (0 : Nat)) ∧ w2 = w') := Lib.hid (made_any M2.out)
          go_wp2_with (first | (go_at_call 18; refine HMd.out.mono ?_; rintro e w3 ⟨rfl, rfl⟩) | (go_at_call 13; refine (HK.out _).mono ?_; rintro e w3 ⟨rfl, hb3⟩; have B3 := Lib.hid hb3; clear hb3))
          go_ret
          have k1 := K2.out.trans (Keeps.of_below (K := (· < W.heap.size)) B3.out)
          exact ⟨rfl, BW.out.trans (k1.below (fun g hg => hg) BW.out.size)⟩
        | true =>
          rw [(load_yes hr).1, (load_yes hr).2] at HLd
          have HLd := Lib.hid HLd
          have HSh : Hid (∀ (i : Nat) (hi : i < L.length), Short L[i]) := Lib.hid fun i hi => all_short hr i hi
          clear hr
          go_wp2_with fail
          refine HLd.out.mono ?_
          rintro e w2 ⟨rfl, hm, hk⟩
          have M2 := Lib.hid hm
          have K2 := Lib.hid hk
          clear hm hk HLd
          have hml : (L.map some).length = n := by rw [List.length_map, HN.out]
          have HMd0 := made_any M2.out
          rw [hml] at HMd0
          have HMd := Lib.hid HMd0
          clear HMd0 hml
          have dn : ((n : Int) != n) = false := by simp
          have dn2 : ((n : Int) == n) = true := by simp
          go_wp2_with (first | (go_at_call 18; refine HMd.out.mono ?_; rintro e w3 ⟨rfl, rfl⟩))
          clear HMd
          go_loopw [7] (fun s wx => ∃ i : Nat, i ≤ n ∧ s = .int .i64 i ∧ Below w2.heap.size w2 wx) (fun s _ => n - (RowKit.intOf s).toNat)
          case atStart => exact ⟨0, Nat.zero_le _, rfl, Below.refl _ _⟩
          case round =>
            obtain ⟨i, hi, rfl, hb⟩ := hrel
            have B3 := Lib.hid hb
            clear hb
            have M3 : Hid (MemB (· < W.heap.size) wr W.heap.size (L.map some)) := Lib.hid (M2.out.keep B3.out fun g hg => .inl hg)
            by_cases hlt : i < n
            · have hiL : i < L.length := by rw [HN.out]; exact hlt
              obtain ⟨s1, s2⟩ := some_at hiL HL60.out
              have HOb0 := obj_form M3.out (2 * ((i : Int) + 1)) ⟨by omega, by omega⟩
              rw [s1, s2] at HOb0
              have HOb := Lib.hid HOb0
              have HS := Lib.hid (HSh.out i hiL)
              have d1 : decide ((i : Int) < n) = true := by simpa using hlt
              have d2 : decide (i < n) = true := by simpa using hlt
              have hw3 : IntKind.i64.wrap ((i : Int) + 1) = (i : Int) + 1 := by rw [IntKind.wrap_i64]; omega
              have hw4 : IntKind.i64.wrap (2 * ((i : Int) + 1)) = 2 * ((i : Int) + 1) := by rw [IntKind.wrap_i64]; omega
              clear s1 s2 HOb0
              go_wp2_with fail
              refine HOb.out.mono ?_
              rintro e w4 ⟨a3, n3, c3, a4, n4, c4, rfl, OO, hb4⟩
              have B4 := Lib.hid (B3.out.trans (hb4.mono B3.out.size))
              have X4 := Lib.hid (box_new w4 (.int .i64 L[i].c) (.int .i64 L[i].k) (.slice a3 n3 c3) (.slice a4 n4 c4))
              have B5 : Hid (Below w2.heap.size w2 (w4.alloc (.cells #[.int .i64 L[i].c, .int .i64 L[i].k, .slice a3 n3 c3, .slice a4 n4 c4] 33))) := Lib.hid (B4.out.trans ((below_new w4 _).mono B4.out.size))
              have O5 : Hid (OwnO 0 (w4.alloc (.cells #[.int .i64 L[i].c, .int .i64 L[i].k, .slice a3 n3 c3, .slice a4 n4 c4] 33)) (.agg #[.int .i64 L[i].c, .int .i64 L[i].k, .slice a3 n3 c3, .slice a4 n4 c4]) L[i]) := Lib.hid ((OO.out.fresh (below_new w4 _)).down (Nat.zero_le _))
              clear hb4 OO HOb B4
              go_upto_region 21 with fail
              generalize w4.alloc (.cells #[.int .i64 L[i].c, .int .i64 L[i].k, .slice a3 n3 c3, .slice a4 n4 c4] 33) = w5 at *
              generalize w4.heap.size = p5 at *
              have BW5 : Hid (Below W.heap.size W w5) := Lib.hid (BW.out.trans ((K2.out.trans (Keeps.of_below B5.out)).below (fun g hg => hg) BW.out.size))
              obtain ⟨b, off, c', he, a1, c1, a2, c2, hat, _⟩ := HO.out.at_ hiL
              injection he with e1 e2 e3
              subst e1 e3
              have HZ : OkZ L[i] := (objF_okZ M3.out.good (2 * ((i : Int) + 1))).elim (fun h => by rw [(some_at hiL HL60.out).1] at h; exact .inl h) (fun h => by rw [(some_at hiL HL60.out).1] at h; exact .inr h)
              have HSm : Hid (∀ w', Below w5.heap.size w5 w' → Calls Try.prog 25 #[.agg #[.int .i64 L[i].c, .int .i64 L[i].k, .slice a3 n3 c3, .slice a4 n4 c4], .agg #[.int .i64 L[i].c, .int .i64 L[i].k, .slice a1 L[i].w.length c1, .slice a2 L[i].b.length c2]] w' fun e w'' => e = .returned (.bool true) ∧ Below w'.heap.size w' w'') := Lib.hid fun w' hb => same_got ((O5.out.fresh hb).obj HZ) (hat w' (BW5.out.trans (hb.mono BW5.out.size))).2.2.2.2 HS.out
              have HCl : Hid (∀ w', Below w5.heap.size w5 w' → (w'.cell? ⟨p5, 0, none⟩ = some (.int .i64 L[i].c) ∧ w'.cell? ⟨p5, 1, none⟩ = some (.int .i64 L[i].k) ∧ w'.cell? ⟨p5, 2, none⟩ = some (.slice a3 n3 c3) ∧ w'.cell? ⟨p5, 3, none⟩ = some (.slice a4 n4 c4)) ∧ w'.cell? ⟨b, off + i * 4, none⟩ = some (.int .i64 L[i].c) ∧ w'.cell? ⟨b, off + i * 4 + 1, none⟩ = some (.int .i64 L[i].k) ∧ w'.cell? ⟨b, off + i * 4 + 2, none⟩ = some (.slice a1 L[i].w.length c1) ∧ w'.cell? ⟨b, off + i * 4 + 3, none⟩ = some (.slice a2 L[i].b.length c2)) := Lib.hid fun w' hb => ⟨(X4.out.next hb).1, (hat w' (BW5.out.trans (hb.mono BW5.out.size))).1, (hat w' (BW5.out.trans (hb.mono BW5.out.size))).2.1, (hat w' (BW5.out.trans (hb.mono BW5.out.size))).2.2.1, (hat w' (BW5.out.trans (hb.mono BW5.out.size))).2.2.2.1⟩
              clear hat HZ e2 X4 O5
              generalize L[i].c = oc at *
              generalize L[i].k = okk at *
              generalize L[i].w.length = n1 at *
              generalize L[i].b.length = n2 at *
              obtain ⟨⟨x0, x1, x2, x3⟩, y0, y1, y2, y3⟩ := HCl.out w5 (Below.refl _ _)
              have hi0 : (0 : Int) ≤ i := by omega
              have hin : (i : Int) < n := by omega
              go_cut [78] from 68 to 78 (fun s wz => s = .bool false ∧ Hid (Below w5.heap.size w5 wz))
              case first =>
                go_region_held3 (fun w' => (w'.cell? ⟨p5, 0, none⟩ = some (.int .i64 oc) ∧ w'.cell? ⟨p5, 1, none⟩ = some (.int .i64 okk) ∧ w'.cell? ⟨p5, 2, none⟩ = some (.slice a3 n3 c3) ∧ w'.cell? ⟨p5, 3, none⟩ = some (.slice a4 n4 c4)) ∧ w'.cell? ⟨b, off + i * 4, none⟩ = some (.int .i64 oc) ∧ w'.cell? ⟨b, off + i * 4 + 1, none⟩ = some (.int .i64 okk) ∧ w'.cell? ⟨b, off + i * 4 + 2, none⟩ = some (.slice a1 n1 c1) ∧ w'.cell? ⟨b, off + i * 4 + 3, none⟩ = some (.slice a2 n2 c2)) (first | (exact HCl.out _ KB6.out) | go_keep) (first | (go_at_call 25; refine (HSm.out _ (below_drewN _ _ _)).mono ?_; rintro e w6 ⟨rfl, hb6⟩; have KB6 : Hid (Below w5.heap.size w5 w6) := Lib.hid ((below_drewN _ _ _).trans hb6)))
                all_goals go_wp2
                all_goals go_meet
                all_goals exact ⟨rfl, KB6⟩
              case rest =>
              obtain ⟨rfl, KB⟩ := hcut
              have B7 : Hid (Below w2.heap.size w2 wc) := Lib.hid (B5.out.trans (KB.out.mono B5.out.size))
              clear x0 x1 x2 x3 y0 y1 y2 y3
              go_wp2
              exact ⟨⟨i + 1, by omega, by go_num, B7.out⟩, by simp [RowKit.intOf]; omega⟩
            · obtain rfl : n = i := by omega
              have d1 : decide ((n : Int) < n) = false := by simp
              have d2 : decide (n < n) = false := by simp
              have BX : Hid (Below W.heap.size W wr) := Lib.hid (BW.out.trans ((K2.out.trans (Keeps.of_below B3.out)).below (fun g hg => hg) BW.out.size))
              have hml : (L.map some).length = n := by rw [List.length_map, HN.out]
              by_cases h0 : n = 0
              · have d3 : ((n : Int) == 0) = true := by simp; omega
                have d4 : (n == 0) = true := by simp; omega
                go_wp2_with (go_at_call 13; refine (HK.out _).mono ?_; rintro e w4 ⟨rfl, hb4⟩; have B4 := Lib.hid hb4; clear hb4)
                go_ret
                exact ⟨rfl, BX.out.trans (B4.out.mono BX.out.size)⟩
              · have d3 : ((n : Int) == 0) = false := by simp; omega
                have d4 : (n == 0) = false := by simp; omega
                have HLd := loads_any M3.out (W := W) (fun g h => h) _ L HO.out BX.out HL60.out
                obtain ⟨t1, t2⟩ := load_two (L := L) (by rw [HN.out]; exact h0)
                rw [HN.out, t1, t2] at HLd
                have HLd := Lib.hid HLd
                clear t1 t2 h0
                go_wp2_with fail
                refine HLd.out.mono ?_
                rintro e w4 ⟨rfl, hm, hk⟩
                have M4 := Lib.hid hm
                have BX4 : Hid (Below W.heap.size W w4) := Lib.hid (BX.out.trans (hk.below (fun g hg => hg) BX.out.size))
                have HMd0 := made_any hm
                rw [hml] at HMd0
                have HMd := Lib.hid HMd0
                clear hm hk HLd HMd0 hml
                go_wp2_with (first | (go_at_call 18; refine HMd.out.mono ?_; rintro e w5 ⟨rfl, rfl⟩) | (go_at_call 13; refine (HK.out _).mono ?_; rintro e w5 ⟨rfl, hb5⟩; have B5 := Lib.hid hb5; clear hb5))
                go_ret
                exact ⟨rfl, BX4.out.trans (B5.out.mono BX4.out.size)⟩
end Go.Proofs.Ytmaeoefimkppoaa.Fl
