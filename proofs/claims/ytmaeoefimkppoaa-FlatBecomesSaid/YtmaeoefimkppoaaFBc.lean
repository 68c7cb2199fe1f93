/- The walk of FlatBecomes: two that became one another twice are as they were. -/
import Derived.Test.YtmaeoefimkppoaaFGt
namespace Go.Proofs.Ytmaeoefimkppoaa.Fl
set_option maxRecDepth 1000000
open Go.ChangeShapes Go.WideShapes Go.ChangeAt Go.RowKit
open Go.Proofs.Ytmaeoefimkppoaa.Wd

set_option maxHeartbeats 4000000 in
theorem flatBecomes_walk (W : World) (v : Value) (L : List Todo) (h : Dos W v L) (hl : L.length ≤ 5000000000000) (A : Int) (wA : (Lit.int .i64 A).wf = true) (B : Int) (wB : (Lit.int .i64 B).wf = true) :
    Calls Try.prog 5 #[v, .int .i64 A, .int .i64 B] W fun e W' => e = .returned (.bool true) ∧ Below W.heap.size W W' := by
  have HV := Lib.hid h
  have HLg := Lib.hid (long_any v L W h hl)
  have HK := Lib.hid (fun w => known_any w)
  have H0 := Lib.hid (mem_new W (· < W.heap.size) (fun _ h => h))
  have HW : Hid (Below W.heap.size W (newW W)) := Lib.hid (below_new W _)
  have hsz : W.heap.size < (newW W).heap.size := by unfold newW; simp
  have hA := Lib.hid (wf_i64 wA)
  have hB := Lib.hid (wf_i64 wB)
  clear wA wB
  obtain ⟨a, c, rfl, _⟩ := h
  go_enter Try.func5, Try.ntmps5
  go_wp2_with fail
  refine HLg.out.mono ?_
  rintro e w0 ⟨b, rfl, hb, rfl⟩
  cases b with
  | true =>
    go_wp2_with (go_at_call 13; refine (HK.out _).mono ?_; rintro e w1 ⟨rfl, hb1⟩; have B1 := Lib.hid hb1)
    go_ret
    exact ⟨rfl, B1.out⟩
  | false =>
  have hL := hb rfl
  clear hb HLg
  go_wp2_with fail
  refine (new10_any W).mono ?_
  rintro e w0 ⟨rfl, rfl⟩
  generalize newW W = w0 at *
  go_wp2
  go_loopw [8] (fun k wr => ∃ j : Nat, j ≤ L.length ∧ k = .int .i64 j ∧ Keeps (· < W.heap.size) w0 wr ∧ ∃ E, MemB (· < W.heap.size) wr W.heap.size E ∧ E.length ≤ j) (fun k _ => L.length - (RowKit.intOf k).toNat)
  case atStart => exact ⟨0, Nat.zero_le _, rfl, Keeps.refl _ _, [], H0.out, Nat.le_refl _⟩
  case round =>
    obtain ⟨j, hj, rfl, hk, E, hm, hE⟩ := hrel
    have M1 := Lib.hid hm
    have K1 := Lib.hid hk
    clear hm hk
    by_cases hlt : j < L.length
    · have hBW : Below W.heap.size W wr := HW.out.trans (K1.out.below (fun g hg => hg) (by omega))
      obtain ⟨b', off, c', ⟨tk, ta, tb, tc⟩, he, _, hwf, ⟨x0, x1, x2, x3⟩, _⟩ := (HV.out.fresh hBW (Nat.le_refl _)).at_ hlt
      injection he with e1 e2 e3
      subst e1 e3
      have hd : decide ((j : Int) < L.length) = true := by simpa using hlt
      have hw2 : IntKind.i64.wrap ((j : Int) + 1) = (j : Int) + 1 := by rw [IntKind.wrap_i64]; omega
      have HD := Lib.hid (done_any M1.out (by omega) ⟨tk, ta, tb, tc⟩ hwf)
      simp only at x0 x1 x2 x3
      clear e2 hwf
      go_wp2_with (go_at_call 15; refine HD.out.mono ?_; rintro e w3 ⟨z, u, rfl, _, hm, hk⟩; have M3 := Lib.hid hm; have K3 := Lib.hid hk; clear hm hk)
      exact ⟨⟨j + 1, by omega, by go_num, K1.out.trans K3.out, _, M3.out, by have := dF_len E ⟨tk, ta, tb, tc⟩; omega⟩, by simp [RowKit.intOf]; omega⟩
    · obtain rfl : j = L.length := by omega
      go_wp2_with fail
      have S1 : Hid (St W w0 (· < W.heap.size) wr W.heap.size E) := Lib.hid ⟨M1.out, fun g hg => hg, K1.out⟩
      have hE2 := Lib.hid (show E.length ≤ 150 by omega)
      clear M1 K1 hlt hj
      refine (st_obj S1.out A hA.out).mono ?_
      rintro e w1 ⟨a1, n1, c1, a2, n2, c2, rfl, GG⟩
      obtain ⟨K2, s2, f2, g2⟩ := GG.out
      have S2 := Lib.hid s2
      have GX2 := Lib.hid g2
      clear GG s2 f2 g2 S1
      go_upto_region 11 with fail
      generalize w1.alloc (.cells #[.int .i64 (objF E A).c, .int .i64 (objF E A).k, .slice a1 n1 c1, .slice a2 n2 c2] 33) = v2 at *
      generalize w1.heap.size = pGX at *
      go_wp2_with fail
      refine (st_obj S2.out B hB.out).mono ?_
      rintro e w1 ⟨a1, n1, c1, a2, n2, c2, rfl, GG⟩
      obtain ⟨K3, s2, f2, g2⟩ := GG.out
      have S3 := Lib.hid s2
      have GX3 := Lib.hid (f2 _ _ GX2.out)
      have GY3 := Lib.hid g2
      clear GG s2 f2 g2 GX2 S2
      go_upto_region 12 with fail
      generalize w1.alloc (.cells #[.int .i64 (objF E B).c, .int .i64 (objF E B).k, .slice a1 n1 c1, .slice a2 n2 c2] 33) = v3 at *
      generalize w1.heap.size = pGY at *
      go_wp2_with fail
      refine (st_bec S3.out A B hA.out hB.out).mono ?_
      rintro e v4 ⟨rfl, GG⟩
      have S4 := Lib.hid GG.out.1
      have GX4 := Lib.hid (GG.out.2 _ _ GX3.out)
      have GY4 := Lib.hid (GG.out.2 _ _ GY3.out)
      clear GG GX3 GY3 S3
      go_upto_region 13 with fail
      rcases err_two_ways E A with ⟨ea, ha⟩ | ⟨ea, ha⟩
      rotate_left
      · have hz := bec_not (.inl ha : at_ E (namV A) = none ∨ at_ E (namV B) = none)
        rw [ea, hz]
        generalize errF E B = tb at *
        clear ea ha hz
        go_wp2_with (go_at_call 13; refine (HK.out _).mono ?_; rintro e w5 ⟨rfl, b5⟩; have B5 := Lib.hid (S4.out.2.2.trans (Keeps.of_below b5)); clear b5)
        go_ret
        exact ⟨rfl, HW.out.trans (B5.out.below (fun g hg => hg) (by omega))⟩
      rcases err_two_ways E B with ⟨eb, hb⟩ | ⟨eb, hb⟩
      rotate_left
      · have hz := bec_not (.inr hb : at_ E (namV A) = none ∨ at_ E (namV B) = none)
        rw [ea, eb, hz]
        clear ea eb ha hb hz
        go_wp2_with (go_at_call 13; refine (HK.out _).mono ?_; rintro e w5 ⟨rfl, b5⟩; have B5 := Lib.hid (S4.out.2.2.trans (Keeps.of_below b5)); clear b5)
        go_ret
        exact ⟨rfl, HW.out.trans (B5.out.below (fun g hg => hg) (by omega))⟩
      obtain ⟨t1, t2, t3, t4, t5⟩ := bec_twice ha hb
      rw [ea, eb, t1]
      have HC1 := st_obj S4.out A hA.out
      rw [t2] at HC1
      have HC1 := Lib.hid HC1
      have T := Lib.hid (And.intro t3 (And.intro t4 t5))
      clear ea eb ha hb t1 t2 t3 t4 t5
      generalize errF (becF E A B) A = q1 at *
      go_wp2_with fail
      refine (HC1.out).mono ?_
      rintro e w1 ⟨a1, n1, c1, a2, n2, c2, rfl, GG⟩
      obtain ⟨K5, s2, f2, g2⟩ := GG.out
      have S5 := Lib.hid s2
      have GX5 := Lib.hid (f2 _ _ GX4.out)
      have GY5 := Lib.hid (f2 _ _ GY4.out)
      have GP5 := Lib.hid g2
      clear GG s2 f2 g2 GX4 GY4 S4
      go_upto_region 16 with fail
      generalize w1.alloc (.cells #[.int .i64 (objF E B).c, .int .i64 (objF E B).k, .slice a1 n1 c1, .slice a2 n2 c2] 33) = v5 at *
      generalize w1.heap.size = pGP at *
      clear HC1
      have HC1 := st_obj S5.out B hB.out
      rw [T.out.1] at HC1
      have HC1 := Lib.hid HC1
      generalize errF (becF E A B) B = q2 at *
      go_wp2_with fail
      refine (HC1.out).mono ?_
      rintro e w1 ⟨a1, n1, c1, a2, n2, c2, rfl, GG⟩
      obtain ⟨K6, s2, f2, g2⟩ := GG.out
      have S6 := Lib.hid s2
      have GX6 := Lib.hid (f2 _ _ GX5.out)
      have GY6 := Lib.hid (f2 _ _ GY5.out)
      have GP6 := Lib.hid (f2 _ _ GP5.out)
      have GQ6 := Lib.hid g2
      clear GG s2 f2 g2 GX5 GY5 GP5 S5
      go_upto_region 17 with fail
      generalize w1.alloc (.cells #[.int .i64 (objF E A).c, .int .i64 (objF E A).k, .slice a1 n1 c1, .slice a2 n2 c2] 33) = v6 at *
      generalize w1.heap.size = pGQ at *
      clear HC1
      have HC1 := st_bec S6.out B A hB.out hA.out
      rw [T.out.2.1, T.out.2.2] at HC1
      have HC1 := Lib.hid HC1
      clear T
      go_wp2_with fail
      refine (HC1.out).mono ?_
      rintro e v7 ⟨rfl, GG⟩
      have S7 := Lib.hid GG.out.1
      have GX7 := Lib.hid (GG.out.2 _ _ GX6.out)
      have GY7 := Lib.hid (GG.out.2 _ _ GY6.out)
      have GP7 := Lib.hid (GG.out.2 _ _ GP6.out)
      have GQ7 := Lib.hid (GG.out.2 _ _ GQ6.out)
      clear GG GX6 GY6 GP6 GQ6 S6
      go_upto_region 18 with fail
      clear HC1
      go_wp2_with fail
      refine (st_obj S7.out A hA.out).mono ?_
      rintro e w1 ⟨a1, n1, c1, a2, n2, c2, rfl, GG⟩
      obtain ⟨K8, s2, f2, g2⟩ := GG.out
      have S8 := Lib.hid s2
      have GX8 := Lib.hid (f2 _ _ GX7.out)
      have GY8 := Lib.hid (f2 _ _ GY7.out)
      have GP8 := Lib.hid (f2 _ _ GP7.out)
      have GQ8 := Lib.hid (f2 _ _ GQ7.out)
      have GR8 := Lib.hid g2
      clear GG s2 f2 g2 GX7 GY7 GP7 GQ7 S7
      go_upto_region 19 with fail
      generalize w1.alloc (.cells #[.int .i64 (objF E A).c, .int .i64 (objF E A).k, .slice a1 n1 c1, .slice a2 n2 c2] 33) = v8 at *
      generalize w1.heap.size = pGR at *
      go_wp2_with fail
      refine (st_obj S8.out B hB.out).mono ?_
      rintro e w1 ⟨a1, n1, c1, a2, n2, c2, rfl, GG⟩
      obtain ⟨K9, s2, f2, g2⟩ := GG.out
      have S9 := Lib.hid s2
      have GX9 := Lib.hid (f2 _ _ GX8.out)
      have GY9 := Lib.hid (f2 _ _ GY8.out)
      have GP9 := Lib.hid (f2 _ _ GP8.out)
      have GQ9 := Lib.hid (f2 _ _ GQ8.out)
      have GR9 := Lib.hid (f2 _ _ GR8.out)
      have GS9 := Lib.hid g2
      clear GG s2 f2 g2 GX8 GY8 GP8 GQ8 GR8 S8
      go_upto_region 20 with fail
      generalize w1.alloc (.cells #[.int .i64 (objF E B).c, .int .i64 (objF E B).k, .slice a1 n1 c1, .slice a2 n2 c2] 33) = v9 at *
      generalize w1.heap.size = pGS at *
      go_wp2_with fail
      refine (st_all S9.out).mono ?_
      rintro e v10 ⟨ra, rc, rfl, GG⟩
      obtain ⟨K10, s10, i10, k10, r10⟩ := GG.out
      have S10 := Lib.hid s10
      have R10 := Lib.hid r10
      have GX10 := Lib.hid ((GX9.out.keeps k10).mono i10)
      have GY10 := Lib.hid ((GY9.out.keeps k10).mono i10)
      have GP10 := Lib.hid ((GP9.out.keeps k10).mono i10)
      have GQ10 := Lib.hid ((GQ9.out.keeps k10).mono i10)
      have GR10 := Lib.hid ((GR9.out.keeps k10).mono i10)
      have GS10 := Lib.hid ((GS9.out.keeps k10).mono i10)
      clear GG s10 i10 k10 r10 S9 GX9 GY9 GP9 GQ9 GR9 GS9
      have hll : (twoL (ids E)).length ≤ 150 := by have := hE2.out; have := ids_le E; simp [twoL]; omega
      have HC1 := st_coll S10.out _ _ R10.out.row (by omega)
      obtain ⟨z1, z2, z3⟩ := coll_all (E := E) (by have := hE2.out; omega)
      rw [z1, z2, z3] at HC1
      have HC1 := Lib.hid HC1
      clear z1 z2 z3
      obtain ⟨xs, hxs⟩ : ∃ xs, twoL (ids E) = xs := ⟨_, rfl⟩
      have HXS := Lib.hid hxs
      rw [hxs] at R10 hll HC1 ⊢
      clear hxs
      go_wp2_with fail
      refine HC1.out.mono ?_
      rintro e v11 ⟨rfl, GG⟩
      have S11 := Lib.hid GG.out.1
      have R11 := Lib.hid (R10.out.keeps GG.out.2)
      have GX11 := Lib.hid (GX10.out.keeps GG.out.2)
      have GY11 := Lib.hid (GY10.out.keeps GG.out.2)
      have GP11 := Lib.hid (GP10.out.keeps GG.out.2)
      have GQ11 := Lib.hid (GQ10.out.keeps GG.out.2)
      have GR11 := Lib.hid (GR10.out.keeps GG.out.2)
      have GS11 := Lib.hid (GS10.out.keeps GG.out.2)
      clear GG HC1 S10 R10 GX10 GY10 GP10 GQ10 GR10 GS10
      go_upto_region 22 with fail
      obtain ⟨e1, e2, e3, e4, e5, e6, x0, x1, x2, x3, OX⟩ := GP11.out.look
      obtain ⟨f1, f2, f3, f4, f5, f6, y0, y1, y2, y3, OY⟩ := GY11.out.look
      go_wp2_with fail
      refine (same_got OX.out OY.out GY11.out.short).mono ?_
      rintro e v12 ⟨rfl, bb⟩
      have GX12 := Lib.hid (GX11.out.next bb)
      have GY12 := Lib.hid (GY11.out.next bb)
      have GQ12 := Lib.hid (GQ11.out.next bb)
      have GR12 := Lib.hid (GR11.out.next bb)
      have GS12 := Lib.hid (GS11.out.next bb)
      have S12 := Lib.hid (st_next S11.out bb)
      have R12 := Lib.hid (R11.out.keeps (Keeps.of_below bb))
      clear bb x0 x1 x2 x3 y0 y1 y2 y3 OX OY S11 R11 GX11 GY11 GP11 GQ11 GR11 GS11
      obtain ⟨e1, e2, e3, e4, e5, e6, x0, x1, x2, x3, OX⟩ := GQ12.out.look
      obtain ⟨f1, f2, f3, f4, f5, f6, y0, y1, y2, y3, OY⟩ := GX12.out.look
      go_wp2_with fail
      refine (same_got OX.out OY.out GX12.out.short).mono ?_
      rintro e v13 ⟨rfl, bb⟩
      have GX13 := Lib.hid (GX12.out.next bb)
      have GY13 := Lib.hid (GY12.out.next bb)
      have GR13 := Lib.hid (GR12.out.next bb)
      have GS13 := Lib.hid (GS12.out.next bb)
      have S13 := Lib.hid (st_next S12.out bb)
      have R13 := Lib.hid (R12.out.keeps (Keeps.of_below bb))
      clear bb x0 x1 x2 x3 y0 y1 y2 y3 OX OY S12 R12 GX12 GY12 GQ12 GR12 GS12
      obtain ⟨e1, e2, e3, e4, e5, e6, x0, x1, x2, x3, OX⟩ := GR13.out.look
      obtain ⟨f1, f2, f3, f4, f5, f6, y0, y1, y2, y3, OY⟩ := GX13.out.look
      go_wp2_with fail
      refine (same_got OX.out OY.out GX13.out.short).mono ?_
      rintro e v14 ⟨rfl, bb⟩
      have GY14 := Lib.hid (GY13.out.next bb)
      have GS14 := Lib.hid (GS13.out.next bb)
      have S14 := Lib.hid (st_next S13.out bb)
      have R14 := Lib.hid (R13.out.keeps (Keeps.of_below bb))
      clear bb x0 x1 x2 x3 y0 y1 y2 y3 OX OY S13 R13 GX13 GY13 GR13 GS13
      obtain ⟨e1, e2, e3, e4, e5, e6, x0, x1, x2, x3, OX⟩ := GS14.out.look
      obtain ⟨f1, f2, f3, f4, f5, f6, y0, y1, y2, y3, OY⟩ := GY14.out.look
      go_wp2_with fail
      refine (same_got OX.out OY.out GY14.out.short).mono ?_
      rintro e v15 ⟨rfl, bb⟩
      have S15 := Lib.hid (st_next S14.out bb)
      have R15 := Lib.hid (R14.out.keeps (Keeps.of_below bb))
      clear bb x0 x1 x2 x3 y0 y1 y2 y3 OX OY S14 R14 GY14 GS14
      go_wp2_with fail
      refine (st_all S15.out).mono ?_
      rintro e v16 ⟨rb, rd, rfl, GG⟩
      obtain ⟨K16, s16, i16, k16, r16⟩ := GG.out
      have S16 := Lib.hid s16
      have R16 := Lib.hid r16
      have Q16 := Lib.hid ((R15.out.keeps k16).mono i16)
      clear GG s16 i16 k16 r16 S15 R15
      rw [HXS.out] at R16 ⊢
      have HC1 := sameInts_any _ _ _ _ v16 R16.out.row.1 Q16.out.row.1 (by omega)
      rw [show decide (xs = xs) = true by simp] at HC1
      have HC1 := Lib.hid HC1
      go_wp2_with fail
      refine HC1.out.mono ?_
      rintro e v17 ⟨rfl, d, rfl⟩
      have K17 := Lib.hid (S16.out.2.2.trans (Keeps.of_below (below_drewN v16.heap.size v16 d)))
      clear HC1 S16 R16 Q16
      generalize v16.drewN d = v17 at *
      go_wp2_with (go_at_call 13; refine (HK.out _).mono ?_; rintro e w5 ⟨rfl, b5⟩; have B5 := Lib.hid (K17.out.trans (Keeps.of_below b5)); clear b5)
      go_ret
      exact ⟨rfl, HW.out.trans (B5.out.below (fun g hg => hg) (by omega))⟩
end Go.Proofs.Ytmaeoefimkppoaa.Fl
