/- The walk of the law SecondSteps. -/
import Derived.Test.YtccpmaahnfgkeaaGreatDoorGG3
namespace Go.Proofs.YtccpmaahnfgkeaaGreatDoor
set_option maxRecDepth 1000000
open Go.ChangeShapes Go.WideShapes Go.ChangeAt Go.RowKit
open Wd (Ob okO encO refsO ObjAt In64 I64)

set_option maxHeartbeats 80000000 in
theorem steps_walk (W : World) (hT : Tab W) (h0 : 0 < W.heap.size) (n : Int) (v : Value) (ds : List Dd) (hv : Dos W v ds) (vr : Value) (rs : List Int) (hr : Ints (· < W.heap.size) W vr rs ∧ (∀ y ∈ rs, W64 y) ∧ rs.length ≤ 20000000000000) :
    Calls Tryz.prog 3 #[.int .i64 n, v, vr] W fun e w' => e = .returned (.bool true) ∧ Below W.heap.size W w' := by
  have HV := Lib.hid hv
  have HR := Lib.hid hr
  have KN : Hid (∀ w', Below W.heap.size W w' → Calls Tryz.prog 5 #[] w' fun e w'' => e = .returned (.bool true) ∧ Below W.heap.size W w'') := fun w' h =>
    (known_true w' (hT.below h h0) (by have := h.size; omega)).mono fun e w'' ⟨he, hb⟩ => ⟨he, h.trans (hb.mono h.size)⟩
  have HNY := Lib.hid (fun (k : Nat) (hk : k ≤ 20000) w' (h : Below W.heap.size W w') => snew_yes k w' hk (hT.below h h0) (by have := h.size; omega))
  have HNN := Lib.hid (fun (hn : n < 0 ∨ 20000 < n) w' => snew_no n w' hn)
  have HLG := Lib.hid (long_any v ds W hv)
  have HDL : Hid (ds.length ≤ 2000000000000) := by
    obtain ⟨_, _, _, h, _⟩ := hv
    exact h
  obtain ⟨a, cp, rfl, _, _⟩ := hv
  obtain ⟨ar, cr, rfl⟩ := ints_form hr.1
  obtain ⟨q, hq⟩ : ∃ q, rs.length = q := ⟨_, rfl⟩
  have HQ := Lib.hid hq
  rw [hq]
  have HW0 := Lib.hid h0
  clear hT h0 hr hq
  by_cases hA : (300 : Int) < n
  · have d1 : decide ((300 : Int) < n) = true := decide_eq_true hA
    by_cases hB : n ≤ 20000
    · have d2 : decide (n ≤ (20000 : Int)) = true := decide_eq_true hB
      clear hA hB
      go_enter Tryz.func3, Tryz.ntmps3
      go_wp2_with fail
      refine (KN.out _ (Below.refl _ _)).mono ?_
      rintro e w9 ⟨rfl, b9⟩
      go_wp2
      go_ret
      exact ⟨rfl, b9⟩
    · have d2 : decide (n ≤ (20000 : Int)) = false := decide_eq_false hB
      have hbad : n < 0 ∨ 20000 < n := .inr (by omega)
      have d3 : decide (n < 0) = false := decide_eq_false (by omega)
      have d4 : decide (20000 < n) = true := decide_eq_true (by omega)
      clear hA hB
      go_enter Tryz.func3, Tryz.ntmps3
      go_wp2_with fail
      refine HLG.out.mono ?_
      rintro e w1 ⟨lg, rfl, d, hw1⟩
      have B1 : Hid (Below W.heap.size W w1) := by rw [hw1]; exact below_drewN _ _ _
      clear hw1
      cases lg with
      | true =>
        go_wp2_with fail
        refine (KN.out _ B1.out).mono ?_
        rintro e w9 ⟨rfl, b9⟩
        go_wp2
        go_ret
        exact ⟨rfl, b9⟩
      | false =>
      by_cases hro : 20 < q
      · have hr1 : decide (20 < q) = true := decide_eq_true hro
        have hr2 : decide ((20 : Int) < (q : Int)) = true := decide_eq_true (by omega)
        go_wp2_with fail
        refine (KN.out _ B1.out).mono ?_
        rintro e w9 ⟨rfl, b9⟩
        go_wp2
        go_ret
        exact ⟨rfl, b9⟩
      · have hr1 : decide (20 < q) = false := decide_eq_false hro
        have hr2 : decide ((20 : Int) < (q : Int)) = false := decide_eq_false (by omega)
        have HQ20 : Hid (q ≤ 20) := Lib.hid (by omega)
        go_wp2_with fail
        refine (HNN.out hbad _).mono ?_
        rintro e w2 ⟨rfl, rfl⟩
        go_wp2_with fail
        refine (KN.out _ B1.out).mono ?_
        rintro e w9 ⟨rfl, b9⟩
        go_wp2
        go_ret
        exact ⟨rfl, b9⟩
  · have d1 : decide ((300 : Int) < n) = false := decide_eq_false hA
    by_cases hB : n < 0
    · have hbad : n < 0 ∨ 20000 < n := .inl hB
      have d3 : decide (n < 0) = true := decide_eq_true hB
      clear hA
      go_enter Tryz.func3, Tryz.ntmps3
      go_wp2_with fail
      refine HLG.out.mono ?_
      rintro e w1 ⟨lg, rfl, d, hw1⟩
      have B1 : Hid (Below W.heap.size W w1) := by rw [hw1]; exact below_drewN _ _ _
      clear hw1
      cases lg with
      | true =>
        go_wp2_with fail
        refine (KN.out _ B1.out).mono ?_
        rintro e w9 ⟨rfl, b9⟩
        go_wp2
        go_ret
        exact ⟨rfl, b9⟩
      | false =>
      by_cases hro : 20 < q
      · have hr1 : decide (20 < q) = true := decide_eq_true hro
        have hr2 : decide ((20 : Int) < (q : Int)) = true := decide_eq_true (by omega)
        go_wp2_with fail
        refine (KN.out _ B1.out).mono ?_
        rintro e w9 ⟨rfl, b9⟩
        go_wp2
        go_ret
        exact ⟨rfl, b9⟩
      · have hr1 : decide (20 < q) = false := decide_eq_false hro
        have hr2 : decide ((20 : Int) < (q : Int)) = false := decide_eq_false (by omega)
        have HQ20 : Hid (q ≤ 20) := Lib.hid (by omega)
        go_wp2_with fail
        refine (HNN.out hbad _).mono ?_
        rintro e w2 ⟨rfl, rfl⟩
        go_wp2_with fail
        refine (KN.out _ B1.out).mono ?_
        rintro e w9 ⟨rfl, b9⟩
        go_wp2
        go_ret
        exact ⟨rfl, b9⟩
    · have d3 : decide (n < 0) = false := decide_eq_false hB
      have d4 : decide (20000 < n) = false := decide_eq_false (by omega)
      obtain ⟨n, rfl⟩ : ∃ k : Nat, n = k := ⟨n.toNat, by omega⟩
      have HN3 : Hid (n ≤ 300) := Lib.hid (by omega)
      clear hA hB HNN
      go_enter Tryz.func3, Tryz.ntmps3
      go_wp2_with fail
      refine HLG.out.mono ?_
      rintro e w1 ⟨lg, rfl, d, hw1⟩
      have B1 : Hid (Below W.heap.size W w1) := by rw [hw1]; exact below_drewN _ _ _
      clear hw1
      cases lg with
      | true =>
        go_wp2_with fail
        refine (KN.out _ B1.out).mono ?_
        rintro e w9 ⟨rfl, b9⟩
        go_wp2
        go_ret
        exact ⟨rfl, b9⟩
      | false =>
      by_cases hro : 20 < q
      · have hr1 : decide (20 < q) = true := decide_eq_true hro
        have hr2 : decide ((20 : Int) < (q : Int)) = true := decide_eq_true (by omega)
        go_wp2_with fail
        refine (KN.out _ B1.out).mono ?_
        rintro e w9 ⟨rfl, b9⟩
        go_wp2
        go_ret
        exact ⟨rfl, b9⟩
      · have hr1 : decide (20 < q) = false := decide_eq_false hro
        have hr2 : decide ((20 : Int) < (q : Int)) = false := decide_eq_false (by omega)
        have HQ20 : Hid (q ≤ 20) := Lib.hid (by omega)
        go_wp2_with fail
        refine (HNY.out n (by have := HN3.out; omega) _ B1.out).mono ?_
        rintro e w2 ⟨c, rfl, s2, hlo, b2⟩
        have B2 : Hid (Below W.heap.size W w2) := Lib.hid (B1.out.trans (b2.mono B1.out.size))
        have I2 := Lib.hid (StAt.start (W := W) s2 (Nat.le_trans B1.out.size hlo) B2.out)
        obtain ⟨p9, hp9⟩ : ∃ p, w2.heap.size = p := ⟨_, rfl⟩
        rw [hp9] at I2
        clear s2 hlo b2 HNY
        have hdl : (ds.length : Int) ≤ 2000000000000 := by have := HDL.out; omega
        go_wp2_with fail
        (try rw [hp9])
        clear hp9
        generalize w2.alloc (.cells #[.slice none 0 0, .int .i64 n, .int .i64 0] 32) = w3 at I2 ⊢
        go_loopg [10] ds.length (fun g s10 wr => ∃ k : Nat, s10 = .int .i64 k ∧ k ≤ ds.length ∧ ds.length - k ≤ g ∧ ∃ m L vL, Hid (StAt W c p9 n k m L vL wr))
        case atStart => exact ⟨0, rfl, Nat.zero_le _, by omega, 0, [], _, I2⟩
        case round =>
          clear I2 B1 B2
          obtain ⟨k, rfl, hk, hgk, m, L, vL, HST⟩ := hrel
          obtain ⟨aL, cL, rfl⟩ := HST.out.sp.form
          have HLL : Hid (L.length ≤ 20000) := Lib.hid HST.out.len
          obtain ⟨yL, hyL⟩ : ∃ y, L.length = y := ⟨_, rfl⟩
          have HYL := Lib.hid hyL
          rw [hyL] at HST
          clear hyL
          by_cases hlt : k < ds.length
          · obtain ⟨g1, rfl⟩ : ∃ g, gk = g + 1 := ⟨gk - 1, by omega⟩
            obtain ⟨b, off, c', he, wk, wi, a1, f1, a2, f2, hat, hm1, hm2⟩ := HV.out.at_ hlt
            injection he with g1' g2' g3'
            subst g1' g3'
            clear g2'
            have HAT := Lib.hid hat
            have HWI := Lib.hid wi
            have HFAR : Hid (Wd.Far ds[k].o) := Lib.hid (far_of ⟨hm1, hm2⟩)
            have HKD : Hid (k < ds.length) := Lib.hid hlt
            clear hat wk wi hm1 hm2
            generalize ds[k] = qd at *
            obtain ⟨qk, qi, qo⟩ := qd
            dsimp only at HAT HWI HFAR
            obtain ⟨e0, _⟩ := HAT.out wr HST.out.below
            obtain ⟨x0, x1, x2, _, _⟩ := HST.out.box
            have HMD := Lib.hid HST.out.mid
            obtain ⟨p15, hp15⟩ : ∃ p, wr.heap.size = p := ⟨_, rfl⟩
            rw [hp15] at HMD
            clear e0
            have e0 := (HAT.out _ HMD.out.below).1
            go_upto_block 2 with fail
            generalize wr.alloc (.cells #[.slice aL yL cL, .int .i64 n, .int .i64 m] 32) = w4 at HMD e0 ⊢
            clear x0 x1 x2 e0
            have HK15 : Hid (k ≤ 100000000000000) := Lib.hid (by have := HDL.out; have := HKD.out; omega)
            have HN6 : Hid (n ≤ 1000000) := Lib.hid (by have := HN3.out; omega)
            have HL6 : Hid (L.length ≤ 1000000) := Lib.hid (by have := HLL.out; omega)
            go_cut [11, 12, 13, 14, 16, 17, 18] from 63 to 214 (fun s11 s12 s13 s14 s16 s17 s18 wx => ∃ (id t : Int) (m' : Nat) (L' : List RE) (a' : Option Addr) (y' c' : Nat), s11 = .int .i64 id ∧ s12 = .int .i64 id ∧ s13 = .int .i64 t ∧ s14 = .int .i64 t ∧ Hid (L'.length = y' ∧ MdAt W c p9 p15 n (k + 1) m (.slice aL yL cL) m' (entsOf L') m' L' (.slice a' y' c') wx))
            case first =>
              obtain ⟨e0, e1, e2, e3, e4, e5, hob⟩ := HAT.out w4 HMD.out.below
              have HOB := Lib.hid hob
              clear hob
              by_cases hk1 : qk = 1
              · subst hk1
                as_aux_lemma =>
                  obtain ⟨id, t, m', E', is, call⟩ := make_any c n k m (entsOf L) _ qo w4 HMD.out.sec HOB.out HK15.out
                  have CALL := Lib.hid call
                  have HIS := Lib.hid is
                  have HGD := Lib.hid HMD.out.sec.sp.good
                  have HGE := Lib.hid HMD.out.sec.good
                  clear call is
                  go_wp2_with fail
                  refine CALL.out.mono ?_
                  rintro e w5 ⟨rfl, s5, o5⟩
                  have MS : Hid (MdAt W c p9 p15 n (k + 1) m (.slice aL yL cL) m' E' m L (.slice aL yL cL) w5) := Lib.hid (HMD.out.did s5 o5)
                  clear s5 o5 e0 e1 e2 e3 e4 e5
                  have SKX : Hid (∀ wa : World, Only (fun b => b = p15 ∨ w5.heap.size ≤ b) w5 wa → (wa.cell? ⟨p9, 0, none⟩ = some (.slice aL yL cL) ∧ wa.cell? ⟨p9, 1, none⟩ = some (.int .i64 n) ∧ wa.cell? ⟨p9, 2, none⟩ = some (.int .i64 m) ∧ wa.cell? ⟨b, off + k * 6 + 2, none⟩ = some (.int .i64 qo.c) ∧ wa.cell? ⟨b, off + k * 6 + 2 + 1, none⟩ = some (.int .i64 qo.k) ∧ wa.cell? ⟨b, off + k * 6 + 2 + 2, none⟩ = some (.slice a1 qo.w.length f1) ∧ wa.cell? ⟨b, off + k * 6 + 2 + 3, none⟩ = some (.slice a2 qo.b.length f2))) := Lib.hid (fun wa o => by
                    have hb : Below W.heap.size W wa := (MS.out.below).trans (o.below (fun i hi e => by have := MS.out.lo; have := lo_q MS.out.sec; have := MS.out.np; have := MS.out.np2; have := MS.out.below.size; rcases e with e | e <;> omega) MS.out.below.size)
                    obtain ⟨e0, e1, e2, e3, e4, e5, _⟩ := HAT.out wa hb
                    have l1 := MS.out.box.2.2.2.2
                    have l2 := MS.out.np2
                    have key : ∀ (j : Nat) (u : Value), w5.cell? ⟨p9, j, none⟩ = some u → wa.cell? ⟨p9, j, none⟩ = some u := fun j u hu => (o.cell (p := ⟨p9, j, none⟩) l1 (fun h => h.elim (fun (h : p9 = p15) => by omega) (fun (h : w5.heap.size ≤ p9) => by omega))).trans hu
                    exact ⟨key _ _ MS.out.box.1, key _ _ MS.out.box.2.1, key _ _ MS.out.box.2.2.1, e2, e3, e4, e5⟩)
                  have S00 := SKX.out w5.drew (Only.of_below (below_drewN _ _ 1))
                  have BD : Hid (Below w5.heap.size w5 w5.drew) := Lib.hid (below_drewN _ _ 1)
                  have HCH : Hid (Calls Tryz.prog 8 #[.agg #[.slice aL yL cL, .int .i64 n, .int .i64 m], .agg #[.int .i64 qo.c, .int .i64 qo.k, .slice a1 qo.w.length f1, .slice a2 qo.b.length f2]] w5.drew (ChPost3 (fun b => ¬ c.F b ∧ b ≠ p9 ∧ b ≠ p15) n m' E' id t w5.drew)) := Lib.hid (make6_gen _ n m L _ qo w5.drew (MS.out.sp.fresh BD.out) (HAT.out w5.drew (MS.out.below.trans (BD.out.mono MS.out.below.size))).2.2.2.2.2.2 HFAR.out HL6.out HN6.out HGD.out HGE.out HIS.out)
                  go_wp2_with fail
                  go_region_held3 (fun wa => wa.cell? ⟨p9, 0, none⟩ = some (.slice aL yL cL) ∧ wa.cell? ⟨p9, 1, none⟩ = some (.int .i64 n) ∧ wa.cell? ⟨p9, 2, none⟩ = some (.int .i64 m) ∧ wa.cell? ⟨b, off + k * 6 + 2, none⟩ = some (.int .i64 qo.c) ∧ wa.cell? ⟨b, off + k * 6 + 2 + 1, none⟩ = some (.int .i64 qo.k) ∧ wa.cell? ⟨b, off + k * 6 + 2 + 2, none⟩ = some (.slice a1 qo.w.length f1) ∧ wa.cell? ⟨b, off + k * 6 + 2 + 3, none⟩ = some (.slice a2 qo.b.length f2)) (first | (with_reducible exact SKX.out _ (Only.of_below (BD6.out))) | (refine SKX.out _ ?_; (repeat (with_reducible refine Only.setCell ?_ _ (.inl (.inl rfl)) _)); with_reducible exact (Only.of_below (BD6.out))) | (exact S00)) (first | (go_at_call 8; refine HCH.out.mono ?_; rintro e w6 ⟨a', y', c', rfl, mid6⟩; have MID6 := Lib.hid mid6; have BD6 : Hid (Below w5.heap.size w5 w6) := Lib.hid (by obtain ⟨_, _, _, _, hb⟩ := mid6; exact ⟨hb.os, hb.tape, hb.output, hb.size, hb.block⟩); obtain ⟨u0, u1, u2, uf, _⟩ := MS.out.box2.fresh BD6.out; have uf0 := uf 0; have uf1 := uf 1; have uf2 := uf 2; clear uf mid6))
                  obtain ⟨L2, he2, hl2, MP⟩ := (MS.out.fresh BD.out).put (m2 := m') MID6.out
                  clear u0 u1 u2 uf0 uf1 uf2
                  go_wp2_with fail
                  go_meet
                  exact ⟨id, t, m', L2, a', y', c', rfl, rfl, rfl, rfl, Lib.hid ⟨hl2, by subst he2; exact MP⟩⟩
              have h1 : (qk == 1) = false := by simpa using hk1
              clear hk1
              by_cases hk2 : qk = 2
              · subst hk2
                as_aux_lemma =>
                  have HGE := Lib.hid HMD.out.sec.good
                  obtain ⟨kk, hfr⟩ := find_ex L qi
                  have HFR := Lib.hid hfr
                  rcases hfr with ⟨rfl, hf⟩ | ⟨j, hj, rfl, hid0, _⟩
                  · have CALL := Lib.hid (fetch_no c n k m (entsOf L) qi HWI.out w4 HMD.out.sec hf)
                    unfold FetchNo zeroO at CALL
                    clear hf
                    go_wp2_with fail
                    refine CALL.out.mono ?_
                    rintro e w5 ⟨rfl, s5, o5⟩
                    have MS5 : Hid (MdAt W c p9 p15 n (k + 1) m (.slice aL yL cL) m (entsOf L) m L (.slice aL yL cL) w5) := Lib.hid ((HMD.out.did s5 o5).mono (Nat.le_succ k))
                    clear s5 o5 e0 e1 e2 e3 e4 e5
                    go_upto_region 25 with fail
                    have MS : Hid (MdAt W c p9 p15 n (k + 1) m (.slice aL yL cL) m (entsOf L) m L (.slice aL yL cL) (w5.alloc (.cells #[.int .i64 0, .int .i64 0, .slice none 0 0, .slice none 0 0] 35))) := Lib.hid (MS5.out.fresh ((Below.refl _ _).alloc (Nat.le_refl _) _))
                    generalize w5.alloc (.cells #[.int .i64 0, .int .i64 0, .slice none 0 0, .slice none 0 0] 35) = w6 at MS ⊢
                    have BW6 : Hid (Below W.heap.size W w6) := Lib.hid MS.out.below
                    have SKX : Hid (∀ wa : World, Below w6.heap.size w6 wa → (wa.cell? ⟨p9, 0, none⟩ = some (.slice aL yL cL) ∧ wa.cell? ⟨p9, 1, none⟩ = some (.int .i64 n) ∧ wa.cell? ⟨p9, 2, none⟩ = some (.int .i64 m) ∧ wa.cell? ⟨b, off + k * 6 + 1, none⟩ = some (.int .i64 qi))) := Lib.hid (fun wa o => by
                      obtain ⟨_, h1, _⟩ := HAT.out wa (BW6.out.trans (o.mono BW6.out.size))
                      have l1 := MS.out.box.2.2.2.2
                      exact ⟨(o.cell (p := ⟨p9, 0, none⟩) l1).trans MS.out.box.1, (o.cell (p := ⟨p9, 1, none⟩) l1).trans MS.out.box.2.1, (o.cell (p := ⟨p9, 2, none⟩) l1).trans MS.out.box.2.2.1, h1⟩)
                    have BD : Hid (Below w6.heap.size w6 w6.drew) := Lib.hid (below_drewN _ _ 1)
                    have S00 := SKX.out w6.drew BD.out
                    have HCH := Lib.hid (find_r _ n m m L qi (-1) w6.drew (MS.out.sp.fresh BD.out) HL6.out HGE.out HFR.out)
                    go_wp2_with fail
                    go_region_held3 (fun wa => wa.cell? ⟨p9, 0, none⟩ = some (.slice aL yL cL) ∧ wa.cell? ⟨p9, 1, none⟩ = some (.int .i64 n) ∧ wa.cell? ⟨p9, 2, none⟩ = some (.int .i64 m) ∧ wa.cell? ⟨b, off + k * 6 + 1, none⟩ = some (.int .i64 qi)) (first | (with_reducible exact SKX.out _ (BD6.out)) | (exact S00)) (first | (go_at_call 10; refine HCH.out.mono ?_; rintro e w7 ⟨rfl, hb7⟩; have BD6 : Hid (Below w6.heap.size w6 w7) := Lib.hid ⟨hb7.os, hb7.tape, hb7.output, hb7.size, hb7.block⟩; clear hb7))
                    have M7 := Lib.hid (MS.out.fresh BD6.out)
                    clear S00
                    go_wp2_with fail
                    go_quiet (fail)
                    go_wp2_with fail
                    go_meet
                    exact ⟨0, 4, m, L, aL, yL, cL, rfl, rfl, rfl, rfl, Lib.hid ⟨HYL.out, M7.out.fresh (below_drewN _ _ _)⟩⟩
                  · obtain ⟨pe, hpe, hid⟩ : ∃ pe : RE, L[j]? = some pe ∧ (pe.1.id : Int) = qi := ⟨_, List.getElem?_eq_getElem hj, hid0⟩
                    have hmem := List.mem_of_getElem? hpe
                    have hsp := HMD.out.sp
                    rw [← HYL.out] at hsp
                    obtain ⟨b0, off0, c0, hv0, _, hrow⟩ := hsp.atq hpe
                    injection hv0 with g1' g2' g3'
                    subst g1' g3'
                    obtain ⟨⟨xid, xo, xf⟩, wv, bv⟩ := pe
                    dsimp only at hid hrow
                    have call := fetch_yes c n k m (entsOf L) ⟨xid, xo, xf⟩ w4 HMD.out.sec (List.mem_map.2 ⟨_, hmem, rfl⟩) HK15.out
                    dsimp only at call
                    rw [hid] at call
                    have CALL := Lib.hid call
                    have HJ : Hid (j < yL) := Lib.hid (by rw [← HYL.out]; exact hj)
                    have hj0 : decide ((j : Int) < 0) = false := decide_eq_false (by omega)
                    have hj1 : decide ((0 : Int) ≤ (j : Int)) = true := decide_eq_true (by omega)
                    have HOKX : Hid (okO xo = true) := Lib.hid (HGE.out.ok ⟨xid, xo, xf⟩ (List.mem_map.2 ⟨_, hmem, rfl⟩))
                    have HB0 : Hid (b0 < w4.heap.size) := Lib.hid (World.block_lt_of_cell? _ _ hrow.c0)
                    have HPE := Lib.hid hpe
                    clear call hid hid0 hsp g2' hrow hj hpe hmem
                    go_wp2_with fail
                    refine CALL.out.mono ?_
                    rintro e w5 ⟨v5, rfl, oi5, s5, o5⟩
                    have OI5 := Lib.hid oi5
                    obtain ⟨p1, r1, p2, r2, rfl⟩ := oi5.form
                    have MS5 : Hid (MdAt W c p9 p15 n (k + 1) m (.slice (some ⟨b0, off0, none⟩) yL cL) m (entsOf L) m L (.slice (some ⟨b0, off0, none⟩) yL cL) w5) := Lib.hid (HMD.out.did s5 o5)
                    have BX5 := Lib.hid (Wd.box_new w5 (.int .i64 xo.c) (.int .i64 xo.k) (.slice p1 xo.w.length r1) (.slice p2 xo.b.length r2))
                    obtain ⟨xc, hxc⟩ : ∃ y, xo.c = y := ⟨_, rfl⟩
                    obtain ⟨xk, hxk⟩ : ∃ y, xo.k = y := ⟨_, rfl⟩
                    obtain ⟨l1, hl1⟩ : ∃ y, xo.w.length = y := ⟨_, rfl⟩
                    obtain ⟨l2, hl2⟩ : ∃ y, xo.b.length = y := ⟨_, rfl⟩
                    have HXC := Lib.hid hxc
                    have HXK := Lib.hid hxk
                    rw [hxc, hxk, hl1, hl2] at OI5 BX5 ⊢
                    obtain ⟨p16, hp16⟩ : ∃ p, w5.heap.size = p := ⟨_, rfl⟩
                    rw [hp16] at BX5
                    clear s5 o5 e0 e1 e2 e3 e4 e5 hxc hxk hl1 hl2 oi5
                    go_upto_region 25 with fail
                    have MS : Hid (MdAt W c p9 p15 n (k + 1) m (.slice (some ⟨b0, off0, none⟩) yL cL) m (entsOf L) m L (.slice (some ⟨b0, off0, none⟩) yL cL) (w5.alloc (.cells #[.int .i64 xc, .int .i64 xk, .slice p1 l1 r1, .slice p2 l2 r2] 35))) := Lib.hid (MS5.out.fresh ((Below.refl _ _).alloc (Nat.le_refl _) _))
                    have OI6 := Lib.hid (OI5.out.fresh (show Below w5.heap.size w5 (w5.alloc (.cells #[.int .i64 xc, .int .i64 xk, .slice p1 l1 r1, .slice p2 l2 r2] 35)) from (Below.refl _ _).alloc (Nat.le_refl _) _))
                    (try rw [hp16])
                    clear hp16
                    generalize w5.alloc (.cells #[.int .i64 xc, .int .i64 xk, .slice p1 l1 r1, .slice p2 l2 r2] 35) = w6 at MS BX5 OI6 ⊢
                    have BW6 : Hid (Below W.heap.size W w6) := Lib.hid MS.out.below
                    have SKX : Hid (∀ wa : World, Below w6.heap.size w6 wa → (wa.cell? ⟨p9, 0, none⟩ = some (.slice (some ⟨b0, off0, none⟩) yL cL) ∧ wa.cell? ⟨p9, 1, none⟩ = some (.int .i64 n) ∧ wa.cell? ⟨p9, 2, none⟩ = some (.int .i64 m) ∧ wa.cell? ⟨b, off + k * 6 + 1, none⟩ = some (.int .i64 qi))) := Lib.hid (fun wa o => by
                      obtain ⟨_, h1, _⟩ := HAT.out wa (BW6.out.trans (o.mono BW6.out.size))
                      have l1 := MS.out.box.2.2.2.2
                      exact ⟨(o.cell (p := ⟨p9, 0, none⟩) l1).trans MS.out.box.1, (o.cell (p := ⟨p9, 1, none⟩) l1).trans MS.out.box.2.1, (o.cell (p := ⟨p9, 2, none⟩) l1).trans MS.out.box.2.2.1, h1⟩)
                    have BD : Hid (Below w6.heap.size w6 w6.drew) := Lib.hid (below_drewN _ _ 1)
                    have S00 := SKX.out w6.drew BD.out
                    have HCH := Lib.hid (find_r _ n m m L qi (j : Int) w6.drew (MS.out.sp.fresh BD.out) HL6.out HGE.out HFR.out)
                    go_wp2_with fail
                    go_region_held3 (fun wa => wa.cell? ⟨p9, 0, none⟩ = some (.slice (some ⟨b0, off0, none⟩) yL cL) ∧ wa.cell? ⟨p9, 1, none⟩ = some (.int .i64 n) ∧ wa.cell? ⟨p9, 2, none⟩ = some (.int .i64 m) ∧ wa.cell? ⟨b, off + k * 6 + 1, none⟩ = some (.int .i64 qi)) (first | (with_reducible exact SKX.out _ (BD6.out)) | (exact S00)) (first | (go_at_call 10; refine HCH.out.mono ?_; rintro e w7 ⟨rfl, hb7⟩; have BD6 : Hid (Below w6.heap.size w6 w7) := Lib.hid ⟨hb7.os, hb7.tape, hb7.output, hb7.size, hb7.block⟩; clear hb7))
                    have M7 := Lib.hid (MS.out.fresh BD6.out)
                    clear S00
                    have BX7 : Hid (Wd.Box p16 (.int .i64 xc) (.int .i64 xk) (.slice p1 l1 r1) (.slice p2 l2 r2) w7) := Lib.hid (box_only (F := fun _ => False) BX5.out (Only.of_below (F := fun _ => False) BD6.out) id)
                    have SKY : Hid (∀ wa : World, Below w7.heap.size w7 wa → (wa.cell? ⟨p16, 0, none⟩ = some (.int .i64 xc) ∧ wa.cell? ⟨p16, 1, none⟩ = some (.int .i64 xk) ∧ wa.cell? ⟨p16, 2, none⟩ = some (.slice p1 l1 r1) ∧ wa.cell? ⟨p16, 3, none⟩ = some (.slice p2 l2 r2) ∧ wa.cell? ⟨p9, 0, none⟩ = some (.slice (some ⟨b0, off0, none⟩) yL cL) ∧ wa.cell? ⟨b0, off0 + j * 8 + 1, none⟩ = some (.int .i64 xc) ∧ wa.cell? ⟨b0, off0 + j * 8 + 1 + 1, none⟩ = some (.int .i64 xk) ∧ wa.cell? ⟨b0, off0 + j * 8 + 1 + 2, none⟩ = some wv ∧ wa.cell? ⟨b0, off0 + j * 8 + 1 + 3, none⟩ = some bv)) := Lib.hid (fun wa o => by
                      have hsp := (M7.out.sp.fresh o)
                      rw [← HYL.out] at hsp
                      obtain ⟨b', off', c', he, _, hrow⟩ := hsp.atq HPE.out
                      injection he with e1 _ _
                      injection e1 with e1
                      injection e1 with e1 e4 _
                      subst e1 e4
                      have l1' := M7.out.box.2.2.2.2
                      have l2' := BX7.out.2.2
                      have h1 := hrow.c1
                      have h2 := hrow.c2
                      dsimp only at h1 h2
                      rw [HXC.out] at h1
                      rw [HXK.out] at h2
                      exact ⟨(o.cell (p := ⟨p16, 0, none⟩) l2').trans BX7.out.1.1, (o.cell (p := ⟨p16, 1, none⟩) l2').trans BX7.out.1.2.1, (o.cell (p := ⟨p16, 2, none⟩) l2').trans BX7.out.1.2.2.1, (o.cell (p := ⟨p16, 3, none⟩) l2').trans BX7.out.1.2.2.2, (o.cell (p := ⟨p9, 0, none⟩) l1').trans M7.out.box.1, h1, h2, hrow.c3, hrow.c4⟩)
                    have BD7 : Hid (Below w7.heap.size w7 w7.drew) := Lib.hid (below_drewN _ _ 1)
                    have S70 := SKY.out w7.drew BD7.out
                    have HSM : Hid (Calls Tryz.prog 11 #[.agg #[.int .i64 xc, .int .i64 xk, .slice p1 l1 r1, .slice p2 l2 r2], .agg #[.int .i64 xc, .int .i64 xk, wv, bv]] w7.drew fun e w'' => e = .returned (.bool true) ∧ Below w7.drew.heap.size w7.drew w'') := Lib.hid (by
                      have hsp := (M7.out.sp.fresh BD7.out)
                      rw [← HYL.out] at hsp
                      obtain ⟨_, _, _, _, _, hrow⟩ := hsp.atq HPE.out
                      have hob := hrow.ob.at_
                      unfold objV at hob
                      dsimp only at hob
                      rw [HXC.out, HXK.out] at hob
                      have := Wd.same_ref _ _ xo xo w7.drew ((OI6.out.fresh BD6.out).fresh BD7.out).at_ hob (short_of HOKX.out) (short_of HOKX.out)
                      unfold Wd.SamePost at this
                      rw [Wd.sameO_self] at this
                      exact this)
                    have hjy := HJ.out
                    go_wp2_with fail
                    go_region_held3 (fun wa => wa.cell? ⟨p16, 0, none⟩ = some (.int .i64 xc) ∧ wa.cell? ⟨p16, 1, none⟩ = some (.int .i64 xk) ∧ wa.cell? ⟨p16, 2, none⟩ = some (.slice p1 l1 r1) ∧ wa.cell? ⟨p16, 3, none⟩ = some (.slice p2 l2 r2) ∧ wa.cell? ⟨p9, 0, none⟩ = some (.slice (some ⟨b0, off0, none⟩) yL cL) ∧ wa.cell? ⟨b0, off0 + j * 8 + 1, none⟩ = some (.int .i64 xc) ∧ wa.cell? ⟨b0, off0 + j * 8 + 1 + 1, none⟩ = some (.int .i64 xk) ∧ wa.cell? ⟨b0, off0 + j * 8 + 1 + 2, none⟩ = some wv ∧ wa.cell? ⟨b0, off0 + j * 8 + 1 + 3, none⟩ = some bv) (first | (with_reducible exact SKY.out _ (BD8.out)) | (exact S70)) (first | (go_at_call 11; refine HSM.out.mono ?_; rintro e w8 ⟨rfl, hb8⟩; have BD8 : Hid (Below w7.heap.size w7 w8) := Lib.hid ⟨hb8.os, hb8.tape, hb8.output, hb8.size, hb8.block⟩; clear hb8))
                    go_wp2_with fail
                    go_meet
                    exact ⟨0, 0, m, L, _, yL, cL, rfl, rfl, rfl, rfl, Lib.hid ⟨HYL.out, M7.out.fresh BD8.out⟩⟩
              have h2 : (qk == 2) = false := by simpa using hk2
              clear hk2
              by_cases hk3 : qk = 3
              · subst hk3
                as_aux_lemma =>
                  have HKQ : Hid (∀ w5, Only c.F w4.drew w5 → (w5.cell? ⟨b, off + k * 6 + 1, none⟩ = some (.int .i64 qi) ∧ w5.cell? ⟨b, off + k * 6 + 2, none⟩ = some (.int .i64 qo.c) ∧ w5.cell? ⟨b, off + k * 6 + 2 + 1, none⟩ = some (.int .i64 qo.k) ∧ w5.cell? ⟨b, off + k * 6 + 2 + 2, none⟩ = some (.slice a1 qo.w.length f1) ∧ w5.cell? ⟨b, off + k * 6 + 2 + 3, none⟩ = some (.slice a2 qo.b.length f2))) := Lib.hid (fun w5 o => by
                    have BD4 : Below W.heap.size W w4.drew := HMD.out.below.trans ((below_drewN w4 w4.heap.size 1).mono HMD.out.below.size)
                    obtain ⟨_, h1, h2, h3, h4, h5, _⟩ := HAT.out w5 (BD4.trans (o.below (fun i hi hf => by have := hf.1; have := HMD.out.lo; omega) BD4.size))
                    exact ⟨h1, h2, h3, h4, h5⟩)
                  have BD4 : Hid (Below w4.heap.size w4 w4.drew) := Lib.hid (below_drewN _ _ 1)
                  obtain ⟨t, E', is, call⟩ := store_gen c n k m (entsOf L) _ qo qi HWI.out w4.drew (HMD.out.fresh BD4.out).sec (HAT.out w4.drew (HMD.out.below.trans (BD4.out.mono HMD.out.below.size))).2.2.2.2.2.2 HK15.out
                  have CALL := Lib.hid call
                  have HIS := Lib.hid is
                  have HGD := Lib.hid HMD.out.sec.sp.good
                  have HGE := Lib.hid HMD.out.sec.good
                  clear call is
                  have S40 : w4.drew.cell? ⟨b, off + k * 6 + 1, none⟩ = some (.int .i64 qi) ∧ w4.drew.cell? ⟨b, off + k * 6 + 2, none⟩ = some (.int .i64 qo.c) ∧ w4.drew.cell? ⟨b, off + k * 6 + 2 + 1, none⟩ = some (.int .i64 qo.k) ∧ w4.drew.cell? ⟨b, off + k * 6 + 2 + 2, none⟩ = some (.slice a1 qo.w.length f1) ∧ w4.drew.cell? ⟨b, off + k * 6 + 2 + 3, none⟩ = some (.slice a2 qo.b.length f2) := HKQ.out _ (Only.refl _ _)
                  go_wp2_with fail
                  go_region_held3 (fun wa => wa.cell? ⟨b, off + k * 6 + 1, none⟩ = some (.int .i64 qi) ∧ wa.cell? ⟨b, off + k * 6 + 2, none⟩ = some (.int .i64 qo.c) ∧ wa.cell? ⟨b, off + k * 6 + 2 + 1, none⟩ = some (.int .i64 qo.k) ∧ wa.cell? ⟨b, off + k * 6 + 2 + 2, none⟩ = some (.slice a1 qo.w.length f1) ∧ wa.cell? ⟨b, off + k * 6 + 2 + 3, none⟩ = some (.slice a2 qo.b.length f2)) (first | (with_reducible exact HKQ.out _ o5) | (exact S40)) (first | (go_at_call 12; refine CALL.out.mono ?_; rintro e w5 ⟨rfl, s5, o5⟩))
                  have MS : Hid (MdAt W c p9 p15 n (k + 1) m (.slice aL yL cL) m E' m L (.slice aL yL cL) w5) := Lib.hid ((HMD.out.fresh BD4.out).did s5 o5)
                  clear s5 o5 e0 e1 e2 e3 e4 e5 S40
                  have SKX : Hid (∀ wa : World, Only (fun b => b = p15 ∨ w5.heap.size ≤ b) w5 wa → (wa.cell? ⟨p9, 0, none⟩ = some (.slice aL yL cL) ∧ wa.cell? ⟨p9, 1, none⟩ = some (.int .i64 n) ∧ wa.cell? ⟨p9, 2, none⟩ = some (.int .i64 m) ∧ wa.cell? ⟨b, off + k * 6 + 1, none⟩ = some (.int .i64 qi) ∧ wa.cell? ⟨b, off + k * 6 + 2, none⟩ = some (.int .i64 qo.c) ∧ wa.cell? ⟨b, off + k * 6 + 2 + 1, none⟩ = some (.int .i64 qo.k) ∧ wa.cell? ⟨b, off + k * 6 + 2 + 2, none⟩ = some (.slice a1 qo.w.length f1) ∧ wa.cell? ⟨b, off + k * 6 + 2 + 3, none⟩ = some (.slice a2 qo.b.length f2))) := Lib.hid (fun wa o => by
                    have hb : Below W.heap.size W wa := (MS.out.below).trans (o.below (fun i hi e => by have := MS.out.lo; have := lo_q MS.out.sec; have := MS.out.np; have := MS.out.np2; have := MS.out.below.size; rcases e with e | e <;> omega) MS.out.below.size)
                    obtain ⟨e0, e1, e2, e3, e4, e5, _⟩ := HAT.out wa hb
                    have l1 := MS.out.box.2.2.2.2
                    have l2 := MS.out.np2
                    have key : ∀ (j : Nat) (u : Value), w5.cell? ⟨p9, j, none⟩ = some u → wa.cell? ⟨p9, j, none⟩ = some u := fun j u hu => (o.cell (p := ⟨p9, j, none⟩) l1 (fun h => h.elim (fun (h : p9 = p15) => by omega) (fun (h : w5.heap.size ≤ p9) => by omega))).trans hu
                    exact ⟨key _ _ MS.out.box.1, key _ _ MS.out.box.2.1, key _ _ MS.out.box.2.2.1, e1, e2, e3, e4, e5⟩)
                  have S00 := SKX.out w5.drew (Only.of_below (below_drewN _ _ 1))
                  have BD : Hid (Below w5.heap.size w5 w5.drew) := Lib.hid (below_drewN _ _ 1)
                  have HCH : Hid (Calls Tryz.prog 13 #[.agg #[.slice aL yL cL, .int .i64 n, .int .i64 m], .int .i64 qi, .agg #[.int .i64 qo.c, .int .i64 qo.k, .slice a1 qo.w.length f1, .slice a2 qo.b.length f2]] w5.drew (ChPost2 (fun b => ¬ c.F b ∧ b ≠ p9 ∧ b ≠ p15) n m E' t w5.drew)) := Lib.hid (store6_gen _ n m L _ qo qi w5.drew (MS.out.sp.fresh BD.out) (HAT.out w5.drew (MS.out.below.trans (BD.out.mono MS.out.below.size))).2.2.2.2.2.2 HFAR.out HL6.out HN6.out HGD.out HGE.out HIS.out)
                  go_wp2_with fail
                  go_region_held3 (fun wa => wa.cell? ⟨p9, 0, none⟩ = some (.slice aL yL cL) ∧ wa.cell? ⟨p9, 1, none⟩ = some (.int .i64 n) ∧ wa.cell? ⟨p9, 2, none⟩ = some (.int .i64 m) ∧ wa.cell? ⟨b, off + k * 6 + 1, none⟩ = some (.int .i64 qi) ∧ wa.cell? ⟨b, off + k * 6 + 2, none⟩ = some (.int .i64 qo.c) ∧ wa.cell? ⟨b, off + k * 6 + 2 + 1, none⟩ = some (.int .i64 qo.k) ∧ wa.cell? ⟨b, off + k * 6 + 2 + 2, none⟩ = some (.slice a1 qo.w.length f1) ∧ wa.cell? ⟨b, off + k * 6 + 2 + 3, none⟩ = some (.slice a2 qo.b.length f2)) (first | (with_reducible exact SKX.out _ (Only.of_below (BD6.out))) | (refine SKX.out _ ?_; (repeat (with_reducible refine Only.setCell ?_ _ (.inl (.inl rfl)) _)); with_reducible exact (Only.of_below (BD6.out))) | (exact S00)) (first | (go_at_call 13; refine HCH.out.mono ?_; rintro e w6 ⟨a', y', c', rfl, mid6⟩; have MID6 := Lib.hid mid6; have BD6 : Hid (Below w5.heap.size w5 w6) := Lib.hid (by obtain ⟨_, _, _, _, hb⟩ := mid6; exact ⟨hb.os, hb.tape, hb.output, hb.size, hb.block⟩); obtain ⟨u0, u1, u2, uf, _⟩ := MS.out.box2.fresh BD6.out; have uf0 := uf 0; have uf1 := uf 1; have uf2 := uf 2; clear uf mid6))
                  obtain ⟨L2, he2, hl2, MP⟩ := (MS.out.fresh BD.out).put (m2 := m) MID6.out
                  clear u0 u1 u2 uf0 uf1 uf2
                  go_wp2_with fail
                  go_meet
                  exact ⟨0, t, m, L2, a', y', c', rfl, rfl, rfl, rfl, Lib.hid ⟨hl2, by subst he2; exact MP⟩⟩
              · have h3 : (qk == 3) = false := by simpa using hk3
                clear hk3
                as_aux_lemma =>
                  obtain ⟨t, E', is, call⟩ := drop_gen c n k m (entsOf L) qi HWI.out w4 HMD.out.sec
                  have CALL := Lib.hid call
                  have HIS := Lib.hid is
                  have HGE := Lib.hid HMD.out.sec.good
                  clear call is
                  go_wp2_with fail
                  refine CALL.out.mono ?_
                  rintro e w5 ⟨rfl, s5, o5⟩
                  have MS : Hid (MdAt W c p9 p15 n (k + 1) m (.slice aL yL cL) m E' m L (.slice aL yL cL) w5) := Lib.hid ((HMD.out.did s5 o5).mono (Nat.le_succ k))
                  clear s5 o5 e0 e1 e2 e3 e4 e5
                  have SKX : Hid (∀ wa : World, Only (fun b => b = p15 ∨ w5.heap.size ≤ b) w5 wa → (wa.cell? ⟨p9, 0, none⟩ = some (.slice aL yL cL) ∧ wa.cell? ⟨p9, 1, none⟩ = some (.int .i64 n) ∧ wa.cell? ⟨p9, 2, none⟩ = some (.int .i64 m) ∧ wa.cell? ⟨b, off + k * 6 + 1, none⟩ = some (.int .i64 qi))) := Lib.hid (fun wa o => by
                    have hb : Below W.heap.size W wa := (MS.out.below).trans (o.below (fun i hi e => by have := MS.out.lo; have := lo_q MS.out.sec; have := MS.out.np; have := MS.out.np2; have := MS.out.below.size; rcases e with e | e <;> omega) MS.out.below.size)
                    obtain ⟨e0, e1, e2, e3, e4, e5, _⟩ := HAT.out wa hb
                    have l1 := MS.out.box.2.2.2.2
                    have l2 := MS.out.np2
                    have key : ∀ (j : Nat) (u : Value), w5.cell? ⟨p9, j, none⟩ = some u → wa.cell? ⟨p9, j, none⟩ = some u := fun j u hu => (o.cell (p := ⟨p9, j, none⟩) l1 (fun h => h.elim (fun (h : p9 = p15) => by omega) (fun (h : w5.heap.size ≤ p9) => by omega))).trans hu
                    exact ⟨key _ _ MS.out.box.1, key _ _ MS.out.box.2.1, key _ _ MS.out.box.2.2.1, e1⟩)
                  have S00 := SKX.out w5.drew (Only.of_below (below_drewN _ _ 1))
                  have BD : Hid (Below w5.heap.size w5 w5.drew) := Lib.hid (below_drewN _ _ 1)
                  have BE : Hid (Below w5.heap.size w5 (w5.alloc (.cells #[.int .i64 qi] 3)).drew) := Lib.hid (((Below.refl _ _).alloc (Nat.le_refl _) _).trans (below_drewN _ _ 1))
                  have S01 := SKX.out (w5.alloc (.cells #[.int .i64 qi] 3)).drew (Only.of_below BE.out)
                  have HCH : Hid (Calls Tryz.prog 15 #[.agg #[.slice aL yL cL, .int .i64 n, .int .i64 m], .slice (some ⟨w5.heap.size, 0, none⟩) 1 1] (w5.alloc (.cells #[.int .i64 qi] 3)).drew (ChPost2 (fun b => ¬ c.F b ∧ b ≠ p9 ∧ b ≠ p15) n m E' t (w5.alloc (.cells #[.int .i64 qi] 3)).drew)) := Lib.hid (drop6_gen _ n m L w5.heap.size qi (w5.alloc (.cells #[.int .i64 qi] 3)).drew (MS.out.sp.fresh BE.out) (by show (w5.alloc (.cells #[.int .i64 qi] 3)).cell? ⟨w5.heap.size, 0, none⟩ = _; rw [World.cell?_alloc_at _ _ _ _ rfl]; rfl) HL6.out HGE.out HIS.out)
                  go_wp2_with fail
                  go_region_held3 (fun wa => wa.cell? ⟨p9, 0, none⟩ = some (.slice aL yL cL) ∧ wa.cell? ⟨p9, 1, none⟩ = some (.int .i64 n) ∧ wa.cell? ⟨p9, 2, none⟩ = some (.int .i64 m) ∧ wa.cell? ⟨b, off + k * 6 + 1, none⟩ = some (.int .i64 qi)) (first | (with_reducible exact SKX.out _ (Only.of_below (BD6.out))) | (refine SKX.out _ ?_; (repeat (with_reducible refine Only.setCell ?_ _ (.inl (.inl rfl)) _)); with_reducible exact (Only.of_below (BD6.out))) | (exact S00) | (exact S01)) (first | (go_at_call 15; refine HCH.out.mono ?_; rintro e w6 ⟨a', y', c', rfl, mid6⟩; have MID6 := Lib.hid mid6; have BD6 : Hid (Below w5.heap.size w5 w6) := Lib.hid (by obtain ⟨_, _, _, _, hb⟩ := mid6; exact BE.out.trans (hb.mono BE.out.size)); obtain ⟨u0, u1, u2, uf, _⟩ := MS.out.box2.fresh BD6.out; have uf0 := uf 0; have uf1 := uf 1; have uf2 := uf 2; clear uf mid6))
                  obtain ⟨L2, he2, hl2, MP⟩ := (MS.out.fresh BE.out).put (m2 := m) MID6.out
                  clear u0 u1 u2 uf0 uf1 uf2
                  go_wp2_with fail
                  go_meet
                  exact ⟨0, t, m, L2, a', y', c', rfl, rfl, rfl, rfl, Lib.hid ⟨hl2, by subst he2; exact MP⟩⟩
            case rest =>
              obtain ⟨id, t, m', L', a', y', c', rfl, rfl, rfl, rfl, HM⟩ := hcut
              as_aux_lemma =>
                obtain ⟨x0, x1, x2, xf, _⟩ := HM.out.2.box
                have xf0 := xf 0
                have xf1 := xf 1
                have xf2 := xf 2
                obtain ⟨z0, z1, z2, _, _⟩ := HM.out.2.box2
                have HS6 := Lib.hid HM.out.2.end_
                clear xf
                go_wp2_with fail
                generalize ((wc.setCell ⟨p9, 0, none⟩ (.slice a' y' c')).setCell ⟨p9, 1, none⟩ (.int .i64 n)).setCell ⟨p9, 2, none⟩ (.int .i64 m') = w6 at HS6 ⊢
                clear x0 x1 x2 xf0 xf1 xf2 z0 z1 z2
                have HL7 : Hid (L'.length ≤ 1000000) := Lib.hid (by have := HS6.out.len; omega)
                obtain ⟨kk, hfr⟩ := find_ex L' qi
                have HFR := Lib.hid hfr
                obtain ⟨hb, hhb⟩ : ∃ b, hasE (entsOf L') qi = b := ⟨_, rfl⟩
                have hdk : decide ((0 : Int) ≤ kk) = hb := by rw [find_pos hfr, hhb]
                obtain ⟨tt, htt⟩ : ∃ tt, total (rowsE (entsOf L')) = tt := ⟨_, rfl⟩
                have HTT : Hid (tt ≤ 1000000) := Lib.hid (by rw [← htt]; have h1 := R4.total_le HS6.out.sec.sp.good; have := HN3.out; omega)
                have C16 : Hid (∀ wa, Below w6.heap.size w6 wa → Calls Tryz.prog 16 #[.pointer (some ⟨c.q, 0, none⟩)] wa fun e w' => e = .returned (.int .i64 tt) ∧ Below wa.heap.size wa w') := Lib.hid (fun wa h => (used_any c n (k + 1) m' (entsOf L') wa (HS6.out.sec.fresh h)).mono fun e w' ⟨he, _, hb⟩ => ⟨by rw [he, htt], hb⟩)
                have C17 : Hid (∀ wa, Below w6.heap.size w6 wa → Calls Tryz.prog 17 #[.agg #[.slice a' y' c', .int .i64 n, .int .i64 m']] wa fun e w' => e = .returned (.int .i64 tt) ∧ Below wa.heap.size wa w') := Lib.hid (fun wa h => (used6_any _ n m' L' wa (HS6.out.sp.fresh h) HL7.out (fun p hp => HS6.out.sec.good.ok _ (List.mem_map.2 ⟨p, hp, rfl⟩)) (by rw [htt]; exact HTT.out)).mono fun e w' ⟨he, hb⟩ => ⟨by rw [he, htt], hb⟩)
                have C18 : Hid (∀ wa, Below w6.heap.size w6 wa → Calls Tryz.prog 18 #[.pointer (some ⟨c.q, 0, none⟩), .int .i64 qi] wa fun e w' => e = .returned (.bool hb) ∧ Below wa.heap.size wa w') := Lib.hid (fun wa h => (has_any c n (k + 1) m' (entsOf L') qi HWI.out wa (HS6.out.sec.fresh h)).mono fun e w' ⟨he, _, hb⟩ => ⟨by rw [he, hhb], hb⟩)
                have C10 : Hid (∀ wa, Below w6.heap.size w6 wa → Calls Tryz.prog 10 #[.agg #[.slice a' y' c', .int .i64 n, .int .i64 m'], .int .i64 qi] wa fun e w' => e = .returned (.int .i64 kk) ∧ Below wa.heap.size wa w') := Lib.hid (fun wa h => find_r _ n m' m' L' qi kk wa (HS6.out.sp.fresh h) HL7.out HS6.out.sec.good HFR.out)
                have SKG : Hid (∀ wa : World, Below w6.heap.size w6 wa → (wa.cell? ⟨p9, 0, none⟩ = some (.slice a' y' c') ∧ wa.cell? ⟨p9, 1, none⟩ = some (.int .i64 n) ∧ wa.cell? ⟨p9, 2, none⟩ = some (.int .i64 m') ∧ wa.cell? ⟨b, off + k * 6 + 1, none⟩ = some (.int .i64 qi) ∧ Hid (Below w6.heap.size w6 wa))) := Lib.hid (fun wa o => by
                  obtain ⟨_, h1, _⟩ := HAT.out wa (HS6.out.below.trans (o.mono HS6.out.below.size))
                  have l1 := HS6.out.box.2.2.2.2
                  exact ⟨(o.cell (p := ⟨p9, 0, none⟩) l1).trans HS6.out.box.1, (o.cell (p := ⟨p9, 1, none⟩) l1).trans HS6.out.box.2.1, (o.cell (p := ⟨p9, 2, none⟩) l1).trans HS6.out.box.2.2.1, h1, Lib.hid o⟩)
                have SGB : Hid (∀ wa : World, (wa.cell? ⟨p9, 0, none⟩ = some (.slice a' y' c') ∧ wa.cell? ⟨p9, 1, none⟩ = some (.int .i64 n) ∧ wa.cell? ⟨p9, 2, none⟩ = some (.int .i64 m') ∧ wa.cell? ⟨b, off + k * 6 + 1, none⟩ = some (.int .i64 qi) ∧ Hid (Below w6.heap.size w6 wa)) → Below w6.heap.size w6 wa) := Lib.hid (fun wa h => h.2.2.2.2.out)
                have SGT : Hid (∀ wa wb : World, (wa.cell? ⟨p9, 0, none⟩ = some (.slice a' y' c') ∧ wa.cell? ⟨p9, 1, none⟩ = some (.int .i64 n) ∧ wa.cell? ⟨p9, 2, none⟩ = some (.int .i64 m') ∧ wa.cell? ⟨b, off + k * 6 + 1, none⟩ = some (.int .i64 qi) ∧ Hid (Below w6.heap.size w6 wa)) → Below wa.heap.size wa wb → (wb.cell? ⟨p9, 0, none⟩ = some (.slice a' y' c') ∧ wb.cell? ⟨p9, 1, none⟩ = some (.int .i64 n) ∧ wb.cell? ⟨p9, 2, none⟩ = some (.int .i64 m') ∧ wb.cell? ⟨b, off + k * 6 + 1, none⟩ = some (.int .i64 qi) ∧ Hid (Below w6.heap.size w6 wb))) := Lib.hid (fun wa wb h b => SKG.out wb ((SGB.out wa h).trans (b.mono (SGB.out wa h).size)))
                have S00 := SKG.out w6.drew (below_drewN _ _ 1)
                clear hfr hhb htt
                cases hb with
                | false =>
                  go_region_held3 (fun wa => wa.cell? ⟨p9, 0, none⟩ = some (.slice a' y' c') ∧ wa.cell? ⟨p9, 1, none⟩ = some (.int .i64 n) ∧ wa.cell? ⟨p9, 2, none⟩ = some (.int .i64 m') ∧ wa.cell? ⟨b, off + k * 6 + 1, none⟩ = some (.int .i64 qi) ∧ Hid (Below w6.heap.size w6 wa)) (first | assumption | (exact S00) | (refine SGT.out _ _ (by assumption) hbc) | (refine SGT.out _ _ (by assumption) hbd) | (refine SGT.out _ _ (by assumption) hbe) | (refine SGT.out _ _ (by assumption) hbf)) (first | (go_at_call 16; refine (C16.out _ (SGB.out _ (by assumption))).mono ?_; rintro e wcc ⟨rfl, hbc⟩) | (go_at_call 17; refine (C17.out _ (SGB.out _ (by assumption))).mono ?_; rintro e wdd ⟨rfl, hbd⟩) | (go_at_call 18; refine (C18.out _ (SGB.out _ (by assumption))).mono ?_; rintro e wee ⟨rfl, hbe⟩) | (go_at_call 10; refine (C10.out _ (SGB.out _ (by assumption))).mono ?_; rintro e wff ⟨rfl, hbf⟩))
                  have HS7 := Lib.hid (HS6.out.fresh (SGB.out _ (by assumption)))
                  go_wp2_with fail
                  go_roundg g1
                  case measure => omega
                  case rel => exact ⟨k + 1, by go_num, by omega, by omega, m', L', _, HS7⟩
                | true =>
                  go_region_held3 (fun wa => wa.cell? ⟨p9, 0, none⟩ = some (.slice a' y' c') ∧ wa.cell? ⟨p9, 1, none⟩ = some (.int .i64 n) ∧ wa.cell? ⟨p9, 2, none⟩ = some (.int .i64 m') ∧ wa.cell? ⟨b, off + k * 6 + 1, none⟩ = some (.int .i64 qi) ∧ Hid (Below w6.heap.size w6 wa)) (first | assumption | (exact S00) | (refine SGT.out _ _ (by assumption) hbc) | (refine SGT.out _ _ (by assumption) hbd) | (refine SGT.out _ _ (by assumption) hbe) | (refine SGT.out _ _ (by assumption) hbf)) (first | (go_at_call 16; refine (C16.out _ (SGB.out _ (by assumption))).mono ?_; rintro e wcc ⟨rfl, hbc⟩) | (go_at_call 17; refine (C17.out _ (SGB.out _ (by assumption))).mono ?_; rintro e wdd ⟨rfl, hbd⟩) | (go_at_call 18; refine (C18.out _ (SGB.out _ (by assumption))).mono ?_; rintro e wee ⟨rfl, hbe⟩) | (go_at_call 10; refine (C10.out _ (SGB.out _ (by assumption))).mono ?_; rintro e wff ⟨rfl, hbf⟩))
                  have HS7 := Lib.hid (HS6.out.fresh (SGB.out _ (by assumption)))
                  go_wp2_with fail
                  go_roundg g1
                  case measure => omega
                  case rel => exact ⟨k + 1, by go_num, by omega, by omega, m', L', _, HS7⟩
          · as_aux_lemma =>
              have hlk : ¬ (k : Int) < (ds.length : Int) := by omega
              have HKD : Hid (k ≤ 2000000000000) := Lib.hid (by have := HDL.out; omega)
              have HLE : Hid (L.length ≤ 1000000) := Lib.hid (by have := HLL.out; omega)
              have HIL : Hid ((idsE (entsOf L)).length ≤ 1000000) := Lib.hid (by have h2 : (idsE (entsOf L)).length = L.length := by simp [idsE, entsOf]
                                                                                 have := HLL.out; omega)
              have HST1 : Hid (StAt W c p9 n k m L (.slice aL yL cL) wr) := HST
              have SAY : Hid (∀ (N M : Nat → Prop) (v1 v2 : Value) (us : List Int) (w' : World), Ints N w' v1 us → Ints M w' v2 us → us.length ≤ 1000000 → Calls Tryz.prog 20 #[v1, v2] w' fun e w'' => e = .returned (.bool true) ∧ Below w'.heap.size w' w'') := fun N M v1 v2 us w' h1 h2 hl => (Wd.sameInts_any v1 v2 us us w' (ints_w h1) (ints_w h2) hl).mono fun e w'' h => by
                have := h.below
                simpa using this
              have XA : Hid (∀ wa, StAt W c p9 n k m L (.slice aL yL cL) wa → (wa.cell? ⟨p9, 0, none⟩ = some (.slice aL yL cL) ∧ wa.cell? ⟨p9, 1, none⟩ = some (.int .i64 n) ∧ wa.cell? ⟨p9, 2, none⟩ = some (.int .i64 m))) := Lib.hid (fun wa h => ⟨h.box.1, h.box.2.1, h.box.2.2.1⟩)
              have XB : Hid (∀ wa, StAt W c p9 n (k + 20000) m L (.slice aL yL cL) wa → (wa.cell? ⟨p9, 0, none⟩ = some (.slice aL yL cL) ∧ wa.cell? ⟨p9, 1, none⟩ = some (.int .i64 n) ∧ wa.cell? ⟨p9, 2, none⟩ = some (.int .i64 m))) := Lib.hid (fun wa h => ⟨h.box.1, h.box.2.1, h.box.2.2.1⟩)
              have C19 : Hid (∀ wa, StAt W c p9 n k m L (.slice aL yL cL) wa → Calls Tryz.prog 19 #[.pointer (some ⟨c.q, 0, none⟩)] wa fun e w' => e = .returned (.int .i64 m) ∧ wa = w') := Lib.hid (fun wa h => made_any c n k m (entsOf L) wa h.sec)
              have C21 : Hid (∀ wa, StAt W c p9 n k m L (.slice aL yL cL) wa → Calls Tryz.prog 21 #[.pointer (some ⟨c.q, 0, none⟩)] wa fun e w' => ∃ v, e = .returned v ∧ Hid (Ints (wa.heap.size ≤ ·) w' v (idsE (entsOf L))) ∧ Hid (StAt W c p9 n k m L (.slice aL yL cL) w')) := Lib.hid (fun wa h => (ids_any c n k m (entsOf L) wa h.sec).mono fun e w' ⟨v, he, hown, _, hb⟩ => ⟨v, he, Lib.hid (ints_own hown), Lib.hid (h.fresh hb)⟩)
              have C22 : Hid (∀ wa, StAt W c p9 n k m L (.slice aL yL cL) wa → Calls Tryz.prog 22 #[.agg #[.slice aL yL cL, .int .i64 n, .int .i64 m]] wa (GaveIds (idsE (entsOf L)) wa)) := Lib.hid (fun wa h => ids6_any _ n m L wa h.sp HLE.out)
              have RIN : Hid (∀ u wa, StAt W c p9 n u m L (.slice aL yL cL) wa → Ints (fun b => ¬ c.F b) wa (.slice ar q cr) rs) := Lib.hid (fun u wa h => by
                have hr1 := HR.out.1
                rw [HQ.out] at hr1
                refine Vals.kind (Vals.only hr1 (F := (W.heap.size ≤ ·)) ⟨h.below.os, h.below.tape, h.below.output, h.below.size, fun i hi _ => h.below.block i hi⟩ (fun b hb hf => by have h1 : b < W.heap.size := hb; have h2 : W.heap.size ≤ b := hf; omega)) (fun b _ hb hf => by have h1 : b < W.heap.size := hb; have := hf.1; have := h.lo; omega))
              have C23 : Hid (∀ wa, StAt W c p9 n k m L (.slice aL yL cL) wa → Calls Tryz.prog 23 #[.pointer (some ⟨c.q, 0, none⟩), .slice ar q cr] wa fun e w' => ∃ v ys, e = .returned v ∧ Hid (NearIs (entsOf L) rs ys) ∧ Hid (Ints (wa.heap.size ≤ ·) w' v ys) ∧ Hid (StAt W c p9 n (k + 20000) m L (.slice aL yL cL) w')) := Lib.hid (fun wa h => (near_any c n k m (entsOf L) _ rs wa h.sec (RIN.out _ wa h) HR.out.2.1 (by rw [HQ.out]; have := HQ20.out; omega) (by have := HKD.out; omega)).mono fun e w' ⟨v, ys, he, is, hown, hs, ho⟩ => ⟨v, ys, he, Lib.hid is, Lib.hid (ints_own hown), Lib.hid (h.did hs ho)⟩)
              have C24 : Hid (∀ wa, StAt W c p9 n (k + 20000) m L (.slice aL yL cL) wa → Calls Tryz.prog 24 #[.agg #[.slice aL yL cL, .int .i64 n, .int .i64 m], .slice ar q cr] wa (GaveNear (entsOf L) rs wa)) := Lib.hid (fun wa h => near6_any _ n m m L _ rs wa h.sp (RIN.out _ wa h) HLE.out (by rw [HQ.out]; have := HQ20.out; omega) h.sec.good)
              have C5 : Hid (∀ wa, StAt W c p9 n (k + 20000) m L (.slice aL yL cL) wa → Calls Tryz.prog 5 #[] wa fun e w' => e = .returned (.bool true) ∧ Below wa.heap.size wa w') := Lib.hid (fun wa h => known_true wa h.sec.sp.tab (by have := h.box.2.2.2.2; omega))
              obtain ⟨x0, x1, x2, _, _⟩ := HST.out.box
              have STD : Hid (StAt W c p9 n k m L (.slice aL yL cL) wr.drew) := Lib.hid (HST1.out.fresh (below_drewN _ _ 1))
              have S00 := XA.out _ STD.out
              clear HST
              go_wp2_with fail
              go_region_held3 (fun wa => wa.cell? ⟨p9, 0, none⟩ = some (.slice aL yL cL) ∧ wa.cell? ⟨p9, 1, none⟩ = some (.int .i64 n) ∧ wa.cell? ⟨p9, 2, none⟩ = some (.int .i64 m)) (first | assumption | (exact S00) | (exact XB.out _ st5.out) | (exact XB.out _ stb.out) | (exact XB.out _ st24.out) | (exact XB.out _ st23.out) | (exact XA.out _ sta.out) | (exact XA.out _ st22.out) | (exact XA.out _ st21.out)) (first | (go_at_call 19; refine (C19.out _ STD.out).mono ?_; rintro e w19 ⟨rfl, rfl⟩) | (go_at_call 21; refine (C21.out _ STD.out).mono ?_; rintro e w21 ⟨v21, rfl, i21, st21⟩) | (go_at_call 22; refine (C22.out _ st21.out).mono ?_; rintro e w22 ⟨v22, rfl, i22, b22⟩; have st22 := Lib.hid (st21.out.fresh b22); have j21 := Lib.hid (Vals.only i21.out (F := fun _ => False) (Only.of_below b22) (fun _ _ h => h))) | (go_at_call 23; refine (C23.out _ sta.out).mono ?_; rintro e w23 ⟨v23, ys, rfl, is23, i23, st23⟩) | (go_at_call 24; refine (C24.out _ st23.out).mono ?_; rintro e w24 ⟨v24, zs, rfl, is24, i24, b24⟩; have st24 := Lib.hid (st23.out.fresh b24); have j23 := Lib.hid (Vals.only i23.out (F := fun _ => False) (Only.of_below b24) (fun _ _ h => h)); obtain rfl : zs = ys := near_eq is24 is23.out; have HYS : Hid (zs.length ≤ 1000000) := Lib.hid (Nat.le_trans (near_ids is24) HIL.out)) | (go_at_call 20; refine (SAY.out _ _ v23 v24 zs w24 j23.out i24 HYS.out).mono ?_; rintro e wb ⟨rfl, bb⟩; have stb := Lib.hid (st24.out.fresh bb)) | (go_at_call 20; refine (SAY.out _ _ v21 v22 (idsE (entsOf L)) w22 j21.out i22 HIL.out).mono ?_; rintro e wa ⟨rfl, ba⟩; have sta := Lib.hid (st22.out.fresh ba)) | (go_at_call 5; refine (C5.out _ stb.out).mono ?_; rintro e w5 ⟨rfl, b5⟩; have st5 := Lib.hid (stb.out.fresh b5)))
              go_wp2_with fail
              go_ret
              exact ⟨rfl, st5.out.below⟩

end Go.Proofs.YtccpmaahnfgkeaaGreatDoor
