/- The walk of the law SecondKeeps: the things done. -/
import Derived.Test.YtapjeilfkpfllaaDoorSKd
namespace Go.Proofs.YtapjeilfkpfllaaDoor
set_option maxRecDepth 1000000
open Go.ChangeShapes Go.WideShapes Go.ChangeAt Go.RowKit
open Wd (Ob okO encO refsO ObjAt In64 I64)
theorem Tryd.info33 : (Tryd.prog.info? 33).map (fun i => (i.zero, i.size, i.bytes)) = some (some (.agg #[.int .i64 0, .int .i64 0, .slice none 0 0, .slice none 0 0]), 4, 64) := by kernel_rfl
theorem ok_short {o : Ob} (h : okO o = true) : o.w.length ≤ 4000 ∧ o.b.length ≤ 4000 := by
  obtain ⟨_, ⟨_, h1, h2, _⟩ | ⟨_, h1, h2⟩⟩ := (Wd.okO_iff o).1 h
  · rw [h1]; simp; omega
  · rw [h1]; simp; omega

set_option maxHeartbeats 80000000 in
theorem keeps_walk (W : World) (hT : Tab W) (h0 : 0 < W.heap.size) (v : Value) (ds : List Dd) (hv : Dos W v ds) :
    Calls Tryd.prog 3 #[v] W fun e w' => e = .returned (.bool true) ∧ Below W.heap.size W w' := by
  have HV := Lib.hid hv
  obtain ⟨i0, hi, hz0, hz1, hz2⟩ := info_parts Tryd.info33
  have KN : Hid (∀ w', Below W.heap.size W w' → Calls Tryd.prog 8 #[] w' fun e w'' => e = .returned (.bool true) ∧ Below W.heap.size W w'') := fun w' h =>
    (known_true w' (hT.below h h0) (by have := h.size; omega)).mono fun e w'' ⟨he, hb⟩ => ⟨he, h.trans (hb.mono h.size)⟩
  have HN := Lib.hid (fun w' (h : Below W.heap.size W w') => snew_yes 400 w' (by omega) (hT.below h h0) (by have := h.size; omega))
  have HLG := Lib.hid (long_any v ds W hv)
  have HDL : Hid (ds.length ≤ 2000000000000) := by
    obtain ⟨_, _, _, h, _⟩ := hv
    exact h
  obtain ⟨a, cp, rfl, _, _⟩ := hv
  clear hT h0
  go_enter Tryd.func3, Tryd.ntmps3
  go_wp2_with fail
  refine HLG.out.mono ?_
  rintro e w1 ⟨lg, rfl, d1, hw1⟩
  have B1 : Hid (Below W.heap.size W w1) := by rw [hw1]; exact below_drewN _ _ _
  clear hw1 HLG
  cases lg with
  | true =>
    go_wp2_with fail
    refine (KN.out w1 B1.out).mono ?_
    rintro e w2 ⟨rfl, b2⟩
    go_wp2
    go_ret
    exact ⟨rfl, b2⟩
  | false =>
  go_wp2_with fail
  refine (show Calls Tryd.prog 9 #[.int .i64 400] _ _ from HN.out w1 B1.out).mono ?_
  rintro e w2 ⟨c, rfl, s2, hlo, b2⟩
  have I2 : Hid (KeInv c W 0 (.slice none 0 0) w2) := ⟨0, [], [], [], s2, last_nil c w2, rfl, (fun e he => by cases he), B1.out.trans (b2.mono B1.out.size), Nat.le_trans B1.out.size hlo⟩
  have KE : Hid (∀ w' w'' : World, Below W.heap.size W w' → Below w'.heap.size w' w'' → Below W.heap.size W w'') := fun w' w'' h o => h.trans (o.mono h.size)
  clear s2 hlo b2 HN
  have hdl : (ds.length : Int) ≤ 2000000000000 := by have := HDL.out; omega
  go_wp2_with fail
  go_loopw [5, 6] (fun l i wr => ∃ k : Nat, k ≤ ds.length ∧ i = .int .i64 k ∧ KeInv c W k l wr) (fun _ i _ => ds.length - (RowKit.intOf i).toNat)
  case atStart => exact ⟨0, Nat.zero_le _, rfl, I2.out⟩
  case round =>
    obtain ⟨k, hk, rfl, m, L, os, xs, hke⟩ := hrel
    obtain ⟨a0, cp0, rfl, hcp⟩ := hke.last.form
    have hlen := hke.len
    subst hlen
    have HKE := Lib.hid hke
    have HOL : Hid (os.length ≤ 1048576) := hke.sec.few
    have hol : (os.length : Int) ≤ 2000000000000 := by have := hke.sec.few; omega
    by_cases hlt : k < ds.length
    · obtain ⟨b, off, c', he, wk, wi, a1, f1, a2, f2, hat, _, _⟩ := HV.out.at_ hlt
      injection he with g1 g2 g3
      subst g1 g3
      clear g2
      have HAT := Lib.hid hat
      have HWI := Lib.hid wi
      have HKD : Hid (k < ds.length) := hlt
      clear hat hke wk wi hcp
      generalize ds[k] = q at *
      obtain ⟨qk, qi, qo⟩ := q
      dsimp only at HAT HWI
      obtain ⟨e0, e1, e2, e3, e4, e5, _⟩ := HAT.out wr HKE.out.below
      by_cases hk1 : qk = 1
      · subst hk1
        obtain ⟨id, t, m', L', is, call⟩ := make_any c 400 k os.length L _ qo wr HKE.out.sec (HAT.out wr HKE.out.below).2.2.2.2.2.2 (by have := HDL.out; omega)
        have CALL := Lib.hid call
        clear call
        rcases is with ⟨h0, rfl, rfl, rfl, rfl⟩ | ⟨h0, rfl, rfl, rfl, rfl, _⟩ | ⟨hok, hm, rfl, rfl, rfl, af, hF, rfl⟩
        · go_wp2_with fail
          refine CALL.out.mono ?_
          rintro e w3 ⟨rfl, s3, o3⟩
          have K3 := Lib.hid (HKE.out.same s3 o3 (fun _ h => h))
          clear s3 o3 e0 e1 e2 e3 e4 e5
          go_wp2_with fail
          go_roundw
          case rel => exact ⟨k + 1, by omega, by go_num, _, _, _, _, K3.out⟩
          case measure => simp [RowKit.intOf]; omega
        · go_wp2_with fail
          refine CALL.out.mono ?_
          rintro e w3 ⟨rfl, s3, o3⟩
          have K3 := Lib.hid (HKE.out.same s3 o3 (fun _ h => h))
          clear s3 o3 e0 e1 e2 e3 e4 e5
          go_wp2_with fail
          go_roundw
          case rel => exact ⟨k + 1, by omega, by go_num, _, _, _, _, K3.out⟩
          case measure => simp [RowKit.intOf]; omega
        · have HOK := Lib.hid hok
          clear hok hF hm
          go_wp2_with fail
          refine CALL.out.mono ?_
          rintro e w3 ⟨rfl, s3, o3⟩
          have S3 := Lib.hid s3
          have O3 := Lib.hid o3
          have B3 : Hid (Below W.heap.size W w3) := HKE.out.below.trans (o3.below (fun i hi hf => by have := hf.1; have := HKE.out.lo; omega) HKE.out.below.size)
          clear s3 o3 e0 e1 e2 e3 e4 e5
          obtain ⟨e0, e1, e2, e3, e4, e5, hob⟩ := HAT.out w3 B3.out
          have CP := Lib.hid (refcopy_any _ qo w3 hob (by have := (ok_short HOK.out).1; omega) (by have := (ok_short HOK.out).2; omega))
          clear hob
          go_wp2_with fail
          refine CP.out.mono ?_
          rintro e w4 ⟨p1, r1, p2, r2, rfl, oi4, b4⟩
          have OI4 := Lib.hid oi4
          have B4 := Lib.hid b4
          have L4 : Hid (LastX c w4 (.slice a0 os.length cp0) os xs) := (HKE.out.last.only O3.out (fun _ h => h)).fresh b4
          have LQ : Hid (c.q < w4.heap.size) := Nat.lt_of_lt_of_le S3.out.lt b4.size
          clear oi4 b4 e0 e1 e2 e3 e4 e5
          go_wp2_with (at_builtin; refine wpList_append_own_at _ rfl _ _ 29 rfl (c.q + 1) 33 i0 (.agg #[.int .i64 0, .int .i64 0, .slice none 0 0, .slice none 0 0]) 4 64 Tryd.underlying29 hi hz0 hz1 hz2 rfl (by decide) _ _ _ rfl (L4.out.own.alloc _) ⟨w4.heap.size, 0, none⟩ 1 1 [.int .i64 qo.c, .int .i64 qo.k, .slice p1 qo.w.length r1, .slice p2 qo.b.length r2] rfl rfl ?c1 ?c2 ?c3 ?c4 ?c5 ?_)
          case c1 =>
            intro j u hj
            match j, hj with
            | 0, hj => simp at hj; subst hj; simp [Addr.add]
            | 1, hj => simp at hj; subst hj; simp [Addr.add]
            | 2, hj => simp at hj; subst hj; simp [Addr.add]
            | 3, hj => simp at hj; subst hj; simp [Addr.add]
          case c2 => intro u hu; simp at hu; rcases hu with rfl | rfl | rfl | rfl <;> rfl
          case c3 => have := HOL.out; unfold maxLen; omega
          case c4 => have := HOL.out; omega
          case c5 => have := LQ.out; simp; omega
          intro v5 w5 own5 hgr5 _ hat5
          have K5 : Hid (KeInv c W (k + 1) v5 w5) := HKE.out.push S3.out O3.out OI4.out B4.out own5 hgr5 (by rw [World.size_alloc]; exact hat5) HOK.out
          obtain ⟨g5, cap5, rfl⟩ : ∃ g cap, v5 = .slice (some ⟨g, 0, none⟩) (os.length + 1) cap := by
            rcases own5.2 with ⟨_, h⟩ | ⟨g, cap, _, h, _⟩
            · omega
            · exact ⟨g, cap, h⟩
          clear own5 hgr5 hat5
          go_wp2_with fail
          go_roundw
          case rel => exact ⟨k + 1, by omega, by go_num, K5.out⟩
          case measure => simp [RowKit.intOf]; omega
      by_cases hk3 : qk = 3
      · subst hk3
        have HKQ : Hid (∀ w5, Only c.F wr.drew w5 → (fun w' => w'.cell? ⟨b, off + k * 6 + 1, none⟩ = some (.int .i64 qi) ∧ w'.cell? ⟨b, off + k * 6 + 2, none⟩ = some (.int .i64 qo.c) ∧ w'.cell? ⟨b, off + k * 6 + 2 + 1, none⟩ = some (.int .i64 qo.k) ∧ w'.cell? ⟨b, off + k * 6 + 2 + 2, none⟩ = some (.slice a1 qo.w.length f1) ∧ w'.cell? ⟨b, off + k * 6 + 2 + 3, none⟩ = some (.slice a2 qo.b.length f2)) w5) := fun w5 o => by
          obtain ⟨_, h1, h2, h3, h4, h5, _⟩ := HAT.out w5 ((KE.out _ _ HKE.out.below (below_drewN wr _ 1)).trans (o.below (fun i hi hf => by have := hf.1; have := HKE.out.lo; omega) (KE.out _ _ HKE.out.below (below_drewN wr _ 1)).size))
          exact ⟨h1, h2, h3, h4, h5⟩
        obtain ⟨t, L', is, call⟩ := store_gen c 400 k os.length L _ qo qi HWI.out wr.drew (HKE.out.sec.fresh (below_drewN wr wr.heap.size 1)) (HAT.out wr.drew (KE.out _ _ HKE.out.below (below_drewN wr _ 1))).2.2.2.2.2.2 (by have := HDL.out; omega)
        have CALL := Lib.hid call
        clear call
        rcases is with ⟨_, rfl, rfl⟩ | ⟨x, hx, hxi, ⟨_, rfl, rfl⟩ | ⟨hok, sa, ok, hR, rfl, rfl⟩⟩
        · replace CALL : Hid (Calls Tryd.prog 12 _ _ (StorePost c 400 (k + 1) os.length L' 4 wr.drew)) := CALL
          go_wp2_with fail
          go_region_held3 (fun w' => w'.cell? ⟨b, off + k * 6 + 1, none⟩ = some (.int .i64 qi) ∧ w'.cell? ⟨b, off + k * 6 + 2, none⟩ = some (.int .i64 qo.c) ∧ w'.cell? ⟨b, off + k * 6 + 2 + 1, none⟩ = some (.int .i64 qo.k) ∧ w'.cell? ⟨b, off + k * 6 + 2 + 2, none⟩ = some (.slice a1 qo.w.length f1) ∧ w'.cell? ⟨b, off + k * 6 + 2 + 3, none⟩ = some (.slice a2 qo.b.length f2)) (first | go_keep | (exact HKQ.out _ o3)) (first | (go_at_call 12; refine CALL.out.mono ?_; rintro e w3 ⟨rfl, s3, o3⟩))
          have K3 := Lib.hid ((HKE.out.fresh (below_drewN wr wr.heap.size 1)).same s3 o3 (fun _ h => h))
          clear s3 o3 e0 e1 e2 e3 e4 e5
          go_wp2_with fail
          go_roundw
          case rel => exact ⟨k + 1, by omega, by go_num, _, _, _, _, K3.out⟩
          case measure => simp [RowKit.intOf]; omega
        · replace CALL : Hid (Calls Tryd.prog 12 _ _ (StorePost c 400 (k + 1) os.length L' 2 wr.drew)) := CALL
          clear hx hxi
          go_wp2_with fail
          go_region_held3 (fun w' => w'.cell? ⟨b, off + k * 6 + 1, none⟩ = some (.int .i64 qi) ∧ w'.cell? ⟨b, off + k * 6 + 2, none⟩ = some (.int .i64 qo.c) ∧ w'.cell? ⟨b, off + k * 6 + 2 + 1, none⟩ = some (.int .i64 qo.k) ∧ w'.cell? ⟨b, off + k * 6 + 2 + 2, none⟩ = some (.slice a1 qo.w.length f1) ∧ w'.cell? ⟨b, off + k * 6 + 2 + 3, none⟩ = some (.slice a2 qo.b.length f2)) (first | go_keep | (exact HKQ.out _ o3)) (first | (go_at_call 12; refine CALL.out.mono ?_; rintro e w3 ⟨rfl, s3, o3⟩))
          have K3 := Lib.hid ((HKE.out.fresh (below_drewN wr wr.heap.size 1)).same s3 o3 (fun _ h => h))
          clear s3 o3 e0 e1 e2 e3 e4 e5
          go_wp2_with fail
          go_roundw
          case rel => exact ⟨k + 1, by omega, by go_num, _, _, _, _, K3.out⟩
          case measure => simp [RowKit.intOf]; omega
        cases ok with
        | false =>
          replace CALL : Hid (Calls Tryd.prog 12 _ _ (StorePost c 400 (k + 1) os.length L 3 wr.drew)) := CALL
          clear hx hxi hR hok
          go_wp2_with fail
          go_region_held3 (fun w' => w'.cell? ⟨b, off + k * 6 + 1, none⟩ = some (.int .i64 qi) ∧ w'.cell? ⟨b, off + k * 6 + 2, none⟩ = some (.int .i64 qo.c) ∧ w'.cell? ⟨b, off + k * 6 + 2 + 1, none⟩ = some (.int .i64 qo.k) ∧ w'.cell? ⟨b, off + k * 6 + 2 + 2, none⟩ = some (.slice a1 qo.w.length f1) ∧ w'.cell? ⟨b, off + k * 6 + 2 + 3, none⟩ = some (.slice a2 qo.b.length f2)) (first | go_keep | (exact HKQ.out _ o3)) (first | (go_at_call 12; refine CALL.out.mono ?_; rintro e w3 ⟨rfl, s3, o3⟩))
          have K3 := Lib.hid ((HKE.out.fresh (below_drewN wr wr.heap.size 1)).same s3 o3 (fun _ h => h))
          clear s3 o3 e0 e1 e2 e3 e4 e5
          go_wp2_with fail
          go_roundw
          case rel => exact ⟨k + 1, by omega, by go_num, _, _, _, _, K3.out⟩
          case measure => simp [RowKit.intOf]; omega
        | true =>
          replace CALL : Hid (Calls Tryd.prog 12 _ _ (StorePost c 400 (k + 1) os.length (setE L x.id qo sa) 0 wr.drew)) := CALL
          have HX := Lib.hid hx
          have HOK := Lib.hid hok
          obtain ⟨j, hj⟩ : ∃ j : Nat, x.id = j + 1 := ⟨x.id - 1, by have := (HKE.out.kp x hx).1; omega⟩
          have HJ := Lib.hid hj
          have hqi : qi = (j : Int) + 1 := by omega
          have HQI := Lib.hid hqi
          have hjl : j < os.length := by
            have := (List.getElem?_eq_some_iff.1 (HKE.out.kp x hx).2).1
            omega
          obtain ⟨g, cap, hv, hcap, hqg, _⟩ := HKE.out.last.row (by omega)
          injection hv with hv1 hv2 hv3
          subst hv1 hv3
          have hq1 : decide (qi < 1) = false := decide_eq_false (by omega)
          have hq2 : decide ((os.length : Int) < qi) = false := decide_eq_false (by omega)
          clear hx hxi hR hok hj hv2 hcap hqi
          go_wp2_with fail
          go_region_held3 (fun w' => w'.cell? ⟨b, off + k * 6 + 1, none⟩ = some (.int .i64 qi) ∧ w'.cell? ⟨b, off + k * 6 + 2, none⟩ = some (.int .i64 qo.c) ∧ w'.cell? ⟨b, off + k * 6 + 2 + 1, none⟩ = some (.int .i64 qo.k) ∧ w'.cell? ⟨b, off + k * 6 + 2 + 2, none⟩ = some (.slice a1 qo.w.length f1) ∧ w'.cell? ⟨b, off + k * 6 + 2 + 3, none⟩ = some (.slice a2 qo.b.length f2)) (first | go_keep | (exact HKQ.out _ o3)) (first | (go_at_call 12; refine CALL.out.mono ?_; rintro e w3 ⟨rfl, s3, o3⟩))
          have S3 := Lib.hid s3
          have O3 := Lib.hid o3
          have C3 := HKQ.out _ o3
          have B3 : Hid (Below W.heap.size W w3) := (KE.out _ _ HKE.out.below (below_drewN wr _ 1)).trans (o3.below (fun i hi hf => by have := hf.1; have := HKE.out.lo; omega) (KE.out _ _ HKE.out.below (below_drewN wr _ 1)).size)
          have KD : Hid (KeAt c W k os.length L os xs (.slice (some ⟨g, 0, none⟩) os.length cp0) wr.drew) := HKE.out.fresh (below_drewN wr wr.heap.size 1)
          clear s3 o3 e0 e1 e2 e3 e4 e5
          obtain ⟨e1, e2, e3, e4, e5⟩ := C3
          have HKR : Hid (∀ w5, Below W.heap.size W w5 → (fun w' => w'.cell? ⟨b, off + k * 6 + 1, none⟩ = some (.int .i64 qi) ∧ w'.cell? ⟨b, off + k * 6 + 2, none⟩ = some (.int .i64 qo.c) ∧ w'.cell? ⟨b, off + k * 6 + 2 + 1, none⟩ = some (.int .i64 qo.k) ∧ w'.cell? ⟨b, off + k * 6 + 2 + 2, none⟩ = some (.slice a1 qo.w.length f1) ∧ w'.cell? ⟨b, off + k * 6 + 2 + 3, none⟩ = some (.slice a2 qo.b.length f2)) w5) := fun w5 o => by
            obtain ⟨_, h1, h2, h3, h4, h5, _⟩ := HAT.out w5 o
            exact ⟨h1, h2, h3, h4, h5⟩
          have B3D : Hid (Below W.heap.size W w3.drew) := KE.out _ _ B3.out (below_drewN w3 _ 1)
          have HG : Hid (W.heap.size ≤ g) := Lib.hid (by have := HKE.out.lo; have := lo_q HKE.out.sec; have := (HKE.out.last.own.lt g rfl).1; omega)
          have CP := Lib.hid (refcopy_any _ qo w3.drew (HAT.out w3.drew (KE.out _ _ B3.out (below_drewN w3 _ 1))).2.2.2.2.2.2 (by have := (ok_short HOK.out).1; omega) (by have := (ok_short HOK.out).2; omega))
          have LD : Hid (LastX c w3.drew (.slice (some ⟨g, 0, none⟩) os.length cp0) os xs) := (KD.out.last.only O3.out (fun _ h => h)).fresh (below_drewN w3 _ 1)
          have HJX : Hid (os[j]? = some x.o) := Lib.hid (by have := (HKE.out.kp x HX.out).2; rwa [HJ.out] at this)
          go_wp2_with fail
          have hb1 : (0 : Int) ≤ qi - 1 := by have := HQI.out; omega
          have hb2 : qi - 1 < (os.length : Int) := by have := HQI.out; omega
          have hb3 : (qi - 1).toNat = j := by have := HQI.out; omega
          have hb4 : IntKind.i64.wrap (qi - 1) = qi - 1 := by rw [IntKind.wrap_i64]; omega
          have hb6 : 1 ≤ qi := by have := HQI.out; omega
          have hb7 : qi ≤ (os.length : Int) := by have := HQI.out; omega
          have hb8 : qi < (os.length : Int) + 1 := by have := HQI.out; omega
          have hb9 : qi ≤ 2000000000000 := by have := HQI.out; omega
          have hb5 : wrap64 (qi - 1) = qi - 1 := IntWalk.wrap64_in _ (by omega)
          go_region_held3 (fun w' => w'.cell? ⟨b, off + k * 6 + 1, none⟩ = some (.int .i64 qi) ∧ w'.cell? ⟨b, off + k * 6 + 2, none⟩ = some (.int .i64 qo.c) ∧ w'.cell? ⟨b, off + k * 6 + 2 + 1, none⟩ = some (.int .i64 qo.k) ∧ w'.cell? ⟨b, off + k * 6 + 2 + 2, none⟩ = some (.slice a1 qo.w.length f1) ∧ w'.cell? ⟨b, off + k * 6 + 2 + 3, none⟩ = some (.slice a2 qo.b.length f2)) (first | go_keep | (refine HKR.out _ ?_; first | exact KE.out _ _ B3D.out b4 | exact (((((KE.out _ _ B3D.out b4).setCell (p := ⟨g, j * 4, none⟩) HG.out _).setCell (p := ⟨g, j * 4 + 1, none⟩) HG.out _).setCell (p := ⟨g, j * 4 + 2, none⟩) HG.out _).setCell (p := ⟨g, j * 4 + 3, none⟩) HG.out _))) (first | (go_at_call 11; refine CP.out.mono ?_; rintro e w4 ⟨p1, r1, p2, r2, rfl, oi4, b4⟩; have L4 := Lib.hid (LD.out.fresh b4); obtain ⟨_, _, _, _, y0, y1, y2, y3, _⟩ := L4.out.cells HJX.out; have z0 := L4.out.own.frozenAt (j * 4); have z1 := L4.out.own.frozenAt (j * 4 + 1); have z2 := L4.out.own.frozenAt (j * 4 + 2); have z3 := L4.out.own.frozenAt (j * 4 + 3)))
          have KP := Lib.hid (KD.out.put HX.out (S3.out.fresh (below_drewN w3 _ 1)) (O3.out.then_ (Only.of_below (below_drewN w3 w3.heap.size 1)) (fun _ _ h => h)) oi4 b4 HOK.out j (by have := HJ.out; omega))
          clear oi4 b4 y0 y1 y2 y3 z0 z1 z2 z3 e1 e2 e3 e4 e5
          go_wp2_with fail
          go_roundw
          case rel => exact ⟨k + 1, by omega, by go_num, KP.out⟩
          case measure => simp [RowKit.intOf]; omega
      by_cases hk4 : qk = 4
      · subst hk4
        obtain ⟨t, L', is, call⟩ := drop_gen c 400 k os.length L qi HWI.out wr HKE.out.sec
        have CALL := Lib.hid call
        have HSUB : Hid (∀ e ∈ L', e ∈ L) := by
          rcases is with ⟨_, _, rfl⟩ | ⟨_, _, rfl⟩
          · exact fun e he => (mem_dropE.1 he).1
          · exact fun e he => he
        clear is call
        go_wp2_with fail
        refine CALL.out.mono ?_
        rintro e w3 ⟨rfl, s3, o3⟩
        have K3 := Lib.hid (HKE.out.same s3 o3 HSUB.out)
        clear s3 o3 e0 e1 e2 e3 e4 e5
        go_wp2_with fail
        go_roundw
        case rel => exact ⟨k + 1, by omega, by go_num, _, _, _, _, K3.out.mono (Nat.le_succ k)⟩
        case measure => simp [RowKit.intOf]; omega
      · have h1 : (qk == 1) = false := by simpa using hk1
        have h3 : (qk == 3) = false := by simpa using hk3
        have h4 : (qk == 4) = false := by simpa using hk4
        clear hk1 hk3 hk4
        go_wp2_with fail
        go_roundw
        case rel => exact ⟨k + 1, by omega, by go_num, _, _, _, _, HKE.out.mono (Nat.le_succ k)⟩
        case measure => simp [RowKit.intOf]; omega
    · have hlk : ¬ (k : Int) < ds.length := by omega
      have HU : Hid (k ≤ 2000000000000) := Lib.hid (by have := HDL.out; omega)
      have SAY : Hid (∀ (N M : Nat → Prop) (v1 v2 : Value) (us : List Int) (w' : World), Ints N w' v1 us → Ints M w' v2 us → us.length ≤ 1000000 → Calls Tryd.prog 17 #[v1, v2] w' fun e w'' => e = .returned (.bool true) ∧ Below w'.heap.size w' w'') := fun N M v1 v2 us w' h1 h2 hl => (Wd.sameInts_any v1 v2 us us w' (wd_of h1) (wd_of h2) hl).mono fun e w'' h => by
        have := h.below
        simpa using this
      have HLI : Hid ((idsE L).length ≤ 20000) := Lib.hid (by have h1 := hke.sec.len; have h2 : (idsE L).length = L.length := List.length_map _; omega)
      have hli : ((idsE L).length : Int) ≤ 20000 := by have := HLI.out; omega
      have KF : Hid (∀ w' w'' : World, Below W.heap.size W w' → Only c.F w' w'' → Below W.heap.size W w'') := fun w' w'' h o => h.trans (o.below (fun i hi hf => by have := hf.1; have := HKE.out.lo; omega) h.size)
      clear hke hlt hcp
      go_wp2_with fail
      refine (ids_any c 400 k os.length L wr HKE.out.sec).mono ?_
      rintro e w8 ⟨v8, rfl, own8, s8, b8⟩
      have K8 : Hid (KeAt c W k os.length L os xs _ w8) := HKE.out.fresh b8
      have I8 : Hid (Ints (fun b => ¬ c.F b) w8 v8 (idsE L)) := Vals.kind (ints_own own8) (fun b _ hb => F_lt HKE.out.sec hb)
      obtain ⟨a8, c8, rfl, _⟩ := Wd.own_room own8
      clear own8 s8 b8
      go_wp2_with fail
      go_loopw [10] (fun i wx => ∃ j : Nat, j ≤ (idsE L).length ∧ i = .int .i64 j ∧ KeAt c W (k + j) os.length L os xs (.slice a0 os.length cp0) wx ∧ Ints (fun b => ¬ c.F b) wx (.slice a8 (idsE L).length c8) (idsE L)) (fun i _ => (idsE L).length - (RowKit.intOf i).toNat)
      case atStart => exact ⟨0, Nat.zero_le _, rfl, K8.out, I8.out⟩
      case round =>
        obtain ⟨j, hj, rfl, hk9, hi9⟩ := hrel
        have K9 := Lib.hid hk9
        have I9 := Lib.hid hi9
        by_cases hlt2 : j < (idsE L).length
        · obtain ⟨b, off, c', he, _, hnb, hbl, h1⟩ := Vals.at_ (k := j) hi9 (by rw [List.length_map]; exact hlt2)
          injection he with e1 e2 e3
          subst e1 e3
          rw [List.getElem_map] at h1
          clear e2
          obtain ⟨x, hx, hxe⟩ := List.mem_map.1 (List.getElem_mem hlt2)
          rw [← hxe] at h1
          have hkp := hk9.kp x hx
          obtain ⟨q, hq⟩ : ∃ q : Nat, x.id = q + 1 := ⟨x.id - 1, by omega⟩
          have HQX : Hid (os[q]? = some x.o) := Lib.hid (by have := hkp.2; rwa [hq] at this)
          have hql : q < os.length := (List.getElem?_eq_some_iff.1 HQX.out).1
          have HOK := Lib.hid (hk9.sec.good.ok x hx)
          have CALL := Lib.hid (fetch_yes c 400 (k + j) os.length L x wr hk9.sec hx (by have := HU.out; have := HLI.out; omega))
          obtain ⟨y, hy⟩ : ∃ y : Int, (x.id : Int) = y := ⟨_, rfl⟩
          rw [hy] at h1 CALL
          have HQI : Hid (y = (q : Int) + 1) := Lib.hid (by omega)
          have HQL := Lib.hid hql
          obtain ⟨g, cap, hv, hcap, hqg, hgl⟩ := hk9.last.row (by omega)
          injection hv with hv1 hv2 hv3
          subst hv1 hv3
          have HJ : Hid (j < (idsE L).length) := hlt2
          have HKQ : Hid (∀ w', Only c.F wr w' → w'.cell? ⟨b, off + j, none⟩ = some (.int .i64 y)) := fun w' o => (o.cell (p := ⟨b, _, none⟩) hbl hnb).trans h1
          clear hk9 hi9 hkp hq hql hy hv2 hcap hxe
          go_wp2_with fail
          refine CALL.out.mono ?_
          rintro e w3 ⟨v3, rfl, oi3, s3, o3⟩
          obtain ⟨p1, r1, p2, r2, rfl⟩ := oi3.form
          have K3 : Hid (KeAt c W (k + (j + 1)) os.length L os xs (.slice (some ⟨g, 0, none⟩) os.length cp0) w3) := K9.out.same s3 o3 (fun _ h => h)
          have I3 : Hid (Ints (fun b => ¬ c.F b) w3 (.slice (some ⟨b, off, none⟩) (idsE L).length c8) (idsE L)) := Vals.only I9.out o3 (fun b hb hf => hb hf)
          have h3 := HKQ.out _ o3
          have H3 := Lib.hid h3
          have OI3 := Lib.hid oi3
          have HBL : Hid (b < w3.heap.size) := Nat.lt_of_lt_of_le hbl o3.size
          have HGL : Hid (g < w3.heap.size) := Nat.lt_of_lt_of_le hgl o3.size
          have BX := Lib.hid (Wd.box_new w3 (.int .i64 0) (.int .i64 0) (.slice none 0 0) (.slice none 0 0))
          obtain ⟨⟨x0, x1, x2, x3⟩, xf, _⟩ := BX.out
          have xf0 := xf 0
          have xf1 := xf 1
          have xf2 := xf 2
          have xf3 := xf 3
          clear xf s3 o3 oi3 h1 hbl hnb hgl
          go_wp2_with fail
          obtain ⟨p, hp⟩ : ∃ p, w3.heap.size = p := ⟨_, rfl⟩
          have HP := Lib.hid hp
          clear x0 x1 x2 x3 xf0 xf1 xf2 xf3 h3 BX
          obtain ⟨wX, hwX⟩ : ∃ wX, wX = w3.alloc (.cells #[.int .i64 x.o.c, .int .i64 x.o.k, .slice p1 x.o.w.length r1, .slice p2 x.o.b.length r2] 33) := ⟨_, rfl⟩
          have YB := Lib.hid (Wd.box_new w3 (.int .i64 x.o.c) (.int .i64 x.o.k) (.slice p1 x.o.w.length r1) (.slice p2 x.o.b.length r2))
          have BW : Hid (Below w3.heap.size w3 (w3.alloc (.cells #[.int .i64 x.o.c, .int .i64 x.o.k, .slice p1 x.o.w.length r1, .slice p2 x.o.b.length r2] 33))) := (Below.refl _ _).alloc (Nat.le_refl _) _
          rw [← hwX] at YB BW ⊢
          rw [hp] at YB ⊢
          have KX : Hid (KeAt c W (k + (j + 1)) os.length L os xs (.slice (some ⟨g, 0, none⟩) os.length cp0) wX) := K3.out.fresh BW.out
          have IX : Hid (Ints (fun b => ¬ c.F b) wX (.slice (some ⟨b, off, none⟩) (idsE L).length c8) (idsE L)) := Vals.only I3.out (F := fun _ => False) (Only.of_below BW.out) (fun _ _ h => h)
          obtain ⟨n1, t1, n2, t2, m0, m1, m2, m3, hob2⟩ := KX.out.last.cells HQX.out
          have HK6 : Hid (∀ w', Below wX.heap.size wX w' → (fun w' => w'.cell? ⟨b, off + j, none⟩ = some (.int .i64 y) ∧ w'.cell? ⟨p, 0, none⟩ = some (.int .i64 x.o.c) ∧ w'.cell? ⟨p, 1, none⟩ = some (.int .i64 x.o.k) ∧ w'.cell? ⟨p, 2, none⟩ = some (.slice p1 x.o.w.length r1) ∧ w'.cell? ⟨p, 3, none⟩ = some (.slice p2 x.o.b.length r2) ∧ w'.cell? ⟨g, q * 4, none⟩ = some (.int .i64 x.o.c) ∧ w'.cell? ⟨g, q * 4 + 1, none⟩ = some (.int .i64 x.o.k) ∧ w'.cell? ⟨g, q * 4 + 2, none⟩ = some (.slice n1 x.o.w.length t1) ∧ w'.cell? ⟨g, q * 4 + 3, none⟩ = some (.slice n2 x.o.b.length t2)) w') := fun w' o => by
            have hgX : g < wX.heap.size := Nat.lt_of_lt_of_le HGL.out BW.out.size
            have hbX : b < wX.heap.size := Nat.lt_of_lt_of_le HBL.out BW.out.size
            have hpX : p < wX.heap.size := YB.out.2.2
            obtain ⟨⟨q0, q1, q2, q3⟩, _, _⟩ := YB.out
            exact ⟨(o.cell (p := ⟨b, _, none⟩) hbX).trans ((BW.out.cell (p := ⟨b, _, none⟩) HBL.out).trans H3.out), (o.cell (p := ⟨p, _, none⟩) hpX).trans q0, (o.cell (p := ⟨p, _, none⟩) hpX).trans q1, (o.cell (p := ⟨p, _, none⟩) hpX).trans q2, (o.cell (p := ⟨p, _, none⟩) hpX).trans q3,
              (o.cell (p := ⟨g, _, none⟩) hgX).trans m0, (o.cell (p := ⟨g, _, none⟩) hgX).trans m1, (o.cell (p := ⟨g, _, none⟩) hgX).trans m2, (o.cell (p := ⟨g, _, none⟩) hgX).trans m3⟩
          have SM : Hid (Calls Tryd.prog 16 #[.agg #[.int .i64 x.o.c, .int .i64 x.o.k, .slice p1 x.o.w.length r1, .slice p2 x.o.b.length r2], .agg #[.int .i64 x.o.c, .int .i64 x.o.k, .slice n1 x.o.w.length t1, .slice n2 x.o.b.length t2]] wX.drew fun e w'' => e = .returned (.bool true) ∧ Below wX.drew.heap.size wX.drew w'') := by
            have hsh : Wd.Short x.o := ⟨by have := (ok_short HOK.out).1; omega, by have := (ok_short HOK.out).2; omega⟩
            have := Wd.same_ref _ _ _ _ wX.drew ((OI3.out.fresh BW.out).at_.kept (below_drewN wX _ 1)) (hob2.kept (below_drewN wX _ 1)) hsh hsh
            unfold Wd.SamePost at this
            rw [Wd.sameO_self] at this
            exact this
          obtain ⟨e0, x0, x1, x2, x3, z0, z1, z2, z3⟩ := HK6.out wX (Below.refl _ _)
          clear m0 m1 m2 m3 hob2 hp hwX
          have hq1 : decide (y < 1) = false := decide_eq_false (by have := HQI.out; omega)
          have hq2 : decide ((os.length : Int) < y) = false := decide_eq_false (by have := HQI.out; have := HQL.out; omega)
          have hb1 : (0 : Int) ≤ y - 1 := by have := HQI.out; omega
          have hb2 : y - 1 < (os.length : Int) := by have := HQI.out; have := HQL.out; omega
          have hb3 : (y - 1).toNat = q := by have := HQI.out; omega
          have hb4 : IntKind.i64.wrap (y - 1) = y - 1 := by rw [IntKind.wrap_i64]; omega
          have hb6 : 1 ≤ y := by have := HQI.out; omega
          have hb7 : y ≤ (os.length : Int) := by have := HQI.out; have := HQL.out; omega
          have hb8 : y < (os.length : Int) + 1 := by have := HQI.out; have := HQL.out; omega
          have hb9 : y ≤ 2000000000000 := by omega
          have hb5 : wrap64 (y - 1) = y - 1 := IntWalk.wrap64_in _ (by omega)
          go_region_held3 (fun w' => w'.cell? ⟨b, off + j, none⟩ = some (.int .i64 y) ∧ w'.cell? ⟨p, 0, none⟩ = some (.int .i64 x.o.c) ∧ w'.cell? ⟨p, 1, none⟩ = some (.int .i64 x.o.k) ∧ w'.cell? ⟨p, 2, none⟩ = some (.slice p1 x.o.w.length r1) ∧ w'.cell? ⟨p, 3, none⟩ = some (.slice p2 x.o.b.length r2) ∧ w'.cell? ⟨g, q * 4, none⟩ = some (.int .i64 x.o.c) ∧ w'.cell? ⟨g, q * 4 + 1, none⟩ = some (.int .i64 x.o.k) ∧ w'.cell? ⟨g, q * 4 + 2, none⟩ = some (.slice n1 x.o.w.length t1) ∧ w'.cell? ⟨g, q * 4 + 3, none⟩ = some (.slice n2 x.o.b.length t2)) (first | go_keep | (exact HK6.out _ ((below_drewN wX _ 1).trans b6))) (first | (go_at_call 16; refine SM.out.mono ?_; rintro e w6 ⟨rfl, b6⟩))
          have K6 : Hid (KeAt c W (k + (j + 1)) os.length L os xs (.slice (some ⟨g, 0, none⟩) os.length cp0) w6) := KX.out.fresh ((below_drewN wX _ 1).trans b6)
          have I6 : Hid (Ints (fun b => ¬ c.F b) w6 (.slice (some ⟨b, off, none⟩) (idsE L).length c8) (idsE L)) := Vals.only IX.out (F := fun _ => False) (Only.of_below ((below_drewN wX wX.heap.size 1).trans b6)) (fun _ _ h => h)
          clear b6 e0 x0 x1 x2 x3 z0 z1 z2 z3 hq1 hq2 hb1 hb2 hb3 hb4 hb5 hb6 hb7 hb8 hb9
          go_wp2_with fail
          go_roundw
          case rel => exact ⟨j + 1, by have := HJ.out; omega, by go_num, K6.out, I6.out⟩
          case measure => have := HJ.out; simp [RowKit.intOf]; omega
        · have hlj : ¬ (j : Int) < ((idsE L).length : Int) := by omega
          have S9 : Hid (SecAt wr c 400 (k + 20000) os.length L) := hk9.sec.mono (by have := HLI.out; omega)
          have B9 := Lib.hid hk9.below
          have G9 := Lib.hid hk9.sec.good
          clear hk9 hi9 hlt2 K9
          go_wp2_with fail
          refine (near_any c 400 _ os.length L _ (idsE L) wr S9.out I9.out (ids_w64 S9.out.good S9.out.few) (by have := HLI.out; omega) (by have := HU.out; omega)).mono ?_
          rintro e w11 ⟨v11, us, rfl, is11, own11, s11, o11⟩
          obtain rfl : us = idsE L := near_all G9.out is11
          have S11 := Lib.hid s11
          have B11 := Lib.hid (KF.out _ _ B9.out o11)
          have Y11 := Lib.hid (ints_own own11)
          have I11 : Hid (Ints (fun b => ¬ c.F b) w11 _ (idsE L)) := Vals.only I9.out o11 (fun b hb hf => hb hf)
          obtain ⟨a11, c11, rfl, _⟩ := Wd.own_room own11
          clear own11 s11 o11 is11
          go_wp2_with fail
          refine (SAY.out _ _ _ _ (idsE L) w11 Y11.out I11.out (by have := HLI.out; omega)).mono ?_
          rintro e w12 ⟨rfl, b12⟩
          have S12 := Lib.hid (S11.out.fresh b12)
          have B12 := Lib.hid (KE.out _ _ B11.out b12)
          have I12 : Hid (Ints (fun b => ¬ c.F b) w12 _ (idsE L)) := Vals.only I11.out (F := fun _ => False) (Only.of_below b12) (fun _ _ h => h)
          clear b12
          go_wp2_with fail
          refine (near_any c 400 _ os.length L (.slice none 0 0) [] w12 S12.out ⟨none, 0, rfl, Nat.le_refl _, .inl rfl⟩ (fun y hy => by cases hy) (by simp) (by have := HU.out; omega)).mono ?_
          rintro e w13 ⟨v13, us, rfl, is13, own13, s13, o13⟩
          obtain rfl := near_nil is13
          have S13 := Lib.hid s13
          have B13 := Lib.hid (KF.out _ _ B12.out o13)
          have I13 : Hid (Ints (fun b => ¬ c.F b) w13 _ (idsE L)) := Vals.only I12.out o13 (fun b hb hf => hb hf)
          obtain ⟨a13, c13, rfl, _⟩ := Wd.own_room own13
          clear own13 s13 o13 is13
          go_wp2_with (at_builtin; refine append_ints rfl _ _ rfl w13.heap.size (.slice none 0 0) [] rfl (World.ownsRow_nil _ _ _ _) _ (idsE L) rfl (wd_of I13.out) ?c1 (Nat.le_refl _) ?_)
          all_goals (try (case c1 => have := HLI.out; (try simp only [List.length_nil]); omega))
          intro v14 w14 own14 b14
          try rw [List.nil_append] at own14
          obtain ⟨a14, c14, rfl, _⟩ := Wd.own_room own14
          have OWN14 := Lib.hid own14
          have BB14 := Lib.hid b14
          have I14 : Hid (Ints (fun b => ¬ c.F b) w14 _ (idsE L)) := Vals.only I13.out (F := fun _ => False) (Only.of_below b14) (fun _ _ h => h)
          clear own14 b14
          go_wp2_with (at_builtin; refine append_ints rfl _ _ rfl w13.heap.size _ (idsE L) rfl OWN14.out _ (idsE L) rfl (wd_of I14.out) ?c1 ?c2 ?_)
          all_goals (try (case c1 => have := HLI.out; omega))
          all_goals (try (case c2 => exact BB14.out.size))
          intro v15 w15 own15 b15
          have BB15 : Hid (Below w13.heap.size w13 w15) := BB14.out.trans b15
          have own16 : w15.ownsRow w13.heap.size 3 1 v15 (idsE L ++ idsE L).length ((idsE L ++ idsE L).map (Value.int .i64)) := by
            first | exact own15 | (rw [List.length_append, List.map_append]; exact own15)
          have V15 : Hid (Ints (fun b => ¬ c.F b) w15 v15 (idsE L ++ idsE L)) := Vals.kind (ints_own own16) (fun b _ hb => F_lt S13.out hb)
          have S15 := Lib.hid (S13.out.fresh BB15.out)
          have B15 := Lib.hid (KE.out _ _ B13.out BB15.out)
          have I15 : Hid (Ints (fun b => ¬ c.F b) w15 _ (idsE L)) := Vals.only I13.out (F := fun _ => False) (Only.of_below BB15.out) (fun _ _ h => h)
          obtain ⟨a15, c15, rfl, _⟩ := Wd.own_room own15
          clear own15 own16 b15 OWN14 BB14
          by_cases hz : (idsE L).length = 0
          · have hzi : ((idsE L).length : Int) = 0 := by omega
            have hzd : decide ((0 : Int) < ((idsE L).length : Int)) = false := decide_eq_false (by omega)
            go_wp2_with fail
            have I15z : Hid (Ints (fun b => ¬ c.F b) w15 (.slice a8 0 c8) (idsE L)) := Lib.hid (by have := I15.out; rwa [hz] at this)
            refine (drop_every c 400 _ os.length L (.slice a8 0 c8) w15 S15.out I15z.out HLI.out).mono ?_
            rintro e w17 ⟨rfl, s17, o17⟩
            have S17 := Lib.hid s17
            have B17 := Lib.hid (KF.out _ _ B15.out o17)
            clear s17 o17
            go_wp2_with fail
            refine (used_none c 400 _ os.length w17 S17.out).mono ?_
            rintro e w18 ⟨rfl, s18, b18⟩
            have S18 := Lib.hid s18
            have B18 := Lib.hid (KE.out _ _ B17.out b18)
            clear s18 b18
            go_wp2_with fail
            refine (ids_none c 400 _ os.length w18 S18.out).mono ?_
            rintro e w19 ⟨a19, c19, rfl, s19, b19⟩
            have S19 := Lib.hid s19
            have B19 := Lib.hid (KE.out _ _ B18.out b19)
            clear s19 b19
            go_wp2_with fail
            refine (made_any c 400 _ os.length [] w19 S19.out).mono ?_
            rintro e w20 ⟨rfl, rfl⟩
            go_wp2_with fail
            refine (KN.out w19 B19.out).mono ?_
            rintro e w21 ⟨rfl, b21⟩
            go_wp2
            (try rw [Exit.noGoto_ret])
            go_ret
            exact ⟨rfl, b21⟩
          · have hzd : decide ((0 : Int) < ((idsE L).length : Int)) = true := decide_eq_true (by omega)
            have NOK : Hid (¬ okIds L (idsE L ++ idsE L)) := fun h => by
              have h2 := (List.nodup_append.1 h.2).2.2
              obtain ⟨y, hy⟩ := List.exists_mem_of_length_pos (l := idsE L) (by omega)
              exact h2 y hy y hy rfl
            have hz2 : 0 < (idsE L).length := by omega
            go_wp2_with fail
            refine (drop_bad c 400 _ os.length L _ (idsE L ++ idsE L) w15 S15.out V15.out (fun y hy => (List.mem_append.1 hy).elim (ids_w64 S15.out.good S15.out.few y) (ids_w64 S15.out.good S15.out.few y)) (by rw [List.length_append]; have := HLI.out; omega) NOK.out).mono ?_
            rintro e w16 ⟨rfl, s16, o16⟩
            have S16 := Lib.hid s16
            have B16 := Lib.hid (KF.out _ _ B15.out o16)
            have I16 : Hid (Ints (fun b => ¬ c.F b) w16 _ (idsE L)) := Vals.only I15.out o16 (fun b hb hf => hb hf)
            clear s16 o16
            go_wp2_with fail
            refine (drop_every c 400 _ os.length L _ w16 S16.out I16.out HLI.out).mono ?_
            rintro e w17 ⟨rfl, s17, o17⟩
            have S17 := Lib.hid s17
            have B17 := Lib.hid (KF.out _ _ B16.out o17)
            clear s17 o17
            go_wp2_with fail
            refine (used_none c 400 _ os.length w17 S17.out).mono ?_
            rintro e w18 ⟨rfl, s18, b18⟩
            have S18 := Lib.hid s18
            have B18 := Lib.hid (KE.out _ _ B17.out b18)
            clear s18 b18
            go_wp2_with fail
            refine (ids_none c 400 _ os.length w18 S18.out).mono ?_
            rintro e w19 ⟨a19, c19, rfl, s19, b19⟩
            have S19 := Lib.hid s19
            have B19 := Lib.hid (KE.out _ _ B18.out b19)
            clear s19 b19
            go_wp2_with fail
            refine (made_any c 400 _ os.length [] w19 S19.out).mono ?_
            rintro e w20 ⟨rfl, rfl⟩
            go_wp2_with fail
            refine (KN.out w19 B19.out).mono ?_
            rintro e w21 ⟨rfl, b21⟩
            go_wp2
            (try rw [Exit.noGoto_ret])
            go_ret
            exact ⟨rfl, b21⟩
end Go.Proofs.YtapjeilfkpfllaaDoor
