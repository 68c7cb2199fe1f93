/- The walk of the law SecondNear. -/
import Derived.Test.YtapjeilfkpfllaaDoorSGn
namespace Go.Proofs.YtapjeilfkpfllaaDoor
set_option maxRecDepth 1000000
open Go.ChangeShapes Go.WideShapes Go.ChangeAt Go.RowKit
open Wd (Ob okO encO refsO ObjAt In64 I64)

/-- Behind k things done. -/
def NeInv (c : Sc) (W : World) (k : Nat) (wr : World) : Prop := ∃ m L, SecAt wr c 400 k m L ∧ Below W.heap.size W wr

theorem wd_of {N : Nat → Prop} {w : World} {v : Value} {xs : List Int} (h : Ints N w v xs) : Wd.Ints w v xs := by
  obtain ⟨a, c, rfl, hc, h⟩ := h
  refine ⟨a, c, by rw [List.length_map], ?_⟩
  rcases h with h | ⟨b, off, rfl, _, h⟩
  · exact .inl (List.map_eq_nil_iff.1 h)
  · refine .inr ⟨b, off, rfl, fun i hi => h i _ ?_⟩
    rw [List.getElem?_map, List.getElem?_eq_getElem hi]
    simp [List.getD, List.getElem?_eq_getElem hi]
theorem ints_own {w : World} {base : Nat} {v : Value} {ys : List Int} (h : w.ownsRow base 3 1 v ys.length (ys.map (Value.int .i64))) : Ints (base ≤ ·) w v ys := Vals.of_own (by rw [List.length_map]; exact h)

set_option maxHeartbeats 8000000 in
theorem near_walk (W : World) (hT : Tab W) (h0 : 0 < W.heap.size) (v : Value) (ds : List Dd) (hv : Dos W v ds) (va : Value) (xa : List Int) (ha : Ints (· < W.heap.size) W va xa ∧ (∀ y ∈ xa, W64 y) ∧ xa.length ≤ 20000000000000)
    (vb : Value) (xb : List Int) (hb : Ints (· < W.heap.size) W vb xb ∧ (∀ y ∈ xb, W64 y) ∧ xb.length ≤ 20000000000000) :
    Calls Tryd.prog 5 #[v, va, vb] W fun e w' => e = .returned (.bool true) ∧ Below W.heap.size W w' := by
  have HV := Lib.hid hv
  have HA := Lib.hid ha
  have HB := Lib.hid hb
  have hal : (xa.length : Int) ≤ 20000000000000 := by have := ha.2.2; omega
  have hbl : (xb.length : Int) ≤ 20000000000000 := by have := hb.2.2; omega
  have KN : Hid (∀ w', Below W.heap.size W w' → Calls Tryd.prog 8 #[] w' fun e w'' => e = .returned (.bool true) ∧ Below W.heap.size W w'') := fun w' h =>
    (known_true w' (hT.below h h0) (by have := h.size; omega)).mono fun e w'' ⟨he, hb⟩ => ⟨he, h.trans (hb.mono h.size)⟩
  have HN := Lib.hid (fun w' (h : Below W.heap.size W w') => snew_yes 400 w' (by omega) (hT.below h h0) (by have := h.size; omega))
  have HLG := Lib.hid (long_any v ds W hv)
  have HDL : Hid (ds.length ≤ 2000000000000) := by
    obtain ⟨_, _, _, h, _⟩ := hv
    exact h
  obtain ⟨a, cp, rfl, _, _⟩ := hv
  obtain ⟨aa, ca, rfl, _, _⟩ := ha.1
  obtain ⟨ab, cb, rfl, _, _⟩ := hb.1
  rw [List.length_map, List.length_map] at *
  clear hT h0 ha hb
  go_enter Tryd.func5, Tryd.ntmps5
  go_wp2_with fail
  refine HLG.out.mono ?_
  rintro e w1 ⟨lg, rfl, d1, hw1⟩
  have B1 : Hid (Below W.heap.size W w1) := by rw [hw1]; exact below_drewN _ _ _
  clear hw1 HLG
  by_cases hstop : lg = true ∨ 20 < xa.length + xb.length
  · have hx : ∀ q : World, True := fun _ => trivial
    cases lg with
    | true =>
      clear hstop hx
      go_wp2_with fail
      refine (KN.out w1 B1.out).mono ?_
      rintro e w2 ⟨rfl, b2⟩
      go_wp2
      go_ret
      exact ⟨rfl, b2⟩
    | false =>
      have h20 : decide ((20 : Int) < (xa.length : Int) + (xb.length : Int)) = true := decide_eq_true (by rcases hstop with h | h; cases h; omega)
      clear hstop hx
      go_wp2_with fail
      refine (KN.out w1 B1.out).mono ?_
      rintro e w2 ⟨rfl, b2⟩
      go_wp2
      go_ret
      exact ⟨rfl, b2⟩
  obtain rfl : lg = false := by cases lg; rfl; exact absurd (.inl rfl) hstop
  have h20 : decide ((20 : Int) < (xa.length : Int) + (xb.length : Int)) = false := decide_eq_false (by omega)
  have HL20 : Hid (xa.length + xb.length ≤ 20) := by show _ ≤ _; omega
  clear hstop
  go_wp2_with fail
  refine (show Calls Tryd.prog 9 #[.int .i64 400] _ _ from HN.out w1 B1.out).mono ?_
  rintro e w2 ⟨c, rfl, s2, hlo, b2⟩
  have HLO : Hid (W.heap.size ≤ c.s.lo) := Nat.le_trans B1.out.size hlo
  have I2 : Hid (NeInv c W 0 w2) := ⟨0, [], s2, B1.out.trans (b2.mono B1.out.size)⟩
  have KF : Hid (∀ w' w'' : World, Below W.heap.size W w' → Only c.F w' w'' → Below W.heap.size W w'') := fun w' w'' h o => h.trans (o.below (fun i hi hf => by have := hf.1; have := HLO.out; omega) h.size)
  have KE : Hid (∀ w' w'' : World, Below W.heap.size W w' → Below w'.heap.size w' w'' → Below W.heap.size W w'') := fun w' w'' h o => h.trans (o.mono h.size)
  clear s2 hlo b2 HN h20
  have hdl : (ds.length : Int) ≤ 2000000000000 := by have := HDL.out; omega
  go_wp2_with fail
  go_loopw [9] (fun i wr => ∃ k : Nat, k ≤ ds.length ∧ i = .int .i64 k ∧ NeInv c W k wr) (fun i _ => ds.length - (RowKit.intOf i).toNat)
  case atStart => exact ⟨0, Nat.zero_le _, rfl, I2.out⟩
  case round =>
    obtain ⟨k, hk, rfl, m, L, hs, hbw⟩ := hrel
    by_cases hlt : k < ds.length
    · obtain ⟨b, off, c', he, wk, wi, a1, f1, a2, f2, hat, _, _⟩ := HV.out.at_ hlt
      injection he with g1 g2 g3
      subst g1 g3
      clear g2
      have HAT := Lib.hid hat
      have HS := Lib.hid hs
      have HBW := Lib.hid hbw
      have HWI := Lib.hid wi
      have HKD : Hid (k < ds.length) := hlt
      clear hat hs hbw wk wi
      generalize ds[k] = q at *
      obtain ⟨qk, qi, qo⟩ := q
      dsimp only at HAT HWI
      obtain ⟨e0, e1, e2, e3, e4, e5, _⟩ := HAT.out wr HBW.out
      by_cases hk1 : qk = 1
      · subst hk1
        obtain ⟨id, t, m', L', is, call⟩ := make_any c 400 k m L _ qo wr HS.out (HAT.out wr HBW.out).2.2.2.2.2.2 (by have := HDL.out; omega)
        have CALL := Lib.hid call
        clear is call
        go_wp2_with fail
        refine CALL.out.mono ?_
        rintro e w3 ⟨rfl, s3, o3⟩
        have S3 := Lib.hid s3
        have B3 := Lib.hid (KF.out _ _ HBW.out o3)
        clear s3 o3 e0 e1 e2 e3 e4 e5
        go_wp2_with fail
        go_roundw
        case rel => exact ⟨k + 1, by omega, by go_num, m', L', S3.out, B3.out⟩
        case measure => simp [RowKit.intOf]; omega
      by_cases hk3 : qk = 3
      · subst hk3
        have hs2 := HS.out.fresh (below_drewN wr wr.heap.size 1)
        obtain ⟨t, L', is, call⟩ := store_gen c 400 k m L _ qo qi HWI.out wr.drew hs2 (HAT.out wr.drew (KE.out _ _ HBW.out (below_drewN wr _ 1))).2.2.2.2.2.2 (by have := HDL.out; omega)
        have CALL := Lib.hid call
        have HKQ : Hid (∀ w5, Only c.F wr.drew w5 → w5.cell? ⟨b, off + k * 6 + 1, none⟩ = some (.int .i64 qi) ∧ w5.cell? ⟨b, off + k * 6 + 2, none⟩ = some (.int .i64 qo.c) ∧ w5.cell? ⟨b, off + k * 6 + 2 + 1, none⟩ = some (.int .i64 qo.k) ∧ w5.cell? ⟨b, off + k * 6 + 2 + 2, none⟩ = some (.slice a1 qo.w.length f1) ∧ w5.cell? ⟨b, off + k * 6 + 2 + 3, none⟩ = some (.slice a2 qo.b.length f2)) := fun w5 o => by
          obtain ⟨_, h1, h2, h3, h4, h5, _⟩ := HAT.out w5 (KF.out _ _ (KE.out _ _ HBW.out (below_drewN wr _ 1)) o)
          exact ⟨h1, h2, h3, h4, h5⟩
        clear is call hs2
        go_wp2_with fail
        go_region_held3 (fun w' => w'.cell? ⟨b, off + k * 6 + 1, none⟩ = some (.int .i64 qi) ∧ w'.cell? ⟨b, off + k * 6 + 2, none⟩ = some (.int .i64 qo.c) ∧ w'.cell? ⟨b, off + k * 6 + 2 + 1, none⟩ = some (.int .i64 qo.k) ∧ w'.cell? ⟨b, off + k * 6 + 2 + 2, none⟩ = some (.slice a1 qo.w.length f1) ∧ w'.cell? ⟨b, off + k * 6 + 2 + 3, none⟩ = some (.slice a2 qo.b.length f2)) (first | go_keep | (exact HKQ.out _ o3)) (first | (go_at_call 12; refine CALL.out.mono ?_; rintro e w3 ⟨rfl, s3, o3⟩))
        have S3 := Lib.hid s3
        have B3 := Lib.hid (KF.out _ _ (KE.out _ _ HBW.out (below_drewN wr _ 1)) o3)
        clear s3 o3 e0 e1 e2 e3 e4 e5
        go_wp2_with fail
        go_roundw
        case rel => exact ⟨k + 1, by omega, by go_num, m, L', S3.out, B3.out⟩
        case measure => simp [RowKit.intOf]; omega
      by_cases hk4 : qk = 4
      · subst hk4
        obtain ⟨t, L', is, call⟩ := drop_gen c 400 k m L qi HWI.out wr HS.out
        have CALL := Lib.hid call
        clear is call
        go_wp2_with fail
        refine CALL.out.mono ?_
        rintro e w3 ⟨rfl, s3, o3⟩
        have S3 := Lib.hid s3
        have B3 := Lib.hid (KF.out _ _ HBW.out o3)
        clear s3 o3 e0 e1 e2 e3 e4 e5
        go_wp2_with fail
        go_roundw
        case rel => exact ⟨k + 1, by omega, by go_num, m, L', S3.out.mono (Nat.le_succ k), B3.out⟩
        case measure => simp [RowKit.intOf]; omega
      · have h1 : (qk == 1) = false := by simpa using hk1
        have h3 : (qk == 3) = false := by simpa using hk3
        have h4 : (qk == 4) = false := by simpa using hk4
        clear hk1 hk3 hk4
        go_wp2_with fail
        go_roundw
        case rel => exact ⟨k + 1, by omega, by go_num, m, L, HS.out.mono (Nat.le_succ k), HBW.out⟩
        case measure => simp [RowKit.intOf]; omega
    · have HS := Lib.hid hs
      have HBW := Lib.hid hbw
      have HU : Hid (k ≤ 2000000000000) := Lib.hid (by have := HDL.out; omega)
      have HWA : Hid (∀ w', Below W.heap.size W w' → Ints (fun b => ¬ c.F b) w' (.slice aa xa.length ca) xa) := fun w' h =>
        Vals.kind (Vals.only HA.out.1 (F := fun _ => False) (Only.of_below h) (fun _ _ h => h)) (fun b _ hb hf => by have := hf.1; have := HLO.out; omega)
      have HWB : Hid (∀ w', Below W.heap.size W w' → Ints (fun b => ¬ c.F b) w' (.slice ab xb.length cb) xb) := fun w' h =>
        Vals.kind (Vals.only HB.out.1 (F := fun _ => False) (Only.of_below h) (fun _ _ h => h)) (fun b _ hb hf => by have := hf.1; have := HLO.out; omega)
      have hlk : ¬ (k : Int) < ds.length := by omega
      clear hs hbw hlt
      go_wp2_with (at_builtin; refine append_ints rfl _ _ rfl wr.heap.size (.slice none 0 0) [] rfl (World.ownsRow_nil _ _ _ _) _ xa rfl (wd_of (HWA.out wr HBW.out)) ?c1 (Nat.le_refl _) ?_)
      case c1 => have := HL20.out; (try simp only [List.length_nil]); omega
      intro v3 w3 own3 b3
      try rw [List.nil_append] at own3
      obtain ⟨a3, c3, rfl, _⟩ := Wd.own_room own3
      have OWN3 := Lib.hid own3
      have BB3 := Lib.hid b3
      have B3 := Lib.hid (KE.out _ _ HBW.out b3)
      clear own3 b3
      go_wp2_with (at_builtin; refine append_ints rfl _ _ rfl wr.heap.size _ xa rfl OWN3.out _ xb rfl (wd_of (HWB.out w3 B3.out)) ?c1 ?c2 ?_)
      case c1 => have := HL20.out; omega
      case c2 => exact BB3.out.size
      intro v4 w4 own4 b4
      have BB4 : Hid (Below wr.heap.size wr w4) := BB3.out.trans b4
      have B4 := Lib.hid (KE.out _ _ HBW.out BB4.out)
      have S4 := Lib.hid (HS.out.fresh BB4.out)
      have own5 : w4.ownsRow wr.heap.size 3 1 v4 (xa ++ xb).length ((xa ++ xb).map (Value.int .i64)) := by
        first | exact own4 | (rw [List.length_append, List.map_append]; exact own4)
      have V4 : Hid (Ints (fun b => ¬ c.F b) w4 v4 (xa ++ xb)) := Vals.kind (ints_own own5) (fun b _ hb hf => by have := hf.2; have := HS.out.lt; omega)
      obtain ⟨a4, c4, rfl, _⟩ := Wd.own_room own4
      clear own4 own5 b4 OWN3 BB3 B3 BB4
      go_wp2_with fail
      refine (near_any c 400 k m L _ xa w4 S4.out (HWA.out w4 B4.out) HA.out.2.1 (by have := HL20.out; omega) (by have := HU.out; omega)).mono ?_
      rintro e w5 ⟨v5, xs, rfl, is5, own5, s5, o5⟩
      have X5 := Lib.hid (ints_own own5)
      have S5 := Lib.hid s5
      have B5 := Lib.hid (KF.out _ _ B4.out o5)
      have IS5 := Lib.hid is5
      have V5 : Hid (Ints (fun b => ¬ c.F b) w5 _ (xa ++ xb)) := Vals.only V4.out o5 (fun b hb hf => hb hf)
      obtain ⟨a5, c5, rfl, _⟩ := Wd.own_room own5
      clear own5 s5 o5 is5 V4
      go_wp2_with fail
      refine (near_any c 400 (k + 20000) m L _ (xa ++ xb) w5 S5.out V5.out (fun y hy => (List.mem_append.1 hy).elim (HA.out.2.1 y) (HB.out.2.1 y)) (by rw [List.length_append]; have := HL20.out; omega) (by have := HU.out; omega)).mono ?_
      rintro e w6 ⟨v6, ys, rfl, is6, own6, s6, o6⟩
      have X6 : Hid (Ints (fun b => ¬ c.F b) w6 _ xs) := Vals.only (Vals.kind X5.out (fun b _ hb => F_lt S4.out hb)) o6 (fun b hb hf => hb hf)
      have S6 := Lib.hid s6
      have B6 := Lib.hid (KF.out _ _ B5.out o6)
      have IS6 := Lib.hid is6
      obtain ⟨a6, c6, rfl, _⟩ := Wd.own_room own6
      have HLX : Hid (xs.length ≤ ys.length ∧ ys.length ≤ (idsE L).length) := ⟨near_more IS5.out is6, near_ids is6⟩
      have HLI : Hid ((idsE L).length ≤ 20000) := Lib.hid (by have h1 := S6.out.len; have h2 : (idsE L).length = L.length := List.length_map _; omega)
      clear own6 s6 o6 is6 V5 X5
      go_wp2_with fail
      refine (near_any c 400 (k + 20000 + 20000) m L _ xs w6 S6.out X6.out (near_w64 S6.out.good S6.out.few IS5.out) (by have := HLX.out; have := HLI.out; omega) (by have := HU.out; omega)).mono ?_
      rintro e w7 ⟨v7, zs, rfl, is7, own7, s7, o7⟩
      obtain rfl : zs = xs := near_again IS5.out is7
      have X7 : Hid (Ints (fun b => ¬ c.F b) w7 _ zs) := Vals.only X6.out o7 (fun b hb hf => hb hf)
      have Z7 := Lib.hid (ints_own own7)
      have S7 := Lib.hid s7
      have B7 := Lib.hid (KF.out _ _ B6.out o7)
      obtain ⟨a7, c7, rfl, _⟩ := Wd.own_room own7
      clear own7 s7 o7 is7 X6
      go_wp2_with fail
      refine (ids_any c 400 _ m L w7 S7.out).mono ?_
      rintro e w8 ⟨v8, rfl, own8, s8, b8⟩
      have X8 : Hid (Ints (fun b => ¬ c.F b) w8 _ zs) := Vals.only X7.out (F := fun _ => False) (Only.of_below b8) (fun _ _ h => h)
      have Z8 : Hid (Ints _ w8 _ zs) := Vals.only Z7.out (F := fun _ => False) (Only.of_below b8) (fun _ _ h => h)
      have S8 := Lib.hid s8
      have B8 := Lib.hid (KE.out _ _ B7.out b8)
      have I8 : Hid (Ints (fun b => ¬ c.F b) w8 v8 (idsE L)) := Vals.kind (ints_own own8) (fun b _ hb => F_lt S7.out hb)
      have G8 := Lib.hid s8.good
      obtain ⟨a8, c8, rfl, _⟩ := Wd.own_room own8
      clear own8 s8 b8 X7 Z7
      go_wp2_with fail
      go_loopw [15] (fun i wx => ∃ j : Nat, j ≤ xa.length ∧ i = .int .i64 j ∧ SecAt wx c 400 (k + 20000 + 20000 + 20000) m L ∧ Below w8.heap.size w8 wx) (fun i _ => xa.length - (RowKit.intOf i).toNat)
      case atStart => exact ⟨0, Nat.zero_le _, rfl, S8.out, Below.refl _ _⟩
      case round =>
        obtain ⟨j, hj, rfl, hs, hb⟩ := hrel
        by_cases hlt2 : j < xa.length
        · have KX1 : Hid (∀ w', Below wr.heap.size wr w' → Ints (fun b => ¬ c.F b) w' (.slice a5 zs.length c5) zs) := fun w' h => Vals.only X8.out (F := fun _ => False) (Only.of_below (hb.trans (h.mono hb.size))) (fun _ _ h => h)
          obtain ⟨b, off, c', he, _, _, hbl, h1⟩ := Vals.at_ (k := j) (HWA.out wr (KE.out _ _ B8.out hb)) (by rw [List.length_map]; exact hlt2)
          injection he with e1 e2 e3
          subst e1 e3
          rw [List.getElem_map] at h1
          clear e2
          have hwf := HA.out.2.1 _ (List.getElem_mem hlt2)
          have HNR := Lib.hid (near_root IS5.out (List.getElem_mem hlt2))
          generalize xa[j] = x at h1 hwf HNR
          have KX2 : Hid (∀ w', Below wr.heap.size wr w' → w'.cell? ⟨b, off + j, none⟩ = some (.int .i64 x)) := fun w' h => (h.cell (p := ⟨b, _, none⟩) hbl).trans h1
          have KX3 : Hid (∀ w', Below wr.heap.size wr w' → SecAt w' c 400 (k + 20000 + 20000 + 20000) m L ∧ Below w8.heap.size w8 w') := fun w' h => ⟨hs.fresh h, hb.trans (h.mono hb.size)⟩
          have HWF := Lib.hid hwf
          have HJ : Hid (j < xa.length) := hlt2
          clear hs hb h1 hwf hbl
          go_wp2_with fail
          go_loopw [16, 17] (fun f i wx => ∃ (q : Nat) (f0 : Bool), q ≤ zs.length ∧ i = .int .i64 q ∧ f = .bool f0 ∧ f0 = decide (x ∈ zs.take q) ∧ Below wr.heap.size wr wx) (fun _ i _ => zs.length - (RowKit.intOf i).toNat)
          case atStart => exact ⟨0, false, Nat.zero_le _, rfl, rfl, by simp, Below.refl _ _⟩
          case round =>
            obtain ⟨q, f0, hq, rfl, rfl, hf0, hb3⟩ := hrel
            have HB3 := Lib.hid hb3
            by_cases hlt3 : q < zs.length
            · obtain ⟨b2, off2, c2', he, _, _, _, h2⟩ := Vals.at_ (k := q) (KX1.out _ hb3) (by rw [List.length_map]; exact hlt3)
              injection he with e1 e2 e3
              subst e1 e3
              rw [List.getElem_map] at h2
              clear e2
              have h1 := KX2.out _ hb3
              have HE : Hid (decide (x ∈ zs.take (q + 1)) = (decide (x ∈ zs.take q) || decide (zs[q] = x))) := Lib.hid (by
                rw [List.take_succ_eq_append_getElem hlt3, Bool.eq_iff_iff]
                simp only [Bool.or_eq_true, decide_eq_true_eq, List.mem_append, List.mem_singleton]
                exact or_congr Iff.rfl eq_comm)
              have HF0 := Lib.hid hf0
              have HQ : Hid (q < zs.length) := hlt3
              generalize zs[q] = y at h2 HE
              have hzl : (zs.length : Int) ≤ 20000 := by have := HLX.out; have := HLI.out; omega
              clear hb3 hf0
              cases f0 with
              | true =>
                go_wp2
                go_quiet (fail)
                go_wp2
                go_roundw
                case rel => exact ⟨q + 1, true, by have := HQ.out; omega, by go_num, rfl, by rw [HE.out, ← HF0.out]; rfl, HB3.out.trans (below_drewN _ _ _)⟩
                case measure => have := HQ.out; simp [RowKit.intOf]; omega
              | false =>
                by_cases hy : y = x
                · subst hy
                  go_wp2
                  go_quiet (fail)
                  go_wp2
                  go_roundw
                  case rel => exact ⟨q + 1, true, by have := HQ.out; omega, by go_num, by simp, by rw [HE.out, ← HF0.out]; simp, HB3.out.trans (below_drewN _ _ _)⟩
                  case measure => have := HQ.out; simp [RowKit.intOf]; omega
                · have hyb : (y == x) = false := by simpa using hy
                  have HY := Lib.hid hy
                  clear hy
                  go_wp2
                  go_quiet (fail)
                  go_wp2
                  go_roundw
                  case rel => exact ⟨q + 1, false, by have := HQ.out; omega, by go_num, by simp, by rw [HE.out, ← HF0.out]; simp [HY.out], HB3.out.trans (below_drewN _ _ _)⟩
                  case measure => have := HQ.out; simp [RowKit.intOf]; omega
            · obtain rfl : q = zs.length := by omega
              rw [List.take_length] at hf0
              have hf1 := hf0.trans HNR.out
              have h1 := KX2.out _ hb3
              have HC := Lib.hid (has_any c 400 _ m L x HWF.out _ (KX3.out _ hb3).1)
              have KX4 := KX3.out _ hb3
              rw [← hf1] at HC
              clear hf0 hf1 hb3
              cases f0 with
              | true =>
                go_wp2_with fail
                refine HC.out.mono ?_
                rintro e w9 ⟨rfl, s9, b9⟩
                have S9 : Hid (SecAt w9 c 400 _ m L ∧ Below w8.heap.size w8 w9) := ⟨s9, KX4.2.trans (b9.mono KX4.2.size)⟩
                clear s9 b9 KX4 h1
                go_wp2_with fail
                go_roundw
                case rel => exact ⟨j + 1, by have := HJ.out; omega, by go_num, S9.out.1, S9.out.2⟩
                case measure => simp [RowKit.intOf]; omega
              | false =>
                go_wp2_with fail
                refine HC.out.mono ?_
                rintro e w9 ⟨rfl, s9, b9⟩
                have S9 : Hid (SecAt w9 c 400 _ m L ∧ Below w8.heap.size w8 w9) := ⟨s9, KX4.2.trans (b9.mono KX4.2.size)⟩
                clear s9 b9 KX4 h1
                go_wp2_with fail
                go_roundw
                case rel => exact ⟨j + 1, by have := HJ.out; omega, by go_num, S9.out.1, S9.out.2⟩
                case measure => simp [RowKit.intOf]; omega
        · have hx1 : zs.length ≤ ys.length := HLX.out.1
          have hx2 : ys.length ≤ (idsE L).length := HLX.out.2
          have SAY : Hid (∀ (N M : Nat → Prop) (v1 v2 : Value) (us : List Int) (w' : World), Ints N w' v1 us → Ints M w' v2 us → us.length ≤ 1000000 → Calls Tryd.prog 17 #[v1, v2] w' fun e w'' => e = .returned (.bool true) ∧ Below w'.heap.size w' w'') := fun N M v1 v2 us w' h1 h2 hl => (Wd.sameInts_any v1 v2 us us w' (wd_of h1) (wd_of h2) hl).mono fun e w'' h => by
            have := h.below
            simpa using this
          have X9 : Hid (Ints (fun b => ¬ c.F b) wr _ zs) := Vals.only X8.out (F := fun _ => False) (Only.of_below hb) (fun _ _ h => h)
          have Z9 : Hid (Ints _ wr _ zs) := Vals.only Z8.out (F := fun _ => False) (Only.of_below hb) (fun _ _ h => h)
          have S9 := Lib.hid hs
          have B9 := Lib.hid (KE.out _ _ B8.out hb)
          have I9 : Hid (Ints (fun b => ¬ c.F b) wr _ (idsE L)) := Vals.only I8.out (F := fun _ => False) (Only.of_below hb) (fun _ _ h => h)
          have hlj : ¬ (j : Int) < xa.length := by omega
          clear hs hb X8 Z8 I8 hlt2
          go_wp2_with fail
          refine (SAY.out _ _ _ _ zs wr X9.out Z9.out (by have := HLX.out; have := HLI.out; omega)).mono ?_
          rintro e w10 ⟨rfl, b10⟩
          have B10 := Lib.hid (KE.out _ _ B9.out b10)
          have S10 := Lib.hid (S9.out.fresh b10)
          have I10 : Hid (Ints (fun b => ¬ c.F b) w10 _ (idsE L)) := Vals.only I9.out (F := fun _ => False) (Only.of_below b10) (fun _ _ h => h)
          clear b10
          go_wp2_with fail
          refine (near_any c 400 _ m L _ (idsE L) w10 S10.out I10.out (ids_w64 S10.out.good S10.out.few) (by have := HLI.out; omega) (by have := HU.out; omega)).mono ?_
          rintro e w11 ⟨v11, us, rfl, is11, own11, s11, o11⟩
          obtain rfl : us = idsE L := near_all G8.out is11
          have B11 := Lib.hid (KF.out _ _ B10.out o11)
          have Y11 := Lib.hid (ints_own own11)
          have I11 : Hid (Ints (fun b => ¬ c.F b) w11 _ (idsE L)) := Vals.only I10.out o11 (fun b hb hf => hb hf)
          obtain ⟨a11, c11, rfl, _⟩ := Wd.own_room own11
          clear own11 s11 o11 is11
          go_wp2_with fail
          refine (SAY.out _ _ _ _ (idsE L) w11 Y11.out I11.out (by have := HLI.out; omega)).mono ?_
          rintro e w12 ⟨rfl, b12⟩
          have B12 := Lib.hid (KE.out _ _ B11.out b12)
          clear b12
          go_wp2_with fail
          refine (KN.out w12 B12.out).mono ?_
          rintro e w13 ⟨rfl, b13⟩
          go_wp2
          (try rw [Exit.noGoto_ret])
          go_ret
          exact ⟨rfl, b13⟩
end Go.Proofs.YtapjeilfkpfllaaDoor
