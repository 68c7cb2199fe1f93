/- What Make of the chapter tells where it makes nothing. -/
import Derived.Test.YtccpmaahnfgkeaaGreatDoorGFe
import Derived.Deep.CutBlock
import Derived.Deep.DeepCutAuto
import Derived.Deep.RegionHeld3
namespace Go.Proofs.YtccpmaahnfgkeaaGreatDoor
set_option maxRecDepth 1000000
open Go.ChangeShapes Go.WideShapes Go.ChangeAt Go.RowKit
open Wd (Ob okO encO refsO ObjAt In64 I64)
open R4 (RV rowsOf RowsV)

set_option maxHeartbeats 2000000 in
theorem make6_full {N : Nat → Prop} (v : Value) (n m : Nat) (L : List RE) (v0 : Value) (o : Ob) (w : World) (h : SpV N w v L) (ho : ObjAt w v0 o) (hok : okO o = true) (hg : ∀ p ∈ L, okO p.1.o = true) (hl : L.length ≤ 1000000) (hn : n ≤ 1000000) (hR : Good n (rowsE (entsOf L))) (b : Nat) (hF : FirstIs (tk (rowsE (entsOf L))) n (szO o) b false) :
    Calls Tryz.prog 8 #[.agg #[v, .int .i64 n, .int .i64 m], v0] w (MkNo v n m 3 w) := by
  obtain ⟨a, c, rfl⟩ := h.form
  have HO := Lib.hid ho
  have HV := Lib.hid h
  obtain ⟨wv, bv, rfl, _⟩ := ho
  obtain ⟨x1, x2, x3, x4, x5⟩ := mk_entry w (.slice a L.length c) (.int .i64 o.c) (.int .i64 o.k) wv bv n m
  have HE := Lib.hid (Wd.refencode_yes _ o _ (HO.out.kept x4) hok)
  have X1 := Lib.hid x1
  have X2 := Lib.hid x2
  have X3 := Lib.hid x3
  have X4 := Lib.hid x4
  obtain ⟨p, hp⟩ : ∃ p, w.heap.size = p := ⟨_, rfl⟩
  have HP := Lib.hid hp
  rw [hp] at X1 X2 X3
  obtain ⟨⟨y0, y1, y2, y3⟩, _, _⟩ := X2.out
  clear x1 x2 x3 x4 x5 h
  go_enter Tryz.func8, Tryz.ntmps8
  go_wp2_with fail
  refine HE.out.mono ?_
  rintro e w1 ⟨ve, rfl, own1, b1⟩
  have B1 := Lib.hid (X4.out.trans (b1.mono X4.out.size))
  have Z1 := Lib.hid (X1.out.fresh b1)
  have Z3 := Lib.hid (X3.out.fresh b1)
  obtain ⟨g0, g1, g2, _, _⟩ := Z1.out
  obtain ⟨ae, ce, rfl, _⟩ := Wd.own_room own1
  have V1 : Hid (Bts (w.heap.size ≤ ·) w1 (.slice ae (encO o).length ce) (encO o)) := Lib.hid (Vals.kind (Vals.of_own (e := 5) (by rw [List.length_map]; exact own1)) (fun b _ hN => Nat.le_trans X4.out.size hN))
  have P1 : Hid (p < w1.heap.size) := Lib.hid Z1.out.2.2.2.2
  have S0 : w1.drew.cell? ⟨p, 0, none⟩ = some (.slice a L.length c) ∧ w1.drew.cell? ⟨p, 1, none⟩ = some (.int .i64 n) ∧ w1.drew.cell? ⟨p, 2, none⟩ = some (.int .i64 m) ∧ Hid (Below w1.heap.size w1 w1.drew) := ⟨g0, g1, g2, Lib.hid (below_drewN _ _ 1)⟩
  have HKO : Hid (∀ wa wb : World, Only (w1.heap.size ≤ ·) wa wb → (wa.cell? ⟨p, 0, none⟩ = some (.slice a L.length c) ∧ wa.cell? ⟨p, 1, none⟩ = some (.int .i64 n) ∧ wa.cell? ⟨p, 2, none⟩ = some (.int .i64 m) ∧ Hid (Below w1.heap.size w1 wa)) → (wb.cell? ⟨p, 0, none⟩ = some (.slice a L.length c) ∧ wb.cell? ⟨p, 1, none⟩ = some (.int .i64 n) ∧ wb.cell? ⟨p, 2, none⟩ = some (.int .i64 m) ∧ Hid (Below w1.heap.size w1 wb))) :=
    Lib.hid (fun wa wb o h => by
      have hpl : ∀ (j : Nat) (v : Value), wa.cell? ⟨p, j, none⟩ = some v → wb.cell? ⟨p, j, none⟩ = some v := fun j v hv => (o.cell (p := ⟨p, j, none⟩) (World.block_lt_of_cell? _ _ hv) (by have := P1.out; show ¬ w1.heap.size ≤ p; omega)).trans hv
      exact ⟨hpl _ _ h.1, hpl _ _ h.2.1, hpl _ _ h.2.2.1, Lib.hid (h.2.2.2.out.trans (o.below (B := w1.heap.size) (fun i hi e => by omega) h.2.2.2.out.size))⟩)
  have HK : Hid (∀ wa wb : World, Below wa.heap.size wa wb → (wa.cell? ⟨p, 0, none⟩ = some (.slice a L.length c) ∧ wa.cell? ⟨p, 1, none⟩ = some (.int .i64 n) ∧ wa.cell? ⟨p, 2, none⟩ = some (.int .i64 m) ∧ Hid (Below w1.heap.size w1 wa)) → (wb.cell? ⟨p, 0, none⟩ = some (.slice a L.length c) ∧ wb.cell? ⟨p, 1, none⟩ = some (.int .i64 n) ∧ wb.cell? ⟨p, 2, none⟩ = some (.int .i64 m) ∧ Hid (Below w1.heap.size w1 wb))) := Lib.hid (fun wa wb b h => HKO.out wa wb (Only.of_below b) h)
  have S1 : (w1.alloc (.cells #[.int .i64 0, .int .i64 0, .int .i64 0] 47)).drew.cell? ⟨p, 0, none⟩ = some (.slice a L.length c) ∧ (w1.alloc (.cells #[.int .i64 0, .int .i64 0, .int .i64 0] 47)).drew.cell? ⟨p, 1, none⟩ = some (.int .i64 n) ∧ (w1.alloc (.cells #[.int .i64 0, .int .i64 0, .int .i64 0] 47)).drew.cell? ⟨p, 2, none⟩ = some (.int .i64 m) ∧ Hid (Below w1.heap.size w1 (w1.alloc (.cells #[.int .i64 0, .int .i64 0, .int .i64 0] 47)).drew) := HK.out _ _ (show Below w1.drew.heap.size w1.drew (w1.alloc (.cells #[.int .i64 0, .int .i64 0, .int .i64 0] 47)).drew from (Below.refl _ _).alloc (Nat.le_refl _) (.cells #[.int .i64 0, .int .i64 0, .int .i64 0] 47)) S0
  have HKS : Hid (∀ wa : World, (wa.cell? ⟨p, 0, none⟩ = some (.slice a L.length c) ∧ wa.cell? ⟨p, 1, none⟩ = some (.int .i64 n) ∧ wa.cell? ⟨p, 2, none⟩ = some (.int .i64 m) ∧ Hid (Below w1.heap.size w1 wa)) → w1.heap.size ≤ wa.heap.size) := Lib.hid (fun wa h => h.2.2.2.out.size)
  have HKB : Hid (∀ wa : World, (wa.cell? ⟨p, 0, none⟩ = some (.slice a L.length c) ∧ wa.cell? ⟨p, 1, none⟩ = some (.int .i64 n) ∧ wa.cell? ⟨p, 2, none⟩ = some (.int .i64 m) ∧ Hid (Below w1.heap.size w1 wa)) → Hid (Below w1.heap.size w1 wa)) := Lib.hid (fun wa h => h.2.2.2)
  have HRW : Hid (∀ wa : World, (wa.cell? ⟨p, 0, none⟩ = some (.slice a L.length c) ∧ wa.cell? ⟨p, 1, none⟩ = some (.int .i64 n) ∧ wa.cell? ⟨p, 2, none⟩ = some (.int .i64 m) ∧ Hid (Below w1.heap.size w1 wa)) → Calls Tryz.prog 30 #[.agg #[.slice a L.length c, .int .i64 n, .int .i64 m]] wa (RowsP L wa)) := Lib.hid (fun wa h => rows6_any _ n m L wa ((HV.out.fresh B1.out).fresh (h.2.2.2.out)) hl hg)
  have HPU : Hid (∀ (wa : World) (M : Nat → Prop) (v : Value) (LR : List RV), (wa.cell? ⟨p, 0, none⟩ = some (.slice a L.length c) ∧ wa.cell? ⟨p, 1, none⟩ = some (.int .i64 n) ∧ wa.cell? ⟨p, 2, none⟩ = some (.int .i64 m) ∧ Hid (Below w1.heap.size w1 wa)) → RowsV M wa v LR → rowsOf LR = rowsE (entsOf L) → Calls Tryz.prog 29 #[v, .int .i64 n, .slice ae (encO o).length ce] wa (R4.RPutNo v 3 wa)) := Lib.hid (fun wa M v LR h hv hr => by
    have hv' : Bts (fun b => M b ∨ w.heap.size ≤ b) wa (.slice ae (encO o).length ce) (encO o) := Vals.kind (Vals.only V1.out (Only.of_below (F := fun _ => False) h.2.2.2.out) (fun _ _ h => h)) (fun b _ hb => .inr hb)
    have hF' : FirstIs (tk (rowsOf LR)) n (secs (encO o).length) b false := by rw [hr]; exact hF
    refine R4.refput_no v LR n b _ (encO o) wa (hv.kind (fun b _ hb => .inl hb)) hv' ?_ hn ?_ ?_ hF'
    · rw [rows_len hr, rowsE, List.length_map, ents_len]; exact hl
    · have := (szO_le hok).2; unfold szO secs at this; omega
    · exact R4.rows_room (by rw [hr]; exact hR) hn)
  clear b1 y0 y1 y2 y3 hp own1
  go_upto_region 4 with fail
  go_cut [9, 10, 11] (fun s9 s10 s11 wx => ∃ q, s10 = .pointer (some ⟨q, 0, none⟩) ∧ s11 = .int .i64 3 ∧ Hid (Below w1.heap.size w1 wx))
  case first =>
    go_region_held3 (fun w' => w'.cell? ⟨p, 0, none⟩ = some (.slice a L.length c) ∧ w'.cell? ⟨p, 1, none⟩ = some (.int .i64 n) ∧ w'.cell? ⟨p, 2, none⟩ = some (.int .i64 m) ∧ Hid (Below w1.heap.size w1 w')) (first | (assumption) | (exact S0) | (exact S1) | (refine HK.out _ _ hb2 ?_; assumption) | (refine HK.out _ _ hb3 ?_; assumption) | (refine HK.out _ _ ((Below.refl _ _).alloc (Nat.le_refl _) _) ?_; assumption) | (refine HKO.out _ _ (put3_only (Only.refl _ _) (.inl (by first | exact Nat.le_refl _ | exact hs2.out))) ?_; assumption)) (first | (go_at_call 30; refine (HRW.out _ (by assumption)).mono ?_; rintro e w2 ⟨u, LR, rfl, hrw, hro, hb2⟩; have hs2 := Lib.hid (Nat.le_trans (HKS.out _ (by assumption)) hb2.size); have XB : Hid (Box3 w2 w1.heap.size 0 0 0) := Lib.hid ((box3_new w1 0 0 0 47).fresh (w' := w2) ⟨hb2.os, hb2.tape, hb2.output, hb2.size, hb2.block⟩); obtain ⟨n1, n2, n3, nf, _⟩ := XB.out; have nf0 := nf 0; have nf1 := nf 1; have nf2 := nf 2; clear nf) | (go_at_call 30; refine (HRW.out _ (by assumption)).mono ?_; rintro e w2 ⟨u, LR, rfl, hrw, hro, hb2⟩; have hs2 := Lib.hid (Nat.le_trans (HKS.out _ (by assumption)) hb2.size)) | (go_at_call 29; refine (HPU.out _ _ u LR (by assumption) hrw hro).mono ?_; rintro e w3 ⟨rfl, hb3⟩; have XC := Lib.hid (XB.out.fresh hb3); obtain ⟨k1, k2, k3, kf, _⟩ := XC.out; have kf0 := kf 0; have kf1 := kf 1; have kf2 := kf 2; clear kf) | (go_at_call 29; refine (HPU.out _ _ u LR (by assumption) (hrw.fresh ((Below.refl _ _).alloc (Nat.le_refl _) _)) hro).mono ?_; rintro e w3 ⟨rfl, hb3⟩; have XC := Lib.hid ((box3_new w2 0 0 0 47).fresh hb3); obtain ⟨k1, k2, k3, kf, _⟩ := XC.out; have kf0 := kf 0; have kf1 := kf 1; have kf2 := kf 2; clear kf) | (go_at_call 29; refine (HPU.out _ _ u LR (by assumption) hrw hro).mono ?_; rintro e w3 ⟨rfl, hb3⟩))
    all_goals (go_wp2_with fail; go_meet; exact ⟨_, rfl, rfl, HKB.out _ (by assumption)⟩)
  case rest =>
    obtain ⟨q, rfl, rfl, BX⟩ := hcut
    have Y1 := Lib.hid (Z1.out.fresh BX.out)
    have Y3 := Lib.hid (Z3.out.fresh BX.out)
    obtain ⟨i0, i1, i2, _, _⟩ := Y1.out
    obtain ⟨t0, t1, t2, tf, _⟩ := Y3.out
    have f0 := tf 0
    have f1 := tf 1
    have f2 := tf 2
    clear tf g0 g1 g2 HKO HK HKS HKB HRW HPU S0 S1
    go_wp2_with fail
    (try simp only [Exit.inBlock, Exit.then])
    have hb9 := Y3.out.put (.slice a L.length c) n m
    have O9 : Only (· = p + 2) wc (((wc.setCell ⟨p + 2, 0, none⟩ (.slice a L.length c)).setCell ⟨p + 2, 1, none⟩ (.int .i64 n)).setCell ⟨p + 2, 2, none⟩ (.int .i64 m)) := putS_only (Only.refl _ _) (.inl rfl)
    have hpp := HP.out
    have B9 := B1.out.trans (BX.out.mono B1.out.size)
    refine bodyPost_ret (res_S3 rfl rfl hb9) rfl ⟨rfl, B9.trans (O9.below (fun i hi e => by omega) B9.size)⟩
end Go.Proofs.YtccpmaahnfgkeaaGreatDoor
