/- The chapter's space, texts one behind the other: GFg GFh GFi GFj. -/
import Derived.Test.YtccpmaahnfgkeaaGreatDoorGFf

/- What Make of the chapter tells where there is room. -/
namespace Go.Proofs.YtccpmaahnfgkeaaGreatDoor
set_option maxRecDepth 1000000
open Go.ChangeShapes Go.WideShapes Go.ChangeAt Go.RowKit
open Wd (Ob okO encO refsO ObjAt In64 I64)
open R4 (RV rowsOf RowsV wpList_append_eq step_append_eq)

def MkYes (N : Nat → Prop) (L : List RE) (n m : Nat) (o : Ob) (b : Nat) (w : World) (e : Ending) (w' : World) : Prop :=
  ∃ a' c' wv bv, e = .returned (.tuple #[.agg #[.slice a' (L.length + 1) c', .int .i64 n, .int .i64 ((m : Int) + 1)], .int .i64 ((m : Int) + 1), .int .i64 0]) ∧ SpV (fun k => N k ∨ w.heap.size ≤ k) w' (.slice a' (L.length + 1) c') (L ++ [(⟨m + 1, o, b⟩, wv, bv)]) ∧ Below w.heap.size w w'
def MkPut (N : Nat → Prop) (v : Value) (L : List RE) (n m : Nat) (o : Ob) (b : Nat) (w : World) (e : Ending) (w' : World) : Prop :=
  (1048576 ≤ m ∧ MkNo v n m 3 w e w') ∨ (m < 1048576 ∧ MkYes N L n m o b w e w')

set_option maxHeartbeats 2000000 in
theorem make6_put {N : Nat → Prop} (v : Value) (n m : Nat) (L : List RE) (v0 : Value) (o : Ob) (w : World) (h : SpV N w v L) (ho : ObjAt w v0 o) (hok : okO o = true) (hg : ∀ p ∈ L, okO p.1.o = true) (hl : L.length ≤ 1000000) (hn : n ≤ 1000000) (hR : Good n (rowsE (entsOf L))) (b : Nat) (hF : FirstIs (tk (rowsE (entsOf L))) n (szO o) b true) :
    Calls Tryz.prog 8 #[.agg #[v, .int .i64 n, .int .i64 m], v0] w (MkPut N v L n m o b w) := by
  obtain ⟨a, c, rfl⟩ := h.form
  have HO := Lib.hid ho
  have HV := Lib.hid h
  have HL := Lib.hid hl
  have HOK := Lib.hid hok
  obtain ⟨wv, bv, rfl, _⟩ := ho
  obtain ⟨x1, x2, x3, x4, x5⟩ := mk_entry w (.slice a L.length c) (.int .i64 o.c) (.int .i64 o.k) wv bv n m
  have HE := Lib.hid (Wd.refencode_yes _ o _ (HO.out.kept x4) hok)
  have X1 := Lib.hid x1
  have X2 := Lib.hid x2
  have X3 := Lib.hid x3
  have X4 := Lib.hid x4
  obtain ⟨p, hp⟩ : ∃ p, w.heap.size = p := ⟨_, rfl⟩
  have HP := Lib.hid hp
  rw [hp] at X1 X2 X3
  obtain ⟨⟨y0, y1, y2, y3⟩, _, _⟩ := X2.out
  clear x1 x2 x3 x4 x5 h
  go_enter Tryz.func8, Tryz.ntmps8
  go_wp2_with fail
  refine HE.out.mono ?_
  rintro e w1 ⟨ve, rfl, own1, b1⟩
  have B1 := Lib.hid (X4.out.trans (b1.mono X4.out.size))
  have Z1 := Lib.hid (X1.out.fresh b1)
  have Z3 := Lib.hid (X3.out.fresh b1)
  obtain ⟨g0, g1, g2, _, _⟩ := Z1.out
  obtain ⟨ae, ce, rfl, _⟩ := Wd.own_room own1
  have XB1 := Lib.hid b1
  have V1 : Hid (Bts (w.heap.size ≤ ·) w1 (.slice ae (encO o).length ce) (encO o)) := Lib.hid (Vals.kind (Vals.of_own (e := 5) (by rw [List.length_map]; exact own1)) (fun b _ hN => Nat.le_trans X4.out.size hN))
  have P1 : Hid (p < w1.heap.size) := Lib.hid Z1.out.2.2.2.2
  have S0 : w1.drew.cell? ⟨p, 0, none⟩ = some (.slice a L.length c) ∧ w1.drew.cell? ⟨p, 1, none⟩ = some (.int .i64 n) ∧ w1.drew.cell? ⟨p, 2, none⟩ = some (.int .i64 m) ∧ Hid (Below w1.heap.size w1 w1.drew) := ⟨g0, g1, g2, Lib.hid (below_drewN _ _ 1)⟩
  have HKO : Hid (∀ wa wb : World, Only (w1.heap.size ≤ ·) wa wb → (wa.cell? ⟨p, 0, none⟩ = some (.slice a L.length c) ∧ wa.cell? ⟨p, 1, none⟩ = some (.int .i64 n) ∧ wa.cell? ⟨p, 2, none⟩ = some (.int .i64 m) ∧ Hid (Below w1.heap.size w1 wa)) → (wb.cell? ⟨p, 0, none⟩ = some (.slice a L.length c) ∧ wb.cell? ⟨p, 1, none⟩ = some (.int .i64 n) ∧ wb.cell? ⟨p, 2, none⟩ = some (.int .i64 m) ∧ Hid (Below w1.heap.size w1 wb))) :=
    Lib.hid (fun wa wb o h => by
      have hpl : ∀ (j : Nat) (v : Value), wa.cell? ⟨p, j, none⟩ = some v → wb.cell? ⟨p, j, none⟩ = some v := fun j v hv => (o.cell (p := ⟨p, j, none⟩) (World.block_lt_of_cell? _ _ hv) (by have := P1.out; show ¬ w1.heap.size ≤ p; omega)).trans hv
      exact ⟨hpl _ _ h.1, hpl _ _ h.2.1, hpl _ _ h.2.2.1, Lib.hid (h.2.2.2.out.trans (o.below (B := w1.heap.size) (fun i hi e => by omega) h.2.2.2.out.size))⟩)
  have HK : Hid (∀ wa wb : World, Below wa.heap.size wa wb → (wa.cell? ⟨p, 0, none⟩ = some (.slice a L.length c) ∧ wa.cell? ⟨p, 1, none⟩ = some (.int .i64 n) ∧ wa.cell? ⟨p, 2, none⟩ = some (.int .i64 m) ∧ Hid (Below w1.heap.size w1 wa)) → (wb.cell? ⟨p, 0, none⟩ = some (.slice a L.length c) ∧ wb.cell? ⟨p, 1, none⟩ = some (.int .i64 n) ∧ wb.cell? ⟨p, 2, none⟩ = some (.int .i64 m) ∧ Hid (Below w1.heap.size w1 wb))) := Lib.hid (fun wa wb b h => HKO.out wa wb (Only.of_below b) h)
  have S1 : (w1.alloc (.cells #[.int .i64 0, .int .i64 0, .int .i64 0] 47)).drew.cell? ⟨p, 0, none⟩ = some (.slice a L.length c) ∧ (w1.alloc (.cells #[.int .i64 0, .int .i64 0, .int .i64 0] 47)).drew.cell? ⟨p, 1, none⟩ = some (.int .i64 n) ∧ (w1.alloc (.cells #[.int .i64 0, .int .i64 0, .int .i64 0] 47)).drew.cell? ⟨p, 2, none⟩ = some (.int .i64 m) ∧ Hid (Below w1.heap.size w1 (w1.alloc (.cells #[.int .i64 0, .int .i64 0, .int .i64 0] 47)).drew) := HK.out _ _ (show Below w1.drew.heap.size w1.drew (w1.alloc (.cells #[.int .i64 0, .int .i64 0, .int .i64 0] 47)).drew from (Below.refl _ _).alloc (Nat.le_refl _) (.cells #[.int .i64 0, .int .i64 0, .int .i64 0] 47)) S0
  have HKS : Hid (∀ wa : World, (wa.cell? ⟨p, 0, none⟩ = some (.slice a L.length c) ∧ wa.cell? ⟨p, 1, none⟩ = some (.int .i64 n) ∧ wa.cell? ⟨p, 2, none⟩ = some (.int .i64 m) ∧ Hid (Below w1.heap.size w1 wa)) → w1.heap.size ≤ wa.heap.size) := Lib.hid (fun wa h => h.2.2.2.out.size)
  have HKB : Hid (∀ wa : World, (wa.cell? ⟨p, 0, none⟩ = some (.slice a L.length c) ∧ wa.cell? ⟨p, 1, none⟩ = some (.int .i64 n) ∧ wa.cell? ⟨p, 2, none⟩ = some (.int .i64 m) ∧ Hid (Below w1.heap.size w1 wa)) → Hid (Below w1.heap.size w1 wa)) := Lib.hid (fun wa h => h.2.2.2)
  have HRW : Hid (∀ wa : World, (wa.cell? ⟨p, 0, none⟩ = some (.slice a L.length c) ∧ wa.cell? ⟨p, 1, none⟩ = some (.int .i64 n) ∧ wa.cell? ⟨p, 2, none⟩ = some (.int .i64 m) ∧ Hid (Below w1.heap.size w1 wa)) → Calls Tryz.prog 30 #[.agg #[.slice a L.length c, .int .i64 n, .int .i64 m]] wa (RowsP L wa)) := Lib.hid (fun wa h => rows6_any _ n m L wa ((HV.out.fresh B1.out).fresh (h.2.2.2.out)) hl hg)
  have HPU : Hid (∀ (wa : World) (M : Nat → Prop) (v : Value) (LR : List RV), (wa.cell? ⟨p, 0, none⟩ = some (.slice a L.length c) ∧ wa.cell? ⟨p, 1, none⟩ = some (.int .i64 n) ∧ wa.cell? ⟨p, 2, none⟩ = some (.int .i64 m) ∧ Hid (Below w1.heap.size w1 wa)) → RowsV M wa v LR → rowsOf LR = rowsE (entsOf L) → Calls Tryz.prog 29 #[v, .int .i64 n, .slice ae (encO o).length ce] wa (R4.RPut (fun k => M k ∨ w.heap.size ≤ k) LR b (encO o) wa)) := Lib.hid (fun wa M v LR h hv hr => by
    have hv' : Bts (fun b => M b ∨ w.heap.size ≤ b) wa (.slice ae (encO o).length ce) (encO o) := Vals.kind (Vals.only V1.out (Only.of_below (F := fun _ => False) h.2.2.2.out) (fun _ _ h => h)) (fun b _ hb => .inr hb)
    have hF' : FirstIs (tk (rowsOf LR)) n (secs (encO o).length) b true := by rw [hr]; exact hF
    refine R4.refput_yes v LR n b _ (encO o) wa (hv.kind (fun b _ hb => .inl hb)) hv' ?_ hn ?_ ?_ hF'
    · rw [rows_len hr, rowsE, List.length_map, ents_len]; exact hl
    · have := (szO_le hok).2; unfold szO secs at this; omega
    · exact R4.rows_room (by rw [hr]; exact hR) hn)
  clear b1 y0 y1 y2 y3 hp own1
  go_upto_region 4 with fail
  go_cut [9, 10, 11] (fun s9 s10 s11 wx => ∃ q, s10 = .pointer (some ⟨q, 0, none⟩) ∧ s11 = .int .i64 0 ∧ Hid (Below w1.heap.size w1 wx) ∧ Hid (Box3 wx q b (secs (encO o).length) (encO o).length))
  case first =>
    go_region_held3 (fun w' => w'.cell? ⟨p, 0, none⟩ = some (.slice a L.length c) ∧ w'.cell? ⟨p, 1, none⟩ = some (.int .i64 n) ∧ w'.cell? ⟨p, 2, none⟩ = some (.int .i64 m) ∧ Hid (Below w1.heap.size w1 w')) (first | (assumption) | (exact S0) | (exact HK.out _ _ ((Below.refl _ _).alloc (Nat.le_refl _) _) HS3.out) | (exact S1) | (refine HK.out _ _ hb2 ?_; assumption) | (refine HK.out _ _ hb3 ?_; assumption) | (refine HK.out _ _ ((Below.refl _ _).alloc (Nat.le_refl _) _) ?_; assumption) | (refine HKO.out _ _ (put3_only (Only.refl _ _) (.inl (by first | exact Nat.le_refl _ | exact hs2.out))) ?_; assumption)) (first | (go_at_call 30; refine (HRW.out _ (by assumption)).mono ?_; rintro e w2 ⟨u, LR, rfl, hrw, hro, hb2⟩; have hs2 := Lib.hid (Nat.le_trans (HKS.out _ (by assumption)) hb2.size); have XB : Hid (Box3 w2 w1.heap.size 0 0 0) := Lib.hid ((box3_new w1 0 0 0 47).fresh (w' := w2) ⟨hb2.os, hb2.tape, hb2.output, hb2.size, hb2.block⟩); obtain ⟨n1, n2, n3, nf, _⟩ := XB.out; have nf0 := nf 0; have nf1 := nf 1; have nf2 := nf 2; clear nf) | (go_at_call 30; refine (HRW.out _ (by assumption)).mono ?_; rintro e w2 ⟨u, LR, rfl, hrw, hro, hb2⟩; have hs2 := Lib.hid (Nat.le_trans (HKS.out _ (by assumption)) hb2.size)) | (go_at_call 29; refine (HPU.out _ _ u LR (by assumption) hrw hro).mono ?_; rintro e w3 ⟨v6, bv6, rfl, _, hb3⟩; have XC := Lib.hid (XB.out.fresh hb3); obtain ⟨k1, k2, k3, kf, _⟩ := XC.out; have kf0 := kf 0; have kf1 := kf 1; have kf2 := kf 2; clear kf) | (go_at_call 29; refine (HPU.out _ _ u LR (by assumption) (hrw.fresh ((Below.refl _ _).alloc (Nat.le_refl _) _)) hro).mono ?_; rintro e w3 ⟨v6, bv6, rfl, _, hb3⟩; have XC := Lib.hid ((box3_new w2 0 0 0 47).fresh hb3); obtain ⟨k1, k2, k3, kf, _⟩ := XC.out; have kf0 := kf 0; have kf1 := kf 1; have kf2 := kf 2; clear kf) | (go_at_call 29; refine (HPU.out _ _ u LR (by assumption) hrw hro).mono ?_; rintro e w3 ⟨v6, bv6, rfl, _, hb3⟩; have HS3 := Lib.hid (HK.out _ _ hb3 (by assumption))))
    all_goals (go_wp2_with fail; go_meet; first | exact ⟨_, rfl, rfl, HKB.out _ (by assumption), XC.out.put _ _ _⟩ | exact ⟨_, rfl, rfl, HKB.out _ (by assumption), box3_new _ _ _ _ _⟩ | exact ⟨_, rfl, rfl, HKB.out _ (by assumption), (box3_new _ _ _ _ _).put _ _ _⟩)
  case rest =>
    obtain ⟨q, rfl, rfl, BX, XQ⟩ := hcut
    have Y1 := Lib.hid (Z1.out.fresh BX.out)
    have Y2 : Hid (Wd.Box (p + 1) (.int .i64 o.c) (.int .i64 o.k) wv bv wc) := Lib.hid (box_only (F := fun _ => False) X2.out (Only.of_below (F := fun _ => False) (XB1.out.trans (BX.out.mono XB1.out.size))) id)
    have Y3 := Lib.hid (Z3.out.fresh BX.out)
    have BC : Hid (Below w.heap.size w wc) := B1.out.trans (BX.out.mono B1.out.size)
    have VC : Hid (SpV (fun k => N k ∧ k < w.heap.size) wc (.slice a L.length c) L) := (HV.out.kind (M := fun k => N k ∧ k < w.heap.size) (fun k hk hN => ⟨hN, hk⟩)).fresh BC.out
    obtain ⟨i0, i1, i2, _, _⟩ := Y1.out
    clear g0 g1 g2 HKO HK HKS HKB HRW HPU S0 S1
    by_cases hm : m < 1048576
    · have hm' : decide ((1048576 : Int) ≤ (m : Int)) = false := decide_eq_false (by omega)
      have HM := Lib.hid hm
      obtain ⟨v3, w4, happ, en4, hg4, hat4⟩ := append_ents (N := fun k => N k ∧ k < w.heap.size) (M := fun k => N k ∧ k < w.heap.size) (B := wc.heap.size) wc (.slice none 0 0) _ [] L ⟨World.ownsRow_nil _ _ _ _, fun p hp => by cases hp⟩ (fun k _ e => by cases e) VC.out (fun k hk => ⟨fun e => (by cases e), hk⟩) (by simpa using HL.out) (Nat.le_refl _) 30
      rw [List.nil_append] at en4
      have hb4 : Below wc.heap.size wc w4 := (Below.refl _ _).grown hg4 (Nat.le_refl _) (fun k hk => by simp [Value.ownBlock] at hk)
      have HAPP := Lib.hid happ
      have EN4 := Lib.hid en4
      have B4 := Lib.hid hb4
      have T1 := Lib.hid (Y1.out.fresh hb4)
      have T3 := Lib.hid (Y3.out.fresh hb4)
      have T2 : Hid (Wd.Box (p + 1) (.int .i64 o.c) (.int .i64 o.k) wv bv w4) := Lib.hid (box_only (F := fun _ => False) Y2.out (Only.of_below (F := fun _ => False) hb4) id)
      have TQ := Lib.hid (XQ.out.fresh hb4)
      clear happ en4 hg4 hat4 hb4 hm
      go_wp2_with (at_builtin; refine wpList_append_eq _ rfl _ _ 30 rfl _ _ _ _ rfl rfl HAPP.out ?_)
      go_wp2_with fail
      obtain ⟨z, hz⟩ : ∃ z, secs (encO o).length = z := ⟨_, rfl⟩
      obtain ⟨y, hy⟩ : ∃ y, (encO o).length = y := ⟨_, rfl⟩
      have HZ := Lib.hid hz
      have HY := Lib.hid hy
      rw [hz, hy] at TQ
      have hm2 : wrap64 ((m : Int) + 1) = (m : Int) + 1 := IntWalk.wrap64_in _ (by have := HM.out; omega)
      have hm3 : IntKind.i64.wrap ((m : Int) + 1) = (m : Int) + 1 := by have := HM.out; rw [IntKind.wrap_i64]; omega
      have HOC : Hid (ObjAt w4.drew (.agg #[.int .i64 o.c, .int .i64 o.k, wv, bv]) o) := Lib.hid (HO.out.kept (BC.out.trans ((B4.out.trans (below_drewN w4 _ 1)).mono BC.out.size)))
      have HCP := Lib.hid (refcopy_any _ o w4.drew HOC.out (by have := (short_of HOK.out).1; omega) (by have := (short_of HOK.out).2; omega))
      obtain ⟨t0, t1, t2, _, _⟩ := T1.out
      obtain ⟨⟨r0, r1, r2, r3⟩, _, _⟩ := T2.out
      obtain ⟨q0, q1, q2, _, _⟩ := TQ.out
      have SK : Hid (∀ w5 : World, Only (wc.heap.size ≤ ·) w4.drew w5 → (w5.cell? ⟨p, 2, none⟩ = some (.int .i64 m) ∧ w5.cell? ⟨p + 1, 0, none⟩ = some (.int .i64 o.c) ∧ w5.cell? ⟨p + 1, 1, none⟩ = some (.int .i64 o.k) ∧ w5.cell? ⟨p + 1, 2, none⟩ = some wv ∧ w5.cell? ⟨p + 1, 3, none⟩ = some bv ∧ w5.cell? ⟨q, 0, none⟩ = some (.int .i64 b) ∧ w5.cell? ⟨q, 1, none⟩ = some (.int .i64 z) ∧ w5.cell? ⟨q, 2, none⟩ = some (.int .i64 y))) := Lib.hid (fun w5 o5 => by
        have l1 := Y1.out.2.2.2.2
        have l2 := Y2.out.2.2
        have l3 := XQ.out.2.2.2.2
        have l4 := B4.out.size
        have k1 : ∀ (k j : Nat) (u : Value), k < wc.heap.size → w4.cell? ⟨k, j, none⟩ = some u → w5.cell? ⟨k, j, none⟩ = some u := fun k j u hk hu => (o5.cell (p := ⟨k, j, none⟩) (show k < w4.heap.size by omega) (by show ¬ wc.heap.size ≤ k; omega)).trans hu
        exact ⟨k1 _ _ _ l1 T1.out.2.2.1, k1 _ _ _ l2 T2.out.1.1, k1 _ _ _ l2 T2.out.1.2.1, k1 _ _ _ l2 T2.out.1.2.2.1, k1 _ _ _ l2 T2.out.1.2.2.2, k1 _ _ _ l3 TQ.out.1, k1 _ _ _ l3 TQ.out.2.1, k1 _ _ _ l3 TQ.out.2.2.1⟩)
      have HCP2 : Hid (Calls Tryz.prog 31 #[.agg #[.int .i64 o.c, .int .i64 o.k, wv, bv]] w4.drew fun e w5 => ∃ a1 c1 a2 c2 a6 c6 w6, e = .returned (.agg #[.int .i64 o.c, .int .i64 o.k, .slice a1 o.w.length c1, .slice a2 o.b.length c2]) ∧ Below w4.drew.heap.size w4.drew w5 ∧
          (Builtin.append_ #[30, 30] 30 #[v3, .slice (some ⟨w5.heap.size, 0, none⟩) 1 1]).run Tryz.prog (w5.alloc (.cells #[.int .i64 ((m : Int) + 1), .int .i64 o.c, .int .i64 o.k, .slice a1 o.w.length c1, .slice a2 o.b.length c2, .int .i64 b, .int .i64 z, .int .i64 y] 49)) = .ok (.slice a6 (L.length + 1) c6) w6 ∧
          SpV (fun k => (N k ∧ k < w.heap.size) ∨ wc.heap.size ≤ k) w6 (.slice a6 (L.length + 1) c6) (L ++ [(⟨m + 1, o, b⟩, .slice a1 o.w.length c1, .slice a2 o.b.length c2)]) ∧ Only (wc.heap.size ≤ ·) w4.drew w6) := Lib.hid (HCP.out.mono fun e w5 ⟨a1, c1, a2, c2, he, ho, hb⟩ => by
        have hB45 : Below w4.heap.size w4 w5 := ⟨hb.os, hb.tape, hb.output, hb.size, hb.block⟩
        have hba : Below w5.heap.size w5 (w5.alloc (.cells #[.int .i64 ((m : Int) + 1), .int .i64 o.c, .int .i64 o.k, .slice a1 o.w.length c1, .slice a2 o.b.length c2, .int .i64 b, .int .i64 z, .int .i64 y] 49)) := (Below.refl _ _).alloc (Nat.le_refl _) _
        have h45 := hb.size
        have h4c := B4.out.size
        have hwc : w.heap.size ≤ wc.heap.size := BC.out.size
        have lt3 := fun k (hk : v3.ownBlock = some k) => EN4.out.own.lt k hk
        have e5 : EnK (w5.alloc (.cells #[.int .i64 ((m : Int) + 1), .int .i64 o.c, .int .i64 o.k, .slice a1 o.w.length c1, .slice a2 o.b.length c2, .int .i64 b, .int .i64 z, .int .i64 y] 49)) wc.heap.size (fun k => (N k ∧ k < w.heap.size) ∨ w4.heap.size ≤ k) v3 L := by
          have := (EN4.out.fresh hB45).fresh hba
          exact ⟨this.own, fun p hp => (this.each p hp).kind (fun _ _ h => .inl h)⟩
        obtain ⟨v6, w6, h1, h2, h3⟩ := append_ent (B := wc.heap.size) _ v3 L e5 (fun k hk e => by
            obtain ⟨u1, u2⟩ := lt3 k e
            rcases hk with hk | hk
            · have := hk.2; omega
            · omega) (⟨m + 1, o, b⟩, .slice a1 o.w.length c1, .slice a2 o.b.length c2) ((ho.fresh hba).kind (fun k _ hk => .inr hk)) w5.heap.size (fun j u hu => by
            rw [World.cell?_alloc_at _ _ _ _ rfl]
            have e1 : cells8 (⟨m + 1, o, b⟩, .slice a1 o.w.length c1, .slice a2 o.b.length c2) = [.int .i64 ((m : Int) + 1), .int .i64 o.c, .int .i64 o.k, .slice a1 o.w.length c1, .slice a2 o.b.length c2, .int .i64 b, .int .i64 z, .int .i64 y] := by
              have e2 : len (erow ⟨m + 1, o, b⟩) = z := HZ.out
              simp only [cells8, e2, HY.out]
              rfl
            rw [e1] at hu
            simpa using hu) (by have := HL.out; omega) (by have := hba.size; have h4d : w4.drew.heap.size = w4.heap.size := rfl; omega) 30
        have h3o : Only (wc.heap.size ≤ ·) (w5.alloc (.cells #[.int .i64 ((m : Int) + 1), .int .i64 o.c, .int .i64 o.k, .slice a1 o.w.length c1, .slice a2 o.b.length c2, .int .i64 b, .int .i64 z, .int .i64 y] 49)) w6 := Only.grown (Only.refl _ _) h3 (fun k hk => .inl (by show wc.heap.size ≤ k; exact (lt3 k hk).1))
        have hsp := h2.sp
        obtain ⟨a6, c6, hv6⟩ := hsp.form
        rw [List.length_append] at hv6
        subst hv6
        exact ⟨a1, c1, a2, c2, a6, c6, w6, he, hb, h1, hsp.kind (fun k _ hk => by
          rcases hk with (hk | hk) | hk
          · exact .inl hk
          · exact .inr (by omega)
          · exact .inr hk), ((Only.of_below hb : Only (wc.heap.size ≤ ·) w4.drew w5).then_ (Only.of_below hba : Only (wc.heap.size ≤ ·) w5 _) (fun _ _ h => h)).then_ h3o (fun _ _ h => h)⟩)
      clear HCP hz hy
      go_region_held3 (fun w5 => w5.cell? ⟨p, 2, none⟩ = some (.int .i64 m) ∧ w5.cell? ⟨p + 1, 0, none⟩ = some (.int .i64 o.c) ∧ w5.cell? ⟨p + 1, 1, none⟩ = some (.int .i64 o.k) ∧ w5.cell? ⟨p + 1, 2, none⟩ = some wv ∧ w5.cell? ⟨p + 1, 3, none⟩ = some bv ∧ w5.cell? ⟨q, 0, none⟩ = some (.int .i64 b) ∧ w5.cell? ⟨q, 1, none⟩ = some (.int .i64 z) ∧ w5.cell? ⟨q, 2, none⟩ = some (.int .i64 y)) (first | (exact SK.out _ o6) | (exact SK.out _ (Only.of_below hb5)) | (exact SK.out _ ((Only.of_below hb5).alloc _)) | go_keep) (first | (go_at_call 31; refine HCP2.out.mono ?_; rintro e w5 ⟨a1, c1, a2, c2, a6, c6, w6, rfl, hb5, happ6, sp6, o6⟩) | (refine step_append_eq rfl _ _ 30 rfl _ _ _ _ rfl rfl happ6 ?_))
      have D4 : Below w4.heap.size w4 w4.drew := below_drewN w4 _ 1
      have l1 := Y1.out.2.2.2.2
      have l3 := Y3.out.2.2.2.2
      have SP6 := Lib.hid sp6
      have B6 : Hid (Below w.heap.size w w6) := Lib.hid ((BC.out.trans ((B4.out.trans (below_drewN w4 _ 1)).mono BC.out.size)).trans (o6.below (fun i hi e => by have := BC.out.size; omega) (Nat.le_trans BC.out.size (Nat.le_trans B4.out.size D4.size))))
      have U1 := Lib.hid ((T1.out.fresh D4).only o6 (by show ¬ wc.heap.size ≤ p; omega))
      have U3 := Lib.hid ((T3.out.fresh D4).only o6 (by show ¬ wc.heap.size ≤ p + 2; omega))
      obtain ⟨s0, s1, s2, _, _⟩ := U1.out
      obtain ⟨u0, u1, u2, uf, _⟩ := U3.out
      have uf0 := uf 0
      have uf1 := uf 1
      have uf2 := uf 2
      have hpp := HP.out
      have hbc := BC.out.size
      have h02 : ¬ p = p + 2 := by omega
      clear uf hb5 happ6 sp6 o6 t0 t1 t2 r0 r1 r2 r3 q0 q1 q2 i0 i1 i2
      go_wp2_with fail
      go_region
      go_wp2_with fail
      (try simp only [Exit.inBlock, Exit.then])
      have hb9 := (U3.out.put (.slice a6 (L.length + 1) c6) n ((m : Int) + 1)).fresh (below_drewN _ _ 1)
      have ho9 : Only (· = p + 2) w6 ((((w6.setCell ⟨p + 2, 0, none⟩ (.slice a6 (L.length + 1) c6)).setCell ⟨p + 2, 1, none⟩ (.int .i64 n)).setCell ⟨p + 2, 2, none⟩ (.int .i64 ((m : Int) + 1))).drewN 1) := (putS_only (F := (· = p + 2)) (Only.refl _ _) (.inl rfl)).drewN 1
      have e9 : (((w6.setCell ⟨p + 2, 0, none⟩ (.slice a6 (L.length + 1) c6)).setCell ⟨p + 2, 1, none⟩ (.int .i64 n)).setCell ⟨p + 2, 2, none⟩ (.int .i64 ((m : Int) + 1))).drewN 1 = (((w6.setCell ⟨p + 2, 0, none⟩ (.slice a6 (L.length + 1) c6)).setCell ⟨p + 2, 1, none⟩ (.int .i64 n)).setCell ⟨p + 2, 2, none⟩ (.int .i64 ((m : Int) + 1))).drew := rfl
      rw [e9] at hb9 ho9
      generalize (((w6.setCell ⟨p + 2, 0, none⟩ (.slice a6 (L.length + 1) c6)).setCell ⟨p + 2, 1, none⟩ (.int .i64 n)).setCell ⟨p + 2, 2, none⟩ (.int .i64 ((m : Int) + 1))).drew = w9 at hb9 ho9 ⊢
      refine bodyPost_ret (res_S3 rfl rfl hb9) rfl (.inr ⟨HM.out, a6, c6, _, _, rfl, (SP6.out.only ho9 (fun k hk e => by
        rcases hk with hk | hk
        · have := hk.2; omega
        · omega)).kind (fun k _ hk => by
        rcases hk with hk | hk
        · exact .inl hk.1
        · exact .inr (by omega)), B6.out.trans (ho9.below (fun i hi e => by omega) B6.out.size)⟩)
    · have hm2 : (1048576 : Int) ≤ m := by omega
      have HM : Hid (1048576 ≤ m) := Lib.hid (by omega)
      obtain ⟨t0, t1, t2, tf, _⟩ := Y3.out
      have f0 := tf 0
      have f1 := tf 1
      have f2 := tf 2
      clear tf hm
      go_wp2_with fail
      (try simp only [Exit.inBlock, Exit.then])
      have hb9 := Y3.out.put (.slice a L.length c) n m
      have O9 : Only (· = p + 2) wc (((wc.setCell ⟨p + 2, 0, none⟩ (.slice a L.length c)).setCell ⟨p + 2, 1, none⟩ (.int .i64 n)).setCell ⟨p + 2, 2, none⟩ (.int .i64 m)) := putS_only (Only.refl _ _) (.inl rfl)
      have hpp := HP.out
      have B9 := BC.out
      refine bodyPost_ret (res_S3 rfl rfl hb9) rfl (.inl ⟨HM.out, rfl, B9.trans (O9.below (fun i hi e => by omega) B9.size)⟩)
end Go.Proofs.YtccpmaahnfgkeaaGreatDoor

/- Plain facts on rows of the chapter's space: one put anew, one taken out; a row stored into. -/
namespace Go.Proofs.YtccpmaahnfgkeaaGreatDoor
set_option maxRecDepth 1000000
open Go.ChangeShapes Go.WideShapes Go.ChangeAt Go.RowKit
open Wd (Ob okO encO refsO ObjAt In64 I64)

theorem ids_ne : ∀ {E : List Ent}, E.Pairwise (fun a b => a.id < b.id) → ∀ {j k : Nat} (hj : j < E.length) (hk : k < E.length), j ≠ k → E[j].id ≠ E[k].id := by
  intro E hp j k hj hk hne he
  rcases Nat.lt_or_gt_of_ne hne with h | h
  · have := List.pairwise_iff_getElem.1 hp j k hj hk h; omega
  · have := List.pairwise_iff_getElem.1 hp k j hk hj h; omega
theorem set_ents {E : List Ent} (hp : E.Pairwise fun a b => a.id < b.id) {j : Nat} (hj : j < E.length) (o : Ob) (b : Nat) : setE E E[j].id o b = E.set j ⟨E[j].id, o, b⟩ := by
  refine List.ext_getElem (by simp [setE]) fun k h1 h2 => ?_
  have hk : k < E.length := by simpa [setE] using h1
  simp only [setE, List.getElem_map, List.getElem_set]
  by_cases e : j = k
  · subst e; simp
  · rw [if_neg e, if_neg (ids_ne hp hk hj (fun h => e h.symm))]
theorem drop_ents : ∀ {E : List Ent}, E.Pairwise (fun a b => a.id < b.id) → ∀ {j : Nat} (hj : j < E.length), dropE E [(E[j].id : Int)] = E.eraseIdx j
  | [], _, j, hj => by simp at hj
  | x :: E, hp, 0, hj => by
    obtain ⟨h1, h2⟩ := List.pairwise_cons.1 hp
    have : dropE E [(x.id : Int)] = E := List.filter_eq_self.2 fun e he => by
      have := h1 e he
      simp; omega
    simp only [List.getElem_cons_zero, List.eraseIdx_cons_zero]
    rw [dropE, List.filter_cons]
    simp
    exact fun a ha e => by have := h1 a ha; omega
  | x :: E, hp, j + 1, hj => by
    obtain ⟨h1, h2⟩ := List.pairwise_cons.1 hp
    have hj' : j < E.length := by simpa using hj
    have ih := drop_ents h2 hj'
    have hx := h1 _ (List.getElem_mem hj')
    simp only [List.getElem_cons_succ, List.eraseIdx_cons_succ]
    rw [← ih, dropE, dropE, List.filter_cons]
    have : (!decide ((x.id : Int) ∈ [(E[j].id : Int)])) = true := by simp; omega
    rw [if_pos this]

def put8L (xs : List Value) (p : Nat) (r : RE) : List Value :=
  ((((((((xs.set p (.int .i64 r.1.id)).set (p + 1) (.int .i64 r.1.o.c)).set (p + 2) (.int .i64 r.1.o.k)).set (p + 3) r.2.1).set (p + 4) r.2.2).set (p + 5) (.int .i64 r.1.f)).set (p + 6) (.int .i64 (len (erow r.1)))).set (p + 7) (.int .i64 (encO r.1.o).length))
theorem flat8_set (r : RE) : ∀ (L : List RE) (j : Nat), j < L.length → put8L (flat8 L) (j * 8) r = flat8 (L.set j r)
  | [], j, hj => by simp at hj
  | x :: L, 0, hj => by
    rw [List.set_cons_zero, flat8_cons, flat8_cons]
    simp [put8L, cells8]
  | x :: L, j + 1, hj => by
    have ih := flat8_set r L j (by simpa using hj)
    rw [List.set_cons_succ, flat8_cons, flat8_cons, ← ih]
    have hl : (cells8 x).length = 8 := rfl
    have key : ∀ (xs : List Value) (q : Nat) (u : Value), (cells8 x ++ xs).set ((j + 1) * 8 + q) u = cells8 x ++ xs.set (j * 8 + q) u := fun xs q u => by
      rw [List.set_append_right _ _ (by omega)]
      congr 2
      omega
    have key0 : ∀ (xs : List Value) (u : Value), (cells8 x ++ xs).set ((j + 1) * 8) u = cells8 x ++ xs.set (j * 8) u := fun xs u => key xs 0 u
    simp only [put8L, key, key0]
/-- The world behind a store of an entry. -/
def put8W (w : World) (g p : Nat) (r : RE) : World :=
  (((((((w.setCell ⟨g, p, none⟩ (.int .i64 r.1.id)).setCell ⟨g, p + 1, none⟩ (.int .i64 r.1.o.c)).setCell ⟨g, p + 2, none⟩ (.int .i64 r.1.o.k)).setCell ⟨g, p + 3, none⟩ r.2.1).setCell ⟨g, p + 4, none⟩ r.2.2).setCell ⟨g, p + 5, none⟩ (.int .i64 r.1.f)).setCell ⟨g, p + 6, none⟩ (.int .i64 (len (erow r.1)))).setCell ⟨g, p + 7, none⟩ (.int .i64 (encO r.1.o).length)
theorem put8_only {F : Nat → Prop} {a w : World} {g p : Nat} {r : RE} (h : Only F a w) (hp : F g ∨ a.heap.size ≤ g) : Only F a (put8W w g p r) :=
  (((((((h.setCell ⟨g, p, none⟩ hp _).setCell ⟨g, p + 1, none⟩ hp _).setCell ⟨g, p + 2, none⟩ hp _).setCell ⟨g, p + 3, none⟩ hp _).setCell ⟨g, p + 4, none⟩ hp _).setCell ⟨g, p + 5, none⟩ hp _).setCell ⟨g, p + 6, none⟩ hp _).setCell ⟨g, p + 7, none⟩ hp _
theorem EnK.put {w : World} {B g cap : Nat} {N : Nat → Prop} {L : List RE} (h : EnK w B N (.slice (some ⟨g, 0, none⟩) L.length cap) L) (hN : ∀ b, N b → b ≠ g) {j : Nat} (hj : j < L.length) (r : RE) (hr : ObjIn N w (objV r) r.1.o) :
    EnK (put8W w g (j * 8) r) B N (.slice (some ⟨g, 0, none⟩) L.length cap) (L.set j r) := by
  have h1 := (h.own.stored (j * 8) (.int .i64 r.1.id)).1
  have h2 := (h1.stored (j * 8 + 1) (.int .i64 r.1.o.c)).1
  have h3 := (h2.stored (j * 8 + 2) (.int .i64 r.1.o.k)).1
  have h4 := (h3.stored (j * 8 + 3) r.2.1).1
  have h5 := (h4.stored (j * 8 + 4) r.2.2).1
  have h6 := (h5.stored (j * 8 + 5) (.int .i64 r.1.f)).1
  have h7 := (h6.stored (j * 8 + 6) (.int .i64 (len (erow r.1)))).1
  have h8 := (h7.stored (j * 8 + 7) (.int .i64 (encO r.1.o).length)).1
  have on : Only (· = g) w (put8W w g (j * 8) r) := put8_only (Only.refl _ _) (.inl rfl)
  refine ⟨?_, fun p hp => ?_⟩
  · have e := flat8_set r L j hj
    rw [← e, List.length_set]
    exact h8
  · rcases List.mem_or_eq_of_mem_set hp with hp | hp
    · exact (h.each p hp).only on hN
    · rw [hp]; exact hr.only on hN
theorem ents_set (L : List RE) (j : Nat) (r : RE) : entsOf (L.set j r) = (entsOf L).set j r.1 := by simp [entsOf, List.map_set]
theorem ents_erase (L : List RE) (j : Nat) : entsOf (L.take j ++ L.drop (j + 1)) = (entsOf L).eraseIdx j := by
  rw [List.eraseIdx_eq_take_drop_succ]
  simp [entsOf, List.map_take, List.map_drop]
/-- Where the object with a number stands. -/
def FindAt (j : Nat) (w : World) (e : Ending) (w' : World) : Prop := e = .returned (.int .i64 (j : Int)) ∧ Below w.heap.size w w'
theorem find6_no {N : Nat → Prop} (v : Value) (n m : Nat) (L : List RE) (i : Int) (w : World) (h : SpV N w v L) (hl : L.length ≤ 1000000) (hf : hasE (entsOf L) i = false) :
    Calls Tryz.prog 10 #[.agg #[v, .int .i64 n, .int .i64 m], .int .i64 i] w fun e w' => e = .returned (.int .i64 (-1)) ∧ Below w.heap.size w w' :=
  (find6_any v n m L i w h hl).mono fun e w' ⟨k, he, hk, hb⟩ => by
    rcases hk with ⟨rfl, _⟩ | ⟨j, hj, _, hi⟩
    · exact ⟨he, hb⟩
    · have : hasE (entsOf L) i = true := hasE_iff.2 (by rw [← hi]; exact List.mem_map.2 ⟨L[j].1, List.mem_map.2 ⟨L[j], List.getElem_mem hj, rfl⟩, rfl⟩)
      rw [hf] at this; cases this
theorem find6_at {N : Nat → Prop} (v : Value) (n m M : Nat) (L : List RE) (j : Nat) (hj : j < L.length) (w : World) (h : SpV N w v L) (hl : L.length ≤ 1000000) (hg : GoodE M (entsOf L)) :
    Calls Tryz.prog 10 #[.agg #[v, .int .i64 n, .int .i64 m], .int .i64 (L[j].1.id : Int)] w (FindAt j w) :=
  (find6_any v n m L _ w h hl).mono fun e w' ⟨k, he, hk, hb⟩ => by
    have hj' : j < (entsOf L).length := by rw [ents_len]; exact hj
    rcases hk with ⟨_, h1⟩ | ⟨q, hq, rfl, hi⟩
    · have : hasE (entsOf L) (L[j].1.id : Int) = true := hasE_iff.2 (List.mem_map.2 ⟨L[j].1, List.mem_map.2 ⟨L[j], List.getElem_mem hj, rfl⟩, rfl⟩)
      rw [h1] at this; cases this
    · have hq' : q < (entsOf L).length := by rw [ents_len]; exact hq
      by_cases e : q = j
      · subst e; exact ⟨he, hb⟩
      · have := ids_ne hg.rise hq' hj' e
        simp [entsOf] at this
        omega
theorem has_at {L : List RE} {i : Int} (h : hasE (entsOf L) i = true) : ∃ (j : Nat) (hj : j < L.length), (L[j].1.id : Int) = i := by
  rw [hasE_iff] at h
  obtain ⟨x, hx, he⟩ := List.mem_map.1 h
  obtain ⟨p, hp, rfl⟩ := List.mem_map.1 hx
  obtain ⟨j, hj, rfl⟩ := List.mem_iff_getElem.1 hp
  exact ⟨j, hj, he⟩
end Go.Proofs.YtccpmaahnfgkeaaGreatDoor

/- What Store of the chapter tells where it changes nothing at once: no such object, or none that may be; what Set of layer 4's chapter tells, both ways as one. -/
namespace Go.Proofs.YtccpmaahnfgkeaaGreatDoor
set_option maxRecDepth 1000000
open Go.ChangeShapes Go.WideShapes Go.ChangeAt Go.RowKit
open Wd (Ob okO encO refsO ObjAt In64 I64)
open R4 (RV rowsOf RowsV wpList_append_eq step_append_eq)

def StNo (v : Value) (n m : Nat) (t : Int) (w : World) (e : Ending) (w' : World) : Prop :=
  e = .returned (.tuple #[.agg #[v, .int .i64 n, .int .i64 m], .int .i64 t]) ∧ Below w.heap.size w w'
theorem st_entry (w : World) (v x y z u : Value) (n m : Int) :
    BoxS (((w.alloc (.cells #[v, .int .i64 n, .int .i64 m] 32)).alloc (.cells #[x, y, z, u] 35)).alloc (.cells #[.slice none 0 0, .int .i64 0, .int .i64 0] 32)) w.heap.size v n m ∧
    Wd.Box (w.heap.size + 1) x y z u (((w.alloc (.cells #[v, .int .i64 n, .int .i64 m] 32)).alloc (.cells #[x, y, z, u] 35)).alloc (.cells #[.slice none 0 0, .int .i64 0, .int .i64 0] 32)) ∧
    BoxS (((w.alloc (.cells #[v, .int .i64 n, .int .i64 m] 32)).alloc (.cells #[x, y, z, u] 35)).alloc (.cells #[.slice none 0 0, .int .i64 0, .int .i64 0] 32)) (w.heap.size + 2) (.slice none 0 0) 0 0 ∧
    Below w.heap.size w (((w.alloc (.cells #[v, .int .i64 n, .int .i64 m] 32)).alloc (.cells #[x, y, z, u] 35)).alloc (.cells #[.slice none 0 0, .int .i64 0, .int .i64 0] 32)) ∧
    (((w.alloc (.cells #[v, .int .i64 n, .int .i64 m] 32)).alloc (.cells #[x, y, z, u] 35)).alloc (.cells #[.slice none 0 0, .int .i64 0, .int .i64 0] 32)).heap.size = w.heap.size + 3 := mk_entry w v x y z u n m

set_option maxHeartbeats 2000000 in
theorem store6_none {N : Nat → Prop} (v : Value) (n m : Nat) (L : List RE) (v0 : Value) (o : Ob) (i : Int) (w : World) (h : SpV N w v L) (ho : ObjAt w v0 o) (hl : L.length ≤ 1000000) (hf : hasE (entsOf L) i = false) :
    Calls Tryz.prog 13 #[.agg #[v, .int .i64 n, .int .i64 m], .int .i64 i, v0] w (StNo v n m 4 w) := by
  obtain ⟨a, c, rfl⟩ := h.form
  obtain ⟨wv, bv, rfl, _⟩ := ho
  obtain ⟨x1, x2, x3, x4, x5⟩ := st_entry w (.slice a L.length c) (.int .i64 o.c) (.int .i64 o.k) wv bv n m
  have HE := Lib.hid (find6_no _ n m L i _ (h.fresh x4) hl hf)
  have X1 := Lib.hid x1
  have X3 := Lib.hid x3
  have X4 := Lib.hid x4
  obtain ⟨p, hp⟩ : ∃ p, w.heap.size = p := ⟨_, rfl⟩
  have HP := Lib.hid hp
  rw [hp] at X1 X3
  obtain ⟨y0, y1, y2, _, _⟩ := X1.out
  clear x1 x2 x3 x4 x5 h
  go_enter Tryz.func13, Tryz.ntmps13
  go_wp2_with fail
  refine HE.out.mono ?_
  rintro e w1 ⟨rfl, b1⟩
  have B1 := Lib.hid (X4.out.trans (b1.mono X4.out.size))
  have Z1 := Lib.hid (X1.out.fresh b1)
  have Z3 := Lib.hid (X3.out.fresh b1)
  obtain ⟨u0, u1, u2, _, _⟩ := Z1.out
  obtain ⟨t0, t1, t2, tf, _⟩ := Z3.out
  have f0 := tf 0
  have f1 := tf 1
  have f2 := tf 2
  clear b1 tf y0 y1 y2 hp
  go_wp2_with fail
  (try simp only [Exit.inBlock, Exit.then])
  have hb9 := Z3.out.put (.slice a L.length c) n m
  have O9 : Only (· = p + 2) w1 (((w1.setCell ⟨p + 2, 0, none⟩ (.slice a L.length c)).setCell ⟨p + 2, 1, none⟩ (.int .i64 n)).setCell ⟨p + 2, 2, none⟩ (.int .i64 m)) := putS_only (Only.refl _ _) (.inl rfl)
  have hpp := HP.out
  refine bodyPost_ret (res_S2 rfl rfl hb9) rfl ⟨rfl, B1.out.trans (O9.below (fun i hi e => by omega) B1.out.size)⟩

set_option maxHeartbeats 2000000 in
theorem store6_bad {N : Nat → Prop} (v : Value) (n m M : Nat) (L : List RE) (v0 : Value) (o : Ob) (j : Nat) (hj : j < L.length) (i : Int) (hi : (L[j].1.id : Int) = i) (w : World) (h : SpV N w v L) (ho : ObjAt w v0 o) (hfar : Wd.Far o) (hl : L.length ≤ 1000000) (hg : GoodE M (entsOf L)) (hok : okO o = false) :
    Calls Tryz.prog 13 #[.agg #[v, .int .i64 n, .int .i64 m], .int .i64 i, v0] w (StNo v n m 2 w) := by
  obtain ⟨a, c, rfl⟩ := h.form
  have HO := Lib.hid ho
  obtain ⟨wv, bv, rfl, _⟩ := ho
  obtain ⟨x1, x2, x3, x4, x5⟩ := st_entry w (.slice a L.length c) (.int .i64 o.c) (.int .i64 o.k) wv bv n m
  have HE := Lib.hid (find6_at _ n m M L j hj _ (h.fresh x4) hl hg)
  rw [hi] at HE
  have X1 := Lib.hid x1
  have X2 := Lib.hid x2
  have X3 := Lib.hid x3
  have X4 := Lib.hid x4
  obtain ⟨p, hp⟩ : ∃ p, w.heap.size = p := ⟨_, rfl⟩
  have HP := Lib.hid hp
  rw [hp] at X1 X2 X3
  obtain ⟨y0, y1, y2, _, _⟩ := X1.out
  have hj0 : decide ((j : Int) < 0) = false := decide_eq_false (by omega)
  clear x1 x2 x3 x4 x5 h hi
  go_enter Tryz.func13, Tryz.ntmps13
  go_wp2_with fail
  refine HE.out.mono ?_
  rintro e w1 ⟨rfl, b1⟩
  have B1 := Lib.hid (X4.out.trans (b1.mono X4.out.size))
  have Z1 := Lib.hid (X1.out.fresh b1)
  have Z2 : Hid (Wd.Box (p + 1) (.int .i64 o.c) (.int .i64 o.k) wv bv w1) := Lib.hid (box_only (F := fun _ => False) X2.out (Only.of_below (F := fun _ => False) b1) id)
  have Z3 := Lib.hid (X3.out.fresh b1)
  have HC := Lib.hid (Wd.refencode_no _ o w1 (HO.out.kept B1.out) hfar hok)
  obtain ⟨⟨q0, q1, q2, q3⟩, _, _⟩ := Z2.out
  clear b1 y0 y1 y2 hp
  go_wp2_with fail
  refine HC.out.mono ?_
  rintro e w2 ⟨rfl, b2⟩
  have B2 := Lib.hid (B1.out.trans (b2.mono B1.out.size))
  have V1 := Lib.hid (Z1.out.fresh b2)
  have V3 := Lib.hid (Z3.out.fresh b2)
  obtain ⟨u0, u1, u2, _, _⟩ := V1.out
  obtain ⟨t0, t1, t2, tf, _⟩ := V3.out
  have f0 := tf 0
  have f1 := tf 1
  have f2 := tf 2
  clear b2 tf q0 q1 q2 q3
  go_wp2_with fail
  (try simp only [Exit.inBlock, Exit.then])
  have hb9 := V3.out.put (.slice a L.length c) n m
  have O9 : Only (· = p + 2) w2 (((w2.setCell ⟨p + 2, 0, none⟩ (.slice a L.length c)).setCell ⟨p + 2, 1, none⟩ (.int .i64 n)).setCell ⟨p + 2, 2, none⟩ (.int .i64 m)) := putS_only (Only.refl _ _) (.inl rfl)
  have hpp := HP.out
  refine bodyPost_ret (res_S2 rfl rfl hb9) rfl ⟨rfl, B2.out.trans (O9.below (fun i hi e => by omega) B2.out.size)⟩

/-- What Set of layer 4's chapter tells. -/
def SetR (n : Nat) (E : List Ent) (x : Ent) (o : Ob) (g1 g2 g3 t : Int) : Prop :=
  ∀ (N : Nat → Prop) (w : World) (v vb : Value) (LR : List RV), RowsV N w v LR → Bts N w vb (encO o) → rowsOf LR = rowsE E →
    Calls Tryz.prog 37 #[v, .int .i64 n, .agg #[.int .i64 x.f, .int .i64 (len (erow x)), .int .i64 (encO x.o).length], vb] w fun e w' => ∃ v', e = .returned (.tuple #[v', .agg #[.int .i64 g1, .int .i64 g2, .int .i64 g3], .int .i64 t]) ∧ Below w.heap.size w w'
theorem set_r {n : Nat} {E : List Ent} {x : Ent} (hx : x ∈ E) {o : Ob} {a : Nat} {ok : Bool} (hR : Room n (rowsE E) (erow x) (szO o) a ok) (hok : okO o = true) (hn : n ≤ 1000000) (hG : Good n (rowsE E)) (hl : E.length ≤ 1000000) :
    ∃ g1 g2 g3 t : Int, SetR n E x o g1 g2 g3 t ∧ ((ok = true ∧ g1 = a ∧ g2 = szO o ∧ g3 = (encO o).length ∧ t = 0) ∨ (ok = false ∧ t = 3)) := by
  have hs := (szO_le hok).2
  have hlen : (encO o).length ≤ 1000000 := by unfold szO secs at hs; omega
  have hX : isX (rowsE E) ⟨x.f, len (erow x), (encO x.o).length⟩ = true := List.any_eq_true.2 ⟨erow x, List.mem_map.2 ⟨x, hx, rfl⟩, by simp [ext, erow]⟩
  have hll : ∀ {LR : List RV}, rowsOf LR = rowsE E → LR.length ≤ 1000000 := fun hr => by rw [rows_len hr, rowsE, List.length_map]; exact hl
  rcases hR with ⟨hp, rfl, rfl⟩ | ⟨hp, hF⟩
  · refine ⟨x.f, szO o, (encO o).length, 0, fun N w v vb LR hv hb hr => ?_, .inl ⟨rfl, rfl, rfl, rfl, rfl⟩⟩
    have h1 : len (erow x) = secs (encO o).length := hp.symm
    rw [h1] at hX ⊢
    refine (R4.refset_same v LR n x.f (encO x.o).length vb (encO o) w hv hb (hll hr) hlen (by rw [hr]; exact hX)).mono ?_
    rintro e w' ⟨v', bv, i, _, _, he, _, hb⟩
    exact ⟨v', he, hb⟩
  · cases ok with
    | true =>
      refine ⟨a, szO o, (encO o).length, 0, fun N w v vb LR hv hb hr => ?_, .inl ⟨rfl, rfl, rfl, rfl, rfl⟩⟩
      refine (R4.refset_move v LR n x.f (len (erow x)) (encO x.o).length a vb (encO o) w hv hb (hll hr) hn hlen (R4.rows_room (by rw [hr]; exact hG) hn) (by rw [hr]; exact hX) (fun h => hp (by unfold szO; omega)) (fun i hi he => ?_)).mono ?_
      · rw [R4.rows_less (by rw [hr]; exact hG) hi he, hr]
        exact hF
      · rintro e w' ⟨v', bv, i, _, _, he, _, hb⟩
        exact ⟨v', he, hb⟩
    | false =>
      refine ⟨0, 0, 0, 3, fun N w v vb LR hv hb hr => ?_, .inr ⟨rfl, rfl⟩⟩
      refine (R4.refset_full v LR n x.f (len (erow x)) (encO x.o).length a vb (encO o) w hv hb (hll hr) hn (by omega) (R4.rows_room (by rw [hr]; exact hG) hn) (by rw [hr]; exact hX) (fun h => hp (by unfold szO; omega)) (fun i hi he => ?_)).mono ?_
      · rw [R4.rows_less (by rw [hr]; exact hG) hi he, hr]
        exact hF
      · rintro e w' ⟨he, hb⟩
        exact ⟨v, he, hb⟩
end Go.Proofs.YtccpmaahnfgkeaaGreatDoor

/- What Store of the chapter tells of an object that is there and one that may be. -/
namespace Go.Proofs.YtccpmaahnfgkeaaGreatDoor
set_option maxRecDepth 1000000
open Go.ChangeShapes Go.WideShapes Go.ChangeAt Go.RowKit
open Wd (Ob okO encO refsO ObjAt In64 I64)
open R4 (RV rowsOf RowsV wpList_append_eq step_append_eq)

def StYes (N : Nat → Prop) (L : List RE) (j n m : Nat) (x : Ent) (w : World) (e : Ending) (w' : World) : Prop :=
  ∃ a' c' wv bv, e = .returned (.tuple #[.agg #[.slice a' L.length c', .int .i64 n, .int .i64 m], .int .i64 0]) ∧ SpV (fun k => N k ∨ w.heap.size ≤ k) w' (.slice a' L.length c') (L.set j (x, wv, bv)) ∧ Below w.heap.size w w'
def StPut (N : Nat → Prop) (v : Value) (L : List RE) (j n m : Nat) (ok : Bool) (x : Ent) (w : World) (e : Ending) (w' : World) : Prop :=
  (ok = false ∧ StNo v n m 3 w e w') ∨ (ok = true ∧ StYes N L j n m x w e w')
theorem EnK.cells {w : World} {B g cap : Nat} {N : Nat → Prop} {L : List RE} (h : EnK w B N (.slice (some ⟨g, 0, none⟩) L.length cap) L) {j : Nat} (hj : j < L.length) (k : Nat) (hk : k < 8) : w.cell? ⟨g, j * 8 + k, none⟩ = (cells8 L[j])[k]? :=
  (h.own.cellAt _ (by omega)).trans (flat8_at L j L[j] (List.getElem?_eq_getElem hj) k hk)

set_option maxHeartbeats 4000000 in
theorem store6_put {N : Nat → Prop} (v : Value) (n m M : Nat) (L : List RE) (v0 : Value) (o : Ob) (j : Nat) (hj : j < L.length) (i : Int) (hi : (L[j].1.id : Int) = i) (a : Nat) (ok : Bool) (w : World) (h : SpV N w v L) (ho : ObjAt w v0 o) (hl : L.length ≤ 1000000) (hg : GoodE M (entsOf L)) (hok : okO o = true) (hn : n ≤ 1000000) (hG : Good n (rowsE (entsOf L))) (hR : Room n (rowsE (entsOf L)) (erow L[j].1) (szO o) a ok) :
    Calls Tryz.prog 13 #[.agg #[v, .int .i64 n, .int .i64 m], .int .i64 i, v0] w (StPut N v L j n m ok ⟨L[j].1.id, o, a⟩ w) := by
  obtain ⟨b0, off, c, rfl, hNb, hrow⟩ := h.at_ j hj
  have HO := Lib.hid ho
  have HV := Lib.hid h
  have HL := Lib.hid hl
  have HOK := Lib.hid hok
  have HJ := Lib.hid hj
  have HID := Lib.hid hi
  have HGE : Hid (∀ p ∈ L, okO p.1.o = true) := Lib.hid (fun p hp => hg.ok _ (List.mem_map.2 ⟨p, hp, rfl⟩))
  have HB0 : Hid (b0 < w.heap.size) := Lib.hid (World.block_lt_of_cell? _ _ hrow.c0)
  obtain ⟨wv, bv, rfl, _⟩ := ho
  obtain ⟨x1, x2, x3, x4, x5⟩ := st_entry w (.slice (some ⟨b0, off, none⟩) L.length c) (.int .i64 o.c) (.int .i64 o.k) wv bv n m
  have HE := Lib.hid (find6_at _ n m M L j hj _ (h.fresh x4) hl hg)
  rw [hi] at HE
  obtain ⟨g1, g2, g3, t, hset, hgs⟩ := set_r (E := entsOf L) (x := L[j].1) (List.mem_map.2 ⟨L[j], List.getElem_mem hj, rfl⟩) hR hok hn hG (by rw [ents_len]; exact hl)
  obtain ⟨k1, hk1⟩ : ∃ k, L[j].1.f = k := ⟨_, rfl⟩
  obtain ⟨k2, hk2⟩ : ∃ k, len (erow L[j].1) = k := ⟨_, rfl⟩
  obtain ⟨k3, hk3⟩ : ∃ k, (encO L[j].1.o).length = k := ⟨_, rfl⟩
  unfold SetR at hset
  rw [hk1, hk2, hk3] at hset
  have HSET := Lib.hid hset
  have HGS := Lib.hid hgs
  have HR5 : Hid (∀ w', Below w.heap.size w w' → w'.cell? ⟨b0, off + j * 8 + 5, none⟩ = some (.int .i64 k1) ∧ w'.cell? ⟨b0, off + j * 8 + 5 + 1, none⟩ = some (.int .i64 k2) ∧ w'.cell? ⟨b0, off + j * 8 + 5 + 2, none⟩ = some (.int .i64 k3)) := Lib.hid (fun w' hb => by
    have h5 : w.cell? ⟨b0, off + j * 8 + 5, none⟩ = some (.int .i64 k1) := by rw [← hk1]; exact hrow.c5
    have h6 : w.cell? ⟨b0, off + j * 8 + 5 + 1, none⟩ = some (.int .i64 k2) := by rw [← hk2]; exact hrow.c6
    have h7 : w.cell? ⟨b0, off + j * 8 + 5 + 2, none⟩ = some (.int .i64 k3) := by rw [← hk3]; exact hrow.c7
    exact ⟨(hb.cell (p := ⟨b0, _, none⟩) HB0.out).trans h5, (hb.cell (p := ⟨b0, _, none⟩) HB0.out).trans h6, (hb.cell (p := ⟨b0, _, none⟩) HB0.out).trans h7⟩)
  have X1 := Lib.hid x1
  have X2 := Lib.hid x2
  have X3 := Lib.hid x3
  have X4 := Lib.hid x4
  obtain ⟨p, hp⟩ : ∃ p, w.heap.size = p := ⟨_, rfl⟩
  have HP := Lib.hid hp
  rw [hp] at X1 X2 X3
  obtain ⟨y0, y1, y2, _, _⟩ := X1.out
  have hj0 : decide ((j : Int) < 0) = false := decide_eq_false (by omega)
  clear x1 x2 x3 x4 x5 h hi hrow hset hgs hk1 hk2 hk3 hNb hR hg hG
  go_enter Tryz.func13, Tryz.ntmps13
  go_wp2_with fail
  refine HE.out.mono ?_
  rintro e w1 ⟨rfl, b1⟩
  have B1 := Lib.hid (X4.out.trans (b1.mono X4.out.size))
  have Z1 := Lib.hid (X1.out.fresh b1)
  have Z2 : Hid (Wd.Box (p + 1) (.int .i64 o.c) (.int .i64 o.k) wv bv w1) := Lib.hid (box_only (F := fun _ => False) X2.out (Only.of_below (F := fun _ => False) b1) id)
  have Z3 := Lib.hid (X3.out.fresh b1)
  have HC := Lib.hid (Wd.refencode_yes _ o w1 (HO.out.kept B1.out) hok)
  obtain ⟨⟨q0, q1, q2, q3⟩, _, _⟩ := Z2.out
  clear b1 y0 y1 y2 hp hok
  go_wp2_with fail
  refine HC.out.mono ?_
  rintro e w2 ⟨ve, rfl, own2, b2⟩
  have B2 := Lib.hid (B1.out.trans (b2.mono B1.out.size))
  have V1 := Lib.hid (Z1.out.fresh b2)
  have V2 : Hid (Wd.Box (p + 1) (.int .i64 o.c) (.int .i64 o.k) wv bv w2) := Lib.hid (box_only (F := fun _ => False) Z2.out (Only.of_below (F := fun _ => False) b2) id)
  have V3 := Lib.hid (Z3.out.fresh b2)
  obtain ⟨g01, g02, g03, _, _⟩ := V1.out
  obtain ⟨g04, g05, g06⟩ := HR5.out w2 B2.out
  obtain ⟨ae, ce, rfl, _⟩ := Wd.own_room own2
  have VE : Hid (Bts (w.heap.size ≤ ·) w2 (.slice ae (encO o).length ce) (encO o)) := Lib.hid (Vals.kind (Vals.of_own (e := 5) (by rw [List.length_map]; exact own2)) (fun b _ hN => Nat.le_trans B1.out.size hN))
  have P2 : Hid (p < w2.heap.size ∧ b0 < w2.heap.size) := Lib.hid ⟨V1.out.2.2.2.2, Nat.lt_of_lt_of_le HB0.out B2.out.size⟩
  have S0 : (w2.drew.cell? ⟨p, 0, none⟩ = some (.slice (some ⟨b0, off, none⟩) L.length c) ∧ w2.drew.cell? ⟨p, 1, none⟩ = some (.int .i64 n) ∧ w2.drew.cell? ⟨p, 2, none⟩ = some (.int .i64 m) ∧ w2.drew.cell? ⟨b0, off + j * 8 + 5, none⟩ = some (.int .i64 k1) ∧ w2.drew.cell? ⟨b0, off + j * 8 + 5 + 1, none⟩ = some (.int .i64 k2) ∧ w2.drew.cell? ⟨b0, off + j * 8 + 5 + 2, none⟩ = some (.int .i64 k3) ∧ Hid (Below w2.heap.size w2 w2.drew)) := ⟨g01, g02, g03, g04, g05, g06, Lib.hid (below_drewN _ _ 1)⟩
  have HKO : Hid (∀ wa wb : World, Only (w2.heap.size ≤ ·) wa wb → (wa.cell? ⟨p, 0, none⟩ = some (.slice (some ⟨b0, off, none⟩) L.length c) ∧ wa.cell? ⟨p, 1, none⟩ = some (.int .i64 n) ∧ wa.cell? ⟨p, 2, none⟩ = some (.int .i64 m) ∧ wa.cell? ⟨b0, off + j * 8 + 5, none⟩ = some (.int .i64 k1) ∧ wa.cell? ⟨b0, off + j * 8 + 5 + 1, none⟩ = some (.int .i64 k2) ∧ wa.cell? ⟨b0, off + j * 8 + 5 + 2, none⟩ = some (.int .i64 k3) ∧ Hid (Below w2.heap.size w2 wa)) → (wb.cell? ⟨p, 0, none⟩ = some (.slice (some ⟨b0, off, none⟩) L.length c) ∧ wb.cell? ⟨p, 1, none⟩ = some (.int .i64 n) ∧ wb.cell? ⟨p, 2, none⟩ = some (.int .i64 m) ∧ wb.cell? ⟨b0, off + j * 8 + 5, none⟩ = some (.int .i64 k1) ∧ wb.cell? ⟨b0, off + j * 8 + 5 + 1, none⟩ = some (.int .i64 k2) ∧ wb.cell? ⟨b0, off + j * 8 + 5 + 2, none⟩ = some (.int .i64 k3) ∧ Hid (Below w2.heap.size w2 wb))) :=
    Lib.hid (fun wa wb o h => by
      have hpl : ∀ (k j : Nat) (v : Value), k < w2.heap.size → wa.cell? ⟨k, j, none⟩ = some v → wb.cell? ⟨k, j, none⟩ = some v := fun k j v hk hv => (o.cell (p := ⟨k, j, none⟩) (World.block_lt_of_cell? _ _ hv) (by show ¬ w2.heap.size ≤ k; omega)).trans hv
      obtain ⟨h1, h2, h3, h4, h5, h6, h7⟩ := h
      have hp1 := P2.out.1
      have hp2 := P2.out.2
      exact ⟨hpl _ _ _ hp1 h1, hpl _ _ _ hp1 h2, hpl _ _ _ hp1 h3, hpl _ _ _ hp2 h4, hpl _ _ _ hp2 h5, hpl _ _ _ hp2 h6, Lib.hid (h7.out.trans (o.below (B := w2.heap.size) (fun i hi e => by omega) h7.out.size))⟩)
  have HK : Hid (∀ wa wb : World, Below wa.heap.size wa wb → (wa.cell? ⟨p, 0, none⟩ = some (.slice (some ⟨b0, off, none⟩) L.length c) ∧ wa.cell? ⟨p, 1, none⟩ = some (.int .i64 n) ∧ wa.cell? ⟨p, 2, none⟩ = some (.int .i64 m) ∧ wa.cell? ⟨b0, off + j * 8 + 5, none⟩ = some (.int .i64 k1) ∧ wa.cell? ⟨b0, off + j * 8 + 5 + 1, none⟩ = some (.int .i64 k2) ∧ wa.cell? ⟨b0, off + j * 8 + 5 + 2, none⟩ = some (.int .i64 k3) ∧ Hid (Below w2.heap.size w2 wa)) → (wb.cell? ⟨p, 0, none⟩ = some (.slice (some ⟨b0, off, none⟩) L.length c) ∧ wb.cell? ⟨p, 1, none⟩ = some (.int .i64 n) ∧ wb.cell? ⟨p, 2, none⟩ = some (.int .i64 m) ∧ wb.cell? ⟨b0, off + j * 8 + 5, none⟩ = some (.int .i64 k1) ∧ wb.cell? ⟨b0, off + j * 8 + 5 + 1, none⟩ = some (.int .i64 k2) ∧ wb.cell? ⟨b0, off + j * 8 + 5 + 2, none⟩ = some (.int .i64 k3) ∧ Hid (Below w2.heap.size w2 wb))) := Lib.hid (fun wa wb b h => HKO.out wa wb (Only.of_below b) h)
  have S1 : ((w2.alloc (.cells #[.int .i64 0, .int .i64 0, .int .i64 0] 47)).drew.cell? ⟨p, 0, none⟩ = some (.slice (some ⟨b0, off, none⟩) L.length c) ∧ (w2.alloc (.cells #[.int .i64 0, .int .i64 0, .int .i64 0] 47)).drew.cell? ⟨p, 1, none⟩ = some (.int .i64 n) ∧ (w2.alloc (.cells #[.int .i64 0, .int .i64 0, .int .i64 0] 47)).drew.cell? ⟨p, 2, none⟩ = some (.int .i64 m) ∧ (w2.alloc (.cells #[.int .i64 0, .int .i64 0, .int .i64 0] 47)).drew.cell? ⟨b0, off + j * 8 + 5, none⟩ = some (.int .i64 k1) ∧ (w2.alloc (.cells #[.int .i64 0, .int .i64 0, .int .i64 0] 47)).drew.cell? ⟨b0, off + j * 8 + 5 + 1, none⟩ = some (.int .i64 k2) ∧ (w2.alloc (.cells #[.int .i64 0, .int .i64 0, .int .i64 0] 47)).drew.cell? ⟨b0, off + j * 8 + 5 + 2, none⟩ = some (.int .i64 k3) ∧ Hid (Below w2.heap.size w2 (w2.alloc (.cells #[.int .i64 0, .int .i64 0, .int .i64 0] 47)).drew)) := HK.out _ _ (show Below w2.drew.heap.size w2.drew (w2.alloc (.cells #[.int .i64 0, .int .i64 0, .int .i64 0] 47)).drew from (Below.refl _ _).alloc (Nat.le_refl _) (.cells #[.int .i64 0, .int .i64 0, .int .i64 0] 47)) S0
  have HKS : Hid (∀ wa : World, (wa.cell? ⟨p, 0, none⟩ = some (.slice (some ⟨b0, off, none⟩) L.length c) ∧ wa.cell? ⟨p, 1, none⟩ = some (.int .i64 n) ∧ wa.cell? ⟨p, 2, none⟩ = some (.int .i64 m) ∧ wa.cell? ⟨b0, off + j * 8 + 5, none⟩ = some (.int .i64 k1) ∧ wa.cell? ⟨b0, off + j * 8 + 5 + 1, none⟩ = some (.int .i64 k2) ∧ wa.cell? ⟨b0, off + j * 8 + 5 + 2, none⟩ = some (.int .i64 k3) ∧ Hid (Below w2.heap.size w2 wa)) → w2.heap.size ≤ wa.heap.size) := Lib.hid (fun wa h => h.2.2.2.2.2.2.out.size)
  have HKB : Hid (∀ wa : World, (wa.cell? ⟨p, 0, none⟩ = some (.slice (some ⟨b0, off, none⟩) L.length c) ∧ wa.cell? ⟨p, 1, none⟩ = some (.int .i64 n) ∧ wa.cell? ⟨p, 2, none⟩ = some (.int .i64 m) ∧ wa.cell? ⟨b0, off + j * 8 + 5, none⟩ = some (.int .i64 k1) ∧ wa.cell? ⟨b0, off + j * 8 + 5 + 1, none⟩ = some (.int .i64 k2) ∧ wa.cell? ⟨b0, off + j * 8 + 5 + 2, none⟩ = some (.int .i64 k3) ∧ Hid (Below w2.heap.size w2 wa)) → Hid (Below w2.heap.size w2 wa)) := Lib.hid (fun wa h => h.2.2.2.2.2.2)
  have HRW : Hid (∀ wa : World, (wa.cell? ⟨p, 0, none⟩ = some (.slice (some ⟨b0, off, none⟩) L.length c) ∧ wa.cell? ⟨p, 1, none⟩ = some (.int .i64 n) ∧ wa.cell? ⟨p, 2, none⟩ = some (.int .i64 m) ∧ wa.cell? ⟨b0, off + j * 8 + 5, none⟩ = some (.int .i64 k1) ∧ wa.cell? ⟨b0, off + j * 8 + 5 + 1, none⟩ = some (.int .i64 k2) ∧ wa.cell? ⟨b0, off + j * 8 + 5 + 2, none⟩ = some (.int .i64 k3) ∧ Hid (Below w2.heap.size w2 wa)) → Calls Tryz.prog 30 #[.agg #[.slice (some ⟨b0, off, none⟩) L.length c, .int .i64 n, .int .i64 m]] wa (RowsP L wa)) := Lib.hid (fun wa h => rows6_any _ n m L wa ((HV.out.fresh B2.out).fresh (h.2.2.2.2.2.2.out)) hl HGE.out)
  have HPU : Hid (∀ (wa : World) (Q : Nat → Prop) (v : Value) (LR : List RV), (wa.cell? ⟨p, 0, none⟩ = some (.slice (some ⟨b0, off, none⟩) L.length c) ∧ wa.cell? ⟨p, 1, none⟩ = some (.int .i64 n) ∧ wa.cell? ⟨p, 2, none⟩ = some (.int .i64 m) ∧ wa.cell? ⟨b0, off + j * 8 + 5, none⟩ = some (.int .i64 k1) ∧ wa.cell? ⟨b0, off + j * 8 + 5 + 1, none⟩ = some (.int .i64 k2) ∧ wa.cell? ⟨b0, off + j * 8 + 5 + 2, none⟩ = some (.int .i64 k3) ∧ Hid (Below w2.heap.size w2 wa)) → RowsV Q wa v LR → rowsOf LR = rowsE (entsOf L) → Calls Tryz.prog 37 #[v, .int .i64 n, .agg #[.int .i64 k1, .int .i64 k2, .int .i64 k3], .slice ae (encO o).length ce] wa fun e w' => ∃ v', e = .returned (.tuple #[v', .agg #[.int .i64 g1, .int .i64 g2, .int .i64 g3], .int .i64 t]) ∧ Below wa.heap.size wa w') := Lib.hid (fun wa Q v LR h hv hr => by
    have hv' : Bts (fun b => Q b ∨ w.heap.size ≤ b) wa (.slice ae (encO o).length ce) (encO o) := Vals.kind (Vals.only VE.out (Only.of_below (F := fun _ => False) h.2.2.2.2.2.2.out) (fun _ _ h => h)) (fun b _ hb => .inr hb)
    exact HSET.out (fun b => Q b ∨ w.heap.size ≤ b) wa v _ LR (hv.kind (fun b _ hb => .inl hb)) hv' hr)
  have XB2 := Lib.hid b2
  clear b2 q0 q1 q2 q3 own2
  go_upto_region 7 with fail
  go_cut [11, 12, 13] (fun s11 s12 s13 wx => ∃ q, s12 = .pointer (some ⟨q, 0, none⟩) ∧ s13 = .int .i64 t ∧ Hid (Below w2.heap.size w2 wx) ∧ Hid (Box3 wx q g1 g2 g3))
  case first =>
    go_region_held3 (fun w' => (w'.cell? ⟨p, 0, none⟩ = some (.slice (some ⟨b0, off, none⟩) L.length c) ∧ w'.cell? ⟨p, 1, none⟩ = some (.int .i64 n) ∧ w'.cell? ⟨p, 2, none⟩ = some (.int .i64 m) ∧ w'.cell? ⟨b0, off + j * 8 + 5, none⟩ = some (.int .i64 k1) ∧ w'.cell? ⟨b0, off + j * 8 + 5 + 1, none⟩ = some (.int .i64 k2) ∧ w'.cell? ⟨b0, off + j * 8 + 5 + 2, none⟩ = some (.int .i64 k3) ∧ Hid (Below w2.heap.size w2 w'))) (first | (assumption) | (exact S0) | (exact HK.out _ _ ((Below.refl _ _).alloc (Nat.le_refl _) _) HS3.out) | (exact S1) | (refine HK.out _ _ hb2 ?_; assumption) | (refine HK.out _ _ hb3 ?_; assumption) | (refine HK.out _ _ ((Below.refl _ _).alloc (Nat.le_refl _) _) ?_; assumption) | (refine HKO.out _ _ (put3_only (Only.refl _ _) (.inl (by first | exact Nat.le_refl _ | exact hs2.out))) ?_; assumption)) (first | (go_at_call 30; refine (HRW.out _ (by assumption)).mono ?_; rintro e w4 ⟨u, LR, rfl, hrw, hro, hb2⟩; have hs2 := Lib.hid (Nat.le_trans (HKS.out _ (by assumption)) hb2.size); have XB : Hid (Box3 w4 w2.heap.size 0 0 0) := Lib.hid ((box3_new w2 0 0 0 47).fresh (w' := w4) ⟨hb2.os, hb2.tape, hb2.output, hb2.size, hb2.block⟩); obtain ⟨n1, n2, n3, nf, _⟩ := XB.out; have nf0 := nf 0; have nf1 := nf 1; have nf2 := nf 2; clear nf) | (go_at_call 30; refine (HRW.out _ (by assumption)).mono ?_; rintro e w4 ⟨u, LR, rfl, hrw, hro, hb2⟩; have hs2 := Lib.hid (Nat.le_trans (HKS.out _ (by assumption)) hb2.size)) | (go_at_call 37; refine (HPU.out _ _ u LR (by assumption) hrw hro).mono ?_; rintro e w3 ⟨v6, rfl, hb3⟩; have XC := Lib.hid (XB.out.fresh hb3); obtain ⟨k1', k2', k3', kf, _⟩ := XC.out; have kf0 := kf 0; have kf1 := kf 1; have kf2 := kf 2; clear kf) | (go_at_call 37; refine (HPU.out _ _ u LR (by assumption) (hrw.fresh ((Below.refl _ _).alloc (Nat.le_refl _) _)) hro).mono ?_; rintro e w3 ⟨v6, rfl, hb3⟩; have XC := Lib.hid ((box3_new w4 0 0 0 47).fresh hb3); obtain ⟨k1', k2', k3', kf, _⟩ := XC.out; have kf0 := kf 0; have kf1 := kf 1; have kf2 := kf 2; clear kf) | (go_at_call 37; refine (HPU.out _ _ u LR (by assumption) hrw hro).mono ?_; rintro e w3 ⟨v6, rfl, hb3⟩; have HS3 := Lib.hid (HK.out _ _ hb3 (by assumption))))
    all_goals (go_wp2_with fail; go_meet; first | exact ⟨_, rfl, rfl, HKB.out _ (by assumption), XC.out.put _ _ _⟩ | exact ⟨_, rfl, rfl, HKB.out _ (by assumption), box3_new _ _ _ _ _⟩ | exact ⟨_, rfl, rfl, HKB.out _ (by assumption), (box3_new _ _ _ _ _).put _ _ _⟩)
  case rest =>
    obtain ⟨q, rfl, rfl, BX, XQ⟩ := hcut
    have Y1 := Lib.hid (V1.out.fresh BX.out)
    have Y2 : Hid (Wd.Box (p + 1) (.int .i64 o.c) (.int .i64 o.k) wv bv wc) := Lib.hid (box_only (F := fun _ => False) V2.out (Only.of_below (F := fun _ => False) BX.out) id)
    have Y3 := Lib.hid (V3.out.fresh BX.out)
    have BC : Hid (Below w.heap.size w wc) := B2.out.trans (BX.out.mono B2.out.size)
    have VC : Hid (SpV (fun k => N k ∧ k < w.heap.size) wc (.slice (some ⟨b0, off, none⟩) L.length c) L) := (HV.out.kind (M := fun k => N k ∧ k < w.heap.size) (fun k hk hN => ⟨hN, hk⟩)).fresh BC.out
    obtain ⟨i0, i1, i2, _, _⟩ := Y1.out
    clear g01 g02 g03 g04 g05 g06 HKO HK HKS HKB HRW HPU S0 S1
    rcases HGS.out with ⟨rfl, rfl, rfl, rfl, rfl⟩ | ⟨rfl, rfl⟩
    · obtain ⟨v3, w4, happ, en4, hg4, hat4⟩ := append_ents (N := fun k => N k ∧ k < w.heap.size) (M := fun k => N k ∧ k < w.heap.size) (B := wc.heap.size) wc (.slice none 0 0) _ [] L ⟨World.ownsRow_nil _ _ _ _, fun p hp => by cases hp⟩ (fun k _ e => by cases e) VC.out (fun k hk => ⟨fun e => (by cases e), hk⟩) (by simpa using HL.out) (Nat.le_refl _) 30
      rw [List.nil_append] at en4
      have hb4 : Below wc.heap.size wc w4 := (Below.refl _ _).grown hg4 (Nat.le_refl _) (fun k hk => by simp [Value.ownBlock] at hk)
      obtain ⟨g, cap, rfl⟩ : ∃ g cap, v3 = .slice (some ⟨g, 0, none⟩) L.length cap := by
        rcases en4.own.2 with ⟨_, h0⟩ | ⟨g, cap, cur, h, _⟩
        · have := HJ.out; omega
        · exact ⟨g, cap, h⟩
      have HAPP := Lib.hid happ
      have EN4 := Lib.hid en4
      have B4 := Lib.hid hb4
      have HG : Hid (wc.heap.size ≤ g ∧ g < w4.heap.size) := Lib.hid (en4.own.lt g rfl)
      have T1 := Lib.hid (Y1.out.fresh hb4)
      have T2 : Hid (Wd.Box (p + 1) (.int .i64 o.c) (.int .i64 o.k) wv bv w4) := Lib.hid (box_only (F := fun _ => False) Y2.out (Only.of_below (F := fun _ => False) hb4) id)
      have T3 := Lib.hid (Y3.out.fresh hb4)
      have TQ := Lib.hid (XQ.out.fresh hb4)
      clear happ en4 hg4 hat4 hb4
      go_wp2_with (at_builtin; refine wpList_append_eq _ rfl _ _ 30 rfl _ _ _ _ rfl rfl HAPP.out ?_)
      go_wp2_with fail
      obtain ⟨z, hz⟩ : ∃ z, szO o = z := ⟨_, rfl⟩
      obtain ⟨y, hy⟩ : ∃ y, (encO o).length = y := ⟨_, rfl⟩
      have HZ := Lib.hid hz
      have HY := Lib.hid hy
      rw [hz, hy] at TQ
      have HOC : Hid (ObjAt w4.drew (.agg #[.int .i64 o.c, .int .i64 o.k, wv, bv]) o) := Lib.hid (HO.out.kept (BC.out.trans ((B4.out.trans (below_drewN w4 _ 1)).mono BC.out.size)))
      have HCP := Lib.hid (refcopy_any _ o w4.drew HOC.out (by have := (short_of HOK.out).1; omega) (by have := (short_of HOK.out).2; omega))
      obtain ⟨⟨r0, r1, r2, r3⟩, _, _⟩ := T2.out
      obtain ⟨q0, q1, q2, _, _⟩ := TQ.out
      have SK : Hid (∀ w5 : World, Only (wc.heap.size ≤ ·) w4.drew w5 → (w5.cell? ⟨p + 1, 0, none⟩ = some (.int .i64 o.c) ∧ w5.cell? ⟨p + 1, 1, none⟩ = some (.int .i64 o.k) ∧ w5.cell? ⟨p + 1, 2, none⟩ = some wv ∧ w5.cell? ⟨p + 1, 3, none⟩ = some bv ∧ w5.cell? ⟨q, 0, none⟩ = some (.int .i64 a) ∧ w5.cell? ⟨q, 1, none⟩ = some (.int .i64 z) ∧ w5.cell? ⟨q, 2, none⟩ = some (.int .i64 y))) := Lib.hid (fun w5 o5 => by
        have l2 := Y2.out.2.2
        have l3 := XQ.out.2.2.2.2
        have l4 := B4.out.size
        have k1 : ∀ (k j : Nat) (u : Value), k < wc.heap.size → w4.cell? ⟨k, j, none⟩ = some u → w5.cell? ⟨k, j, none⟩ = some u := fun k j u hk hu => (o5.cell (p := ⟨k, j, none⟩) (show k < w4.heap.size by omega) (by show ¬ wc.heap.size ≤ k; omega)).trans hu
        exact ⟨k1 _ _ _ l2 T2.out.1.1, k1 _ _ _ l2 T2.out.1.2.1, k1 _ _ _ l2 T2.out.1.2.2.1, k1 _ _ _ l2 T2.out.1.2.2.2, k1 _ _ _ l3 TQ.out.1, k1 _ _ _ l3 TQ.out.2.1, k1 _ _ _ l3 TQ.out.2.2.1⟩)
      have EK : Hid (∀ w5 : World, Below w4.drew.heap.size w4.drew w5 → EnK w5 wc.heap.size (fun k => N k ∧ k < w.heap.size) (.slice (some ⟨g, 0, none⟩) L.length cap) L) := Lib.hid (fun w5 hb => EN4.out.fresh (w' := w5) ⟨hb.os, hb.tape, hb.output, hb.size, hb.block⟩)
      have hjl := HJ.out
      have S00 := SK.out _ (Only.refl _ _)
      clear hz hy
      go_region_held3 (fun w5 => w5.cell? ⟨p + 1, 0, none⟩ = some (.int .i64 o.c) ∧ w5.cell? ⟨p + 1, 1, none⟩ = some (.int .i64 o.k) ∧ w5.cell? ⟨p + 1, 2, none⟩ = some wv ∧ w5.cell? ⟨p + 1, 3, none⟩ = some bv ∧ w5.cell? ⟨q, 0, none⟩ = some (.int .i64 a) ∧ w5.cell? ⟨q, 1, none⟩ = some (.int .i64 z) ∧ w5.cell? ⟨q, 2, none⟩ = some (.int .i64 y)) (first | (with_reducible exact SK.out _ (Only.of_below hb5)) | (refine SK.out _ ?_; (repeat (with_reducible refine Only.setCell ?_ _ (.inl HG.out.1) _)); with_reducible exact (Only.of_below hb5)) | (exact S00)) (first | (go_at_call 31; refine HCP.out.mono ?_; rintro e w5 ⟨a1, c1, a2, c2, rfl, oi5, hb5⟩; have E5 := Lib.hid (EK.out _ hb5); have d0 := E5.out.cells hjl 0 (by omega); have d1 := E5.out.cells hjl 1 (by omega); have d2 := E5.out.cells hjl 2 (by omega); have d3 := E5.out.cells hjl 3 (by omega); have d4 := E5.out.cells hjl 4 (by omega); have d5 := E5.out.cells hjl 5 (by omega); have d6 := E5.out.cells hjl 6 (by omega); have d7 := E5.out.cells hjl 7 (by omega); have z0 := E5.out.own.frozenAt (j * 8); have z1 := E5.out.own.frozenAt (j * 8 + 1); have z2 := E5.out.own.frozenAt (j * 8 + 2); have z3 := E5.out.own.frozenAt (j * 8 + 3); have z4 := E5.out.own.frozenAt (j * 8 + 4); have z5 := E5.out.own.frozenAt (j * 8 + 5); have z6 := E5.out.own.frozenAt (j * 8 + 6); have z7 := E5.out.own.frozenAt (j * 8 + 7); simp only [cells8, List.getElem?_cons_zero, List.getElem?_cons_succ, Nat.add_zero] at d0 d1 d2 d3 d4 d5 d6 d7))
      have hput : put8W w5 g (j * 8) (⟨L[j].1.id, o, a⟩, .slice a1 o.w.length c1, .slice a2 o.b.length c2) = ((((((((w5.setCell ⟨g, j * 8, none⟩ (.int .i64 i)).setCell ⟨g, j * 8 + 1, none⟩ (.int .i64 o.c)).setCell ⟨g, j * 8 + 2, none⟩ (.int .i64 o.k)).setCell ⟨g, j * 8 + 3, none⟩ (.slice a1 o.w.length c1)).setCell ⟨g, j * 8 + 4, none⟩ (.slice a2 o.b.length c2)).setCell ⟨g, j * 8 + 5, none⟩ (.int .i64 a)).setCell ⟨g, j * 8 + 6, none⟩ (.int .i64 z)).setCell ⟨g, j * 8 + 7, none⟩ (.int .i64 y)) := by
        have key : ∀ (i' : Int) (z' y' : Nat), i' = i → z' = z → y' = y → ((((((((w5.setCell ⟨g, j * 8, none⟩ (.int .i64 i')).setCell ⟨g, j * 8 + 1, none⟩ (.int .i64 o.c)).setCell ⟨g, j * 8 + 2, none⟩ (.int .i64 o.k)).setCell ⟨g, j * 8 + 3, none⟩ (.slice a1 o.w.length c1)).setCell ⟨g, j * 8 + 4, none⟩ (.slice a2 o.b.length c2)).setCell ⟨g, j * 8 + 5, none⟩ (.int .i64 a)).setCell ⟨g, j * 8 + 6, none⟩ (.int .i64 z')).setCell ⟨g, j * 8 + 7, none⟩ (.int .i64 y')) = ((((((((w5.setCell ⟨g, j * 8, none⟩ (.int .i64 i)).setCell ⟨g, j * 8 + 1, none⟩ (.int .i64 o.c)).setCell ⟨g, j * 8 + 2, none⟩ (.int .i64 o.k)).setCell ⟨g, j * 8 + 3, none⟩ (.slice a1 o.w.length c1)).setCell ⟨g, j * 8 + 4, none⟩ (.slice a2 o.b.length c2)).setCell ⟨g, j * 8 + 5, none⟩ (.int .i64 a)).setCell ⟨g, j * 8 + 6, none⟩ (.int .i64 z)).setCell ⟨g, j * 8 + 7, none⟩ (.int .i64 y)) := by
          rintro _ _ _ rfl rfl rfl
          rfl
        exact key _ _ _ HID.out HZ.out HY.out
      have hbc := BC.out.size
      have h4c := B4.out.size
      have hgg := HG.out
      have E9 : EnK w5 wc.heap.size (fun k => (N k ∧ k < w.heap.size) ∨ w4.heap.size ≤ k) (.slice (some ⟨g, 0, none⟩) L.length cap) L := ⟨E5.out.own, fun p hp => (E5.out.each p hp).kind (fun _ _ h => .inl h)⟩
      have Q9 := (E9.put (j := j) (fun k hk e => by
        rcases hk with hk | hk
        · have := hk.2; omega
        · omega) hjl (⟨L[j].1.id, o, a⟩, .slice a1 o.w.length c1, .slice a2 o.b.length c2) (oi5.kind (fun k _ hk => .inr hk))).sp
      have o6 : Only (wc.heap.size ≤ ·) w4.drew (put8W w5 g (j * 8) (⟨L[j].1.id, o, a⟩, .slice a1 o.w.length c1, .slice a2 o.b.length c2)) := put8_only (Only.of_below hb5) (.inl hgg.1)
      rw [hput] at Q9 o6
      clear S00 d0 d1 d2 d3 d4 d5 d6 d7 z0 z1 z2 z3 z4 z5 z6 z7 hput E9
      generalize ((((((((w5.setCell ⟨g, j * 8, none⟩ (.int .i64 i)).setCell ⟨g, j * 8 + 1, none⟩ (.int .i64 o.c)).setCell ⟨g, j * 8 + 2, none⟩ (.int .i64 o.k)).setCell ⟨g, j * 8 + 3, none⟩ (.slice a1 o.w.length c1)).setCell ⟨g, j * 8 + 4, none⟩ (.slice a2 o.b.length c2)).setCell ⟨g, j * 8 + 5, none⟩ (.int .i64 a)).setCell ⟨g, j * 8 + 6, none⟩ (.int .i64 z)).setCell ⟨g, j * 8 + 7, none⟩ (.int .i64 y)) = w6 at Q9 o6 ⊢
      have D4 : Below w4.heap.size w4 w4.drew := below_drewN w4 _ 1
      have l1 := Y1.out.2.2.2.2
      have l3 := Y3.out.2.2.2.2
      have SP6 := Lib.hid Q9
      have B6 : Hid (Below w.heap.size w w6) := Lib.hid ((BC.out.trans ((B4.out.trans (below_drewN w4 _ 1)).mono BC.out.size)).trans (o6.below (fun i hi e => by omega) (Nat.le_trans BC.out.size (Nat.le_trans B4.out.size D4.size))))
      have U1 := Lib.hid ((T1.out.fresh D4).only o6 (by show ¬ wc.heap.size ≤ p; omega))
      have U3 := Lib.hid ((T3.out.fresh D4).only o6 (by show ¬ wc.heap.size ≤ p + 2; omega))
      obtain ⟨s0, s1, s2, _, _⟩ := U1.out
      obtain ⟨u0, u1, u2, uf, _⟩ := U3.out
      have uf0 := uf 0
      have uf1 := uf 1
      have uf2 := uf 2
      have hpp := HP.out
      have h02 : ¬ p = p + 2 := by omega
      clear uf hb5 oi5 Q9 o6 r0 r1 r2 r3 q0 q1 q2 i0 i1 i2 E5
      go_wp2_with fail
      (try simp only [Exit.inBlock, Exit.then])
      have hb9 := U3.out.put (.slice (some ⟨g, 0, none⟩) L.length cap) n m
      have ho9 : Only (· = p + 2) w6 (((w6.setCell ⟨p + 2, 0, none⟩ (.slice (some ⟨g, 0, none⟩) L.length cap)).setCell ⟨p + 2, 1, none⟩ (.int .i64 n)).setCell ⟨p + 2, 2, none⟩ (.int .i64 m)) := putS_only (F := (· = p + 2)) (Only.refl _ _) (.inl rfl)
      refine bodyPost_ret (res_S2 rfl rfl hb9) rfl (.inr ⟨rfl, _, _, _, _, rfl, (SP6.out.only ho9 (fun k hk e => by
        rcases hk with (hk | hk) | hk
        · have := hk.2; omega
        · omega
        · omega)).kind (fun k _ hk => by
        rcases hk with (hk | hk) | hk
        · exact .inl hk.1
        · exact .inr (by omega)
        · exact .inr (by omega)), B6.out.trans (ho9.below (fun i hi e => by omega) B6.out.size)⟩)
    · obtain ⟨t0, t1, t2, tf, _⟩ := Y3.out
      have f0 := tf 0
      have f1 := tf 1
      have f2 := tf 2
      clear tf
      go_wp2_with fail
      (try simp only [Exit.inBlock, Exit.then])
      have hb9 := Y3.out.put (.slice (some ⟨b0, off, none⟩) L.length c) n m
      have O9 : Only (· = p + 2) wc (((wc.setCell ⟨p + 2, 0, none⟩ (.slice (some ⟨b0, off, none⟩) L.length c)).setCell ⟨p + 2, 1, none⟩ (.int .i64 n)).setCell ⟨p + 2, 2, none⟩ (.int .i64 m)) := putS_only (Only.refl _ _) (.inl rfl)
      have hpp := HP.out
      have B9 := BC.out
      refine bodyPost_ret (res_S2 rfl rfl hb9) rfl (.inl ⟨rfl, rfl, B9.trans (O9.below (fun i hi e => by omega) B9.size)⟩)
end Go.Proofs.YtccpmaahnfgkeaaGreatDoor
