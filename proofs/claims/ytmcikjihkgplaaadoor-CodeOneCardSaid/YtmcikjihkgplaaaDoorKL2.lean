/- The walks of CodeWrites, CodeOne and CodeAll. -/
import Derived.Test.YtmcikjihkgplaaaDoorKL1
namespace Go.Proofs.YtmcikjihkgplaaaDoor
set_option maxRecDepth 1000000
open Go.ChangeShapes Go.WideShapes Go.ChangeAt Go.RowKit

set_option maxHeartbeats 8000000 in
theorem codeWrites_walk {N : Nat → Prop} (W : World) (hT : Tabs W) (v : Value) (L : List OpT) (hv : OpsAt N W v L) :
    Calls Tryd.prog 5 #[v] W fun e W' => e = .returned (.bool true) ∧ Below W.heap.size W W' := by
  have HV := Lib.hid hv
  have HT := Lib.hid hT
  have HK := Lib.hid (fun w' (h : Below W.heap.size W w') => known_any w' (hT.next h))
  clear hT
  obtain ⟨ln, hln⟩ : ∃ n, L.length = n := ⟨_, rfl⟩
  have HL := Lib.hid hln
  obtain ⟨va, c, rfl, _⟩ := hv
  rw [hln] at HV ⊢
  clear hln
  by_cases hlt : 12 < ln
  · have d1 : decide (12 < ln) = true := by simpa using hlt
    have d2 : decide ((12 : Int) < ln) = true := by simpa using (by omega : (12 : Int) < ln)
    go_enter Tryd.func5, Tryd.ntmps5
    go_wp2_with (go_at_call 11; refine (HK.out _ (Below.refl _ _)).mono ?_; rintro e w1 ⟨rfl, hb1⟩)
    go_ret
    exact ⟨rfl, hb1⟩
  · have d1 : decide (12 < ln) = false := by simpa using hlt
    have d2 : decide ((12 : Int) < ln) = false := by simpa using (by omega : ¬ (12 : Int) < ln)
    have B1 := Lib.hid (bytes_code _ L W HT.out HV.out (by rw [HL.out]; omega))
    have B2 := Lib.hid (fun w' (h : Below W.heap.size W w') => bytes_ref _ L w' (HV.out.next h) (by rw [HL.out]; omega))
    unfold BytesPost at B1 B2
    go_enter Tryd.func5, Tryd.ntmps5
    go_upto_region 4 with (go_at_call 19; refine B1.out.mono ?_; rintro e w1 ⟨r, v1, j1, rfl, o1, hb1⟩)
    have K1 := Lib.hid hb1
    go_upto_region 5 with (go_at_call 20; refine (B2.out _ K1.out).mono ?_; rintro e w2 ⟨r2, v2, j2, rfl, o2, hb2⟩; obtain rfl := j1.eq j2)
    have K2 := Lib.hid (K1.out.trans (hb2.mono K1.out.size))
    have S := Lib.hid (same_eq v1 v2 _ w2 (OwnB.next o1 hb2).bts o2.bts)
    obtain ⟨er, her⟩ : ∃ x : Int, (if r.isSome = true then 0 else 2) = x := ⟨_, rfl⟩
    have e1 : (er == er) = true := by simp
    rw [her]
    clear j1 j2 o1 o2 hb1 hb2 her
    go_wp2_with (first | (go_at_call 21; refine S.out.mono ?_; rintro e w3 ⟨rfl, rfl⟩) | (go_at_call 11; refine (HK.out _ (K2.out)).mono ?_; rintro e w4 ⟨rfl, hb4⟩))
    all_goals go_ret
    all_goals exact ⟨rfl, K2.out.trans (hb4.mono K2.out.size)⟩

theorem OneIs.tells {o : OpT} {b : List Int} (h : OneIs o (some b)) : tellsB b o = true := by
  cases h with
  | one c h ht => exact ht
  | two h1 c n hc hc2 hn ht => exact ht
  | three h1 h2 c hc ht => unfold ok3 at ht; rw [Bool.and_eq_true] at ht; exact ht.2
theorem bytes_one {o : OpT} {b : List Int} (h : BytesIs [o] (some b)) : OneIs o (some b) := by
  generalize hr : some b = r at h
  cases h with
  | bad _ _ h => cases hr
  | cons _ b' _ r' h hk h2 =>
    cases h2
    simpa using h
theorem tells_at {b : List Int} {o : OpT} (h : tellsB b o = true) : atE b 0 = 0 ∧ (atO b 0).l = (b.length : Int) ∧ (atO b 0).k = o.k ∧ (atO b 0).n = o.n ∧ (atO b 0).m = o.m := by
  unfold tellsB at h
  exact of_decide_eq_true h
set_option maxHeartbeats 8000000 in
theorem codeOne_walk (W : World) (hT : Tabs W) (k n m : Int) :
    Calls Tryd.prog 10 #[.int .i64 k, .int .i64 n, .int .i64 m] W fun e W' => e = .returned (.bool true) ∧ Below W.heap.size W W' := by
  have HT := Lib.hid hT
  have HK := Lib.hid (fun w' (h : Below W.heap.size W w') => known_any w' (hT.next h))
  clear hT
  have B0 := Lib.hid (box_new W (.int .i64 k) (.int .i64 n) (.int .i64 m) (.int .i64 0))
  have K0 := Lib.hid (below_new W (.cells #[.int .i64 k, .int .i64 n, .int .i64 m, .int .i64 0] 25))
  have C1 : Hid (∀ w : World, Tabs w → Calls Tryd.prog 19 #[.slice (some ⟨w.heap.size, 0, none⟩) 1 1] (w.alloc (.cells #[.int .i64 k, .int .i64 n, .int .i64 m, .int .i64 0] 25)) fun e w' => ∃ r v, BytesIs [⟨k, n, m, 0⟩] r ∧ e = .returned (.tuple #[v, .int .i64 (if r.isSome = true then 0 else 2)]) ∧ OwnB (w.heap.size + 1) w' v (r.getD []) ∧ Below w.heap.size w w') := Lib.hid fun w hw =>
    (bytes_code _ [⟨k, n, m, 0⟩] _ (hw.next (below_new w _)) (ownL_lit1 w ⟨k, n, m, 0⟩).ops (by simp)).mono fun e w' ⟨r, v, j, he, o, hb⟩ => ⟨r, v, j, he, by simpa using o, (below_new w _).trans (hb.mono (by simp))⟩
  have C2 : Hid (∀ w : World, Calls Tryd.prog 20 #[.slice (some ⟨w.heap.size, 0, none⟩) 1 1] (w.alloc (.cells #[.int .i64 k, .int .i64 n, .int .i64 m, .int .i64 0] 25)) fun e w' => ∃ r v, BytesIs [⟨k, n, m, 0⟩] r ∧ e = .returned (.tuple #[v, .int .i64 (if r.isSome = true then 0 else 2)]) ∧ OwnB (w.heap.size + 1) w' v (r.getD []) ∧ Below w.heap.size w w') := Lib.hid fun w =>
    (bytes_ref _ [⟨k, n, m, 0⟩] _ (ownL_lit1 w ⟨k, n, m, 0⟩).ops (by simp)).mono fun e w' ⟨r, v, j, he, o, hb⟩ => ⟨r, v, j, he, by simpa using o, (below_new w _).trans (hb.mono (by simp))⟩
  go_enter Tryd.func10, Tryd.ntmps10
  go_upto_region 2 with fail
  generalize W.alloc (.cells #[.int .i64 k, .int .i64 n, .int .i64 m, .int .i64 0] 25) = w0 at *
  obtain ⟨⟨p0, p1, p2, p3⟩, _, _⟩ := B0.out
  go_upto_region 3 with (go_at_call 19; refine (C1.out _ (HT.out.next K0.out)).mono ?_; rintro e w1 ⟨r, v1, j1, rfl, o1, hb1⟩)
  have K1 := Lib.hid (K0.out.trans (hb1.mono K0.out.size))
  have B1 := Lib.hid (B0.out.next hb1)
  have O1 := Lib.hid o1
  have J1 := Lib.hid j1
  clear p0 p1 p2 p3 hb1 j1 o1 B0
  obtain ⟨⟨p0, p1, p2, p3⟩, _, _⟩ := B1.out
  go_upto_region 4 with (go_at_call 20; refine (C2.out _).mono ?_; rintro e w2 ⟨r2, v2, j2, rfl, o2, hb2⟩; obtain rfl := J1.out.eq j2)
  have K2 := Lib.hid (K1.out.trans (hb2.mono K1.out.size))
  have O1' := Lib.hid (OwnB.next O1.out hb2)
  have O2 := Lib.hid o2
  clear p0 p1 p2 p3 hb2 j2 o2 O1 B1 C1 C2
  obtain ⟨a1, c1, rfl⟩ : ∃ x c, v1 = .slice x (r.getD []).length c := own_form O1'.out
  obtain ⟨a2, c2, rfl⟩ : ∃ x c, v2 = .slice x (r.getD []).length c := own_form O2.out
  cases r with
  | none =>
    simp only [Option.getD_none, List.length_nil, Option.isSome_none, Bool.false_eq_true, if_false]
    go_wp2_with (go_at_call 11; refine (HK.out _ (K2.out)).mono ?_; rintro e w3 ⟨rfl, hb3⟩)
    all_goals go_ret
    all_goals exact ⟨rfl, K2.out.trans (hb3.mono K2.out.size)⟩
  | some bs =>
    have hone := bytes_one J1.out
    obtain ⟨l1, l2, l3⟩ := hone.len
    obtain ⟨t1, t2, t3, t4, t5⟩ := tells_at hone.tells
    simp only at t3 t4 t5
    simp only [Option.getD_some, Option.isSome_some, if_true]
    have O1 := Lib.hid O1'.out
    have OO2 := Lib.hid O2.out
    simp only [Option.getD_some] at O1 OO2
    have HAt := Lib.hid (at_code _ bs 0 w2 (HT.out.next K2.out) (OwnB.bts O1.out) l3 (by omega) (by omega))
    unfold AtPost at HAt
    rw [t1, t2, t3, t4, t5] at HAt
    have HS1 : Hid (∀ w', Below w2.heap.size w2 w' → (convert 22 9 (.slice a1 bs.length c1)).run Tryd.prog w' = .ok (.string (strOfNums bs)) w') := Lib.hid fun w' h => conv_bts (OwnB.next O1.out h).bts
    have HS2 : Hid (∀ w', Below w2.heap.size w2 w' → (convert 22 9 (.slice a2 bs.length c2)).run Tryd.prog w' = .ok (.string (strOfNums bs)) w') := Lib.hid fun w' h => conv_bts (OwnB.next OO2.out h).bts
    obtain ⟨ln, hln⟩ : ∃ q, bs.length = q := ⟨_, rfl⟩
    rw [hln] at HAt HS1 HS2 ⊢
    clear hone l1 l2 l3 t1 t2 t3 t4 t5 hln
    go_upto_region 7 with (go_at_call 12; refine HAt.out.mono ?_; rintro e w3 ⟨rfl, hb3⟩)
    have B5 := Lib.hid (box_new w3 (.int .i64 k) (.int .i64 n) (.int .i64 m) (.int .i64 ln))
    have K5 := Lib.hid (hb3.trans ((below_new w3 (.cells #[.int .i64 k, .int .i64 n, .int .i64 m, .int .i64 ln] 25)).mono hb3.size))
    generalize w3.alloc (.cells #[.int .i64 k, .int .i64 n, .int .i64 m, .int .i64 ln] 25) = w4 at *
    generalize w3.heap.size = p5 at *
    obtain ⟨⟨p0, p1, p2, p3⟩, _, _⟩ := B5.out
    have s1 := HS1.out _ K5.out
    have s2 := HS2.out _ K5.out
    have e1 : ((strOfNums bs).toList == (strOfNums bs).toList) = true := by simp
    have f1 : (k == k) = true := by simp
    have f2 : (n == n) = true := by simp
    have f3 : (m == m) = true := by simp
    have f4 : ((ln : Int) == (ln : Int)) = true := by simp
    have K6 := Lib.hid (K2.out.trans (K5.out.mono K2.out.size))
    clear hb3 HAt HS1 HS2
    go_wp2_with (go_at_call 11; refine (HK.out _ (K6.out)).mono ?_; rintro e w6 ⟨rfl, hb6⟩)
    all_goals go_ret
    all_goals exact ⟨rfl, K6.out.trans (hb6.mono K6.out.size)⟩
theorem at_three {c n m : Int} (h0 : 0 ≤ c) : atE [c, n, m] 0 = 0 ∧ 1 ≤ (atO [c, n, m] 0).l ∧ (atO [c, n, m] 0).l ≤ 3 := by
  have hl := longN_rng c
  have hb : byt [c, n, m] 0 = c := rfl
  have h := at_in (bs := [c, n, m]) (i := 0) (by simp) (by rw [hb]; simp; omega)
  simp only [Int.natCast_zero] at h
  refine ⟨h.1, ?_, ?_⟩
  · rw [h.2]; show 1 ≤ longN c; omega
  · rw [h.2]; show longN c ≤ 3; omega
set_option maxHeartbeats 8000000 in
theorem codeAll_walk (W : World) (hT : Tabs W) (n m : Int) (hn : (Lit.int .u8 n).wf = true) (hm : (Lit.int .u8 m).wf = true) :
    Calls Tryd.prog 4 #[.int .u8 n, .int .u8 m] W fun e W' => e = .returned (.bool true) ∧ Below W.heap.size W W' := by
  have HN := Lib.hid (wf_u8 hn)
  have HM := Lib.hid (wf_u8 hm)
  have HT := Lib.hid hT
  have HK := Lib.hid (fun w' (h : Below W.heap.size W w') => known_any w' (hT.next h))
  clear hT
  clear hn hm
  go_enter Tryd.func4, Tryd.ntmps4
  go_wp2_with fail
  go_loopw [5] (fun x wr => ∃ c : Nat, c ≤ 256 ∧ x = .int .i64 c ∧ Hid (Below W.heap.size W wr)) (fun x _ => 256 - (RowKit.intOf x).toNat)
  case atStart => exact ⟨0, by omega, rfl, Lib.hid (Below.refl _ _)⟩
  case round =>
    obtain ⟨c, hc, rfl, HB⟩ := hrel
    by_cases hlt : c < 256
    · have d1 : decide ((c : Int) < 256) = true := by simpa using (by omega : (c : Int) < 256)
      have hcw : IntKind.u8.wrap (c : Int) = (c : Int) := by simp [IntKind.wrap, IntKind.bits, IntKind.signed]; omega
      have hbs : Bytes [(c : Int), n, m] := fun x hx => by
        have h1 := HN.out
        have h2 := HM.out
        simp at hx
        rcases hx with rfl | rfl | rfl <;> omega
      obtain ⟨t1, t2, t3⟩ := at_three (c := (c : Int)) (n := n) (m := m) (by omega)
      have A1 : Hid (∀ w', Below (wr.heap.size + 1) (wr.alloc (.cells #[.int .u8 (c : Int), .int .u8 n, .int .u8 m] 5)) w' → Calls Tryd.prog 12 #[.slice (some ⟨wr.heap.size, 0, none⟩) 3 3, .int .i64 0] w' (AtPost [(c : Int), n, m] 0 w')) := Lib.hid fun w' h => at_code _ _ 0 w' (((HT.out.next HB.out).next (below_new wr _)).next (by simpa using h)) (OwnB.bts (OwnB.next (ownB3 wr c n m) (by simpa using h))) hbs (by simp) (by omega)
      have A2 : Hid (∀ w', Below (wr.heap.size + 1) (wr.alloc (.cells #[.int .u8 (c : Int), .int .u8 n, .int .u8 m] 5)) w' → Calls Tryd.prog 13 #[.slice (some ⟨wr.heap.size, 0, none⟩) 3 3, .int .i64 0] w' (AtPost [(c : Int), n, m] 0 w')) := Lib.hid fun w' h => at_ref _ _ 0 w' (OwnB.bts (OwnB.next (ownB3 wr c n m) (by simpa using h))) hbs (by simp) (by omega)
      unfold AtPost at A1 A2
      rw [t1] at A1 A2
      generalize atO [(c : Int), n, m] 0 = o at *
      have hgd := fun op x y xs ys w => guard_op op x y xs ys w
      have hq := fun w => neq_op o o w
      simp only [decide_true, Bool.not_true] at hq
      have K0 := Lib.hid (HB.out.trans ((below_new wr (.cells #[.int .u8 (c : Int), .int .u8 n, .int .u8 m] 5)).mono HB.out.size))
      clear hbs t1
      go_upto_region 5 with fail
      have hsz : (wr.alloc (.cells #[.int .u8 (c : Int), .int .u8 n, .int .u8 m] 5)).heap.size = wr.heap.size + 1 := by simp
      generalize wr.alloc (.cells #[.int .u8 (c : Int), .int .u8 n, .int .u8 m] 5) = w0 at *
      rw [← hsz] at A1 A2
      have hmark := True.intro
      clear hsz
      go_upto_region 6 with (go_at_call 12; refine (A1.out _ (Below.refl _ _)).mono ?_; rintro e w1 ⟨rfl, hb1⟩)
      have B1 := Lib.hid (box_new w1 (.int .i64 o.k) (.int .i64 o.n) (.int .i64 o.m) (.int .i64 o.l))
      have K1 := Lib.hid (hb1.alloc hb1.size (.cells #[.int .i64 o.k, .int .i64 o.n, .int .i64 o.m, .int .i64 o.l] 25))
      generalize w1.alloc (.cells #[.int .i64 o.k, .int .i64 o.n, .int .i64 o.m, .int .i64 o.l] 25) = w2 at *
      generalize w1.heap.size = p1 at *
      clear hb1 A1
      go_upto_region 7 with (go_at_call 13; refine (A2.out _ K1.out).mono ?_; rintro e w3 ⟨rfl, hb3⟩)
      have B3 := Lib.hid (box_new w3 (.int .i64 o.k) (.int .i64 o.n) (.int .i64 o.m) (.int .i64 o.l))
      have B2 := Lib.hid ((B1.out.next hb3).next (below_new w3 (.cells #[.int .i64 o.k, .int .i64 o.n, .int .i64 o.m, .int .i64 o.l] 25)))
      have K3 := Lib.hid ((K1.out.trans (hb3.mono K1.out.size)).alloc (Nat.le_trans K1.out.size hb3.size) (.cells #[.int .i64 o.k, .int .i64 o.n, .int .i64 o.m, .int .i64 o.l] 25))
      generalize w3.alloc (.cells #[.int .i64 o.k, .int .i64 o.n, .int .i64 o.m, .int .i64 o.l] 25) = w4 at *
      generalize w3.heap.size = p3 at *
      clear hb3 A2 B1 K1
      obtain ⟨⟨x0, x1, x2, x3⟩, _, _⟩ := B2.out
      obtain ⟨⟨y0, y1, y2, y3⟩, _, _⟩ := B3.out
      have f1 : decide (o.l < 1) = false := by simpa using t2
      have f2 : decide (3 < o.l) = false := by simpa using t3
      go_wp2_with fail
      exact ⟨⟨c + 1, by omega, by go_num, Lib.hid (K0.out.trans (K3.out.mono K0.out.size))⟩, by simp [RowKit.intOf]; omega⟩
    · have hc' : c = 256 := by omega
      have d1 : decide ((c : Int) < 256) = false := by simp [hc']
      clear hlt hc hc'
      go_wp2_with (go_at_call 11; refine (HK.out _ (HB.out)).mono ?_; rintro e w6 ⟨rfl, hb6⟩)
      go_ret
      exact ⟨rfl, HB.out.trans (hb6.mono HB.out.size)⟩
end Go.Proofs.YtmcikjihkgplaaaDoor
