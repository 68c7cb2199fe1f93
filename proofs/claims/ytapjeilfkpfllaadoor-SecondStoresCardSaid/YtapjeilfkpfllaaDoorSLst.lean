/- The walk of the law SecondStores. -/
import Derived.Test.YtapjeilfkpfllaaDoorSMa
namespace Go.Proofs.YtapjeilfkpfllaaDoor
set_option maxRecDepth 1000000
open Go.ChangeShapes Go.WideShapes Go.ChangeAt Go.RowKit
open Wd (Ob okO encO refsO ObjAt In64 I64)

theorem tk_two {a b : List Int} {i : Nat} (h : secs a.length + secs b.length ≤ i) : tk [(0, a), (secs a.length, b)] i = false := by
  rw [tk_false]
  intro r hr
  rcases List.mem_cons.1 hr with rfl | hr
  · show ¬ (0 ≤ i ∧ i < 0 + secs a.length); omega
  · rw [List.mem_singleton.1 hr]; show ¬ (secs a.length ≤ i ∧ i < secs a.length + secs b.length); omega
theorem f_zero {o : Ob} (h : okO o = true) : FirstIs (tk (rowsE [])) 400 (szO o) 0 true := by
  have := szO_le h
  exact .inl ⟨rfl, by omega, fun k hk => rfl, fun b hb => by omega⟩
theorem f_one {a b : Ob} (ha : okO a = true) (hb : okO b = true) : FirstIs (tk (rowsE ([] ++ [⟨0 + 1, a, 0⟩]))) 400 (szO b) (szO a) true := by
  have h1 := szO_le ha
  have h2 := szO_le hb
  exact fa2 400 (szO b) (encO a) h2.1 (show szO a + szO b ≤ 400 by omega)
/-- What the space holds when a and b are made. -/
def LAB (a b : Ob) : List Ent := [⟨1, a, 0⟩, ⟨2, b, szO a⟩]
theorem room_c {a b c : Ob} (ha : okO a = true) (hb : okO b = true) (hc : okO c = true) : ∃ p, Room 400 (rowsE (LAB a b)) (erow ⟨1, a, 0⟩) (szO c) p true := by
  have h1 := szO_le ha
  have h2 := szO_le hb
  have h3 := szO_le hc
  by_cases h : szO c = len (erow ⟨1, a, 0⟩)
  · exact ⟨0, .inl ⟨h, rfl, rfl⟩⟩
  · obtain ⟨p, hp⟩ := room_ex (S := tk (without (rowsE (LAB a b)) (ext (erow ⟨1, a, 0⟩)))) (n := 400) (q := szO c) (b := szO a + szO b) (by omega) (fun k _ => by
      have h4 : tk (rowsE (LAB a b)) (szO a + szO b + k) = false := tk_two (by show szO a + szO b ≤ _; omega)
      rw [tk_false] at h4 ⊢
      exact fun r hr => h4 r (mem_without.1 hr).1)
    exact ⟨p, .inr ⟨h, hp⟩⟩
/-- What Store tells of the first of two. -/
theorem store_first (s : Sc) (u : Nat) (a b c : Ob) (v : Value) (w : World) (h : SecAt w s 400 u 2 (LAB a b)) (hv : ObjAt w v c) (ha : okO a = true) (hb : okO b = true) (hu : u ≤ 100000000000000) :
    ∃ p, Calls Tryd.prog 12 #[.pointer (some ⟨s.q, 0, none⟩), .int .i64 1, v] w (StorePost s 400 (u + 1) 2 [⟨1, if okO c = true then c else a, p⟩, ⟨2, b, szO a⟩] (Wd.chk c) w) := by
  cases hc : okO c with
  | true =>
    obtain ⟨p, hp⟩ := room_c ha hb hc
    refine ⟨p, (sstore_any s 400 u 2 (LAB a b) v c ⟨1, a, 0⟩ p true w h hv (by simp [LAB]) hc hu hp).mono fun e w' h => ?_⟩
    have e1 : setE (LAB a b) 1 c p = [⟨1, c, p⟩, ⟨2, b, szO a⟩] := by simp [setE, LAB]
    unfold StoreEnd at h
    rw [if_pos rfl, if_pos rfl, e1] at h
    rw [if_pos rfl, Wd.chk_is hc]
    exact h
  | false =>
    refine ⟨0, (store_bad s 400 u 2 (LAB a b) v c 1 (W64.of (by omega) (by omega)) w h hv rfl hc).mono fun e w' h => ?_⟩
    rw [if_neg (by decide), Wd.chk_not hc]
    exact ⟨h.1, h.2.1.mono (Nat.le_succ u), h.2.2⟩
theorem below3 (W : World) (x y z : Obj) : Below W.heap.size W (((W.alloc x).alloc y).alloc z) := (((Below.refl _ _).alloc (Nat.le_refl _) _).alloc (by simp) _).alloc (by simp; omega) _

set_option maxHeartbeats 8000000 in
theorem stores_walk (W : World) (hT : Tab W) (h0 : 0 < W.heap.size) (va : Value) (a : Ob) (hA : ObjAt W va a) (vb : Value) (b : Ob) (hB : ObjAt W vb b) (vc : Value) (c : Ob) (hC : ObjAt W vc c) (hfar : c.w.length ≤ 9223372036854775807 ∧ c.b.length ≤ 9223372036854775807) :
    Calls Tryd.prog 6 #[va, vb, vc] W fun e w' => e = .returned (.bool true) ∧ Below W.heap.size W w' := by
  have HA := Lib.hid hA
  have HB := Lib.hid hB
  have HC := Lib.hid hC
  have HFAR := Lib.hid hfar
  obtain ⟨wa1, wa2, rfl, ⟨_, _, aa1, ac1, rfl, _⟩, ⟨_, _, aa2, ac2, rfl, _⟩, _⟩ := hA
  obtain ⟨wb1, wb2, rfl, _⟩ := hB
  obtain ⟨wc1, wc2, rfl, ⟨_, _, ca1, cc1, rfl, _⟩, ⟨_, _, ca2, cc2, rfl, _⟩, _⟩ := hC
  have BW := below3 W (.cells #[.int .i64 a.c, .int .i64 a.k, (.slice aa1 a.w.length ac1), (.slice aa2 a.b.length ac2)] 33) (.cells #[.int .i64 b.c, .int .i64 b.k, wb1, wb2] 33) (.cells #[.int .i64 c.c, .int .i64 c.k, (.slice ca1 c.w.length cc1), (.slice ca2 c.b.length cc2)] 33)
  have HSZ : Hid (((((W.alloc (.cells #[.int .i64 a.c, .int .i64 a.k, (.slice aa1 a.w.length ac1), (.slice aa2 a.b.length ac2)] 33)).alloc (.cells #[.int .i64 b.c, .int .i64 b.k, wb1, wb2] 33)).alloc (.cells #[.int .i64 c.c, .int .i64 c.k, (.slice ca1 c.w.length cc1), (.slice ca2 c.b.length cc2)] 33))).heap.size = W.heap.size + 3) := Lib.hid (by simp)
  have XA : Hid (Wd.Box W.heap.size (.int .i64 a.c) (.int .i64 a.k) (.slice aa1 a.w.length ac1) (.slice aa2 a.b.length ac2) (((W.alloc (.cells #[.int .i64 a.c, .int .i64 a.k, (.slice aa1 a.w.length ac1), (.slice aa2 a.b.length ac2)] 33)).alloc (.cells #[.int .i64 b.c, .int .i64 b.k, wb1, wb2] 33)).alloc (.cells #[.int .i64 c.c, .int .i64 c.k, (.slice ca1 c.w.length cc1), (.slice ca2 c.b.length cc2)] 33))) :=
    (Wd.box_new W _ _ _ _).kept (B := W.heap.size + 1) (((Below.refl _ _).alloc (by simp) _).alloc (by simp) _) (by omega) (by simp)
  have XB : Hid (Wd.Box (W.heap.size + 1) (.int .i64 b.c) (.int .i64 b.k) wb1 wb2 (((W.alloc (.cells #[.int .i64 a.c, .int .i64 a.k, (.slice aa1 a.w.length ac1), (.slice aa2 a.b.length ac2)] 33)).alloc (.cells #[.int .i64 b.c, .int .i64 b.k, wb1, wb2] 33)).alloc (.cells #[.int .i64 c.c, .int .i64 c.k, (.slice ca1 c.w.length cc1), (.slice ca2 c.b.length cc2)] 33))) := by
    have h := Wd.box_new (W.alloc (.cells #[.int .i64 a.c, .int .i64 a.k, (.slice aa1 a.w.length ac1), (.slice aa2 a.b.length ac2)] 33)) (.int .i64 b.c) (.int .i64 b.k) wb1 wb2
    rw [World.size_alloc] at h
    exact h.kept (B := W.heap.size + 2) ((Below.refl _ _).alloc (by simp) _) (by omega) (by simp)
  have XC : Hid (Wd.Box (W.heap.size + 2) (.int .i64 c.c) (.int .i64 c.k) (.slice ca1 c.w.length cc1) (.slice ca2 c.b.length cc2) (((W.alloc (.cells #[.int .i64 a.c, .int .i64 a.k, (.slice aa1 a.w.length ac1), (.slice aa2 a.b.length ac2)] 33)).alloc (.cells #[.int .i64 b.c, .int .i64 b.k, wb1, wb2] 33)).alloc (.cells #[.int .i64 c.c, .int .i64 c.k, (.slice ca1 c.w.length cc1), (.slice ca2 c.b.length cc2)] 33))) := by
    have h := Wd.box_new ((W.alloc (.cells #[.int .i64 a.c, .int .i64 a.k, (.slice aa1 a.w.length ac1), (.slice aa2 a.b.length ac2)] 33)).alloc (.cells #[.int .i64 b.c, .int .i64 b.k, wb1, wb2] 33)) (.int .i64 c.c) (.int .i64 c.k) (.slice ca1 c.w.length cc1) (.slice ca2 c.b.length cc2)
    rw [World.size_alloc, World.size_alloc] at h
    exact h
  have HN := Lib.hid (snew_yes 400 _ (by omega) (hT.below BW h0) (by have := BW.size; omega))
  have BWH := Lib.hid BW
  have H0 := Lib.hid h0
  have HTT := Lib.hid hT
  obtain ⟨pa, hpa⟩ : ∃ p, W.heap.size = p := ⟨_, rfl⟩
  have HPA : Hid (W.heap.size = pa) := hpa
  rw [hpa] at XA XB XC HSZ
  clear BW hT h0 hfar
  go_enter Tryd.func6, Tryd.ntmps6
  go_wp2_with fail
  clear hpa
  generalize ((W.alloc (.cells #[.int .i64 a.c, .int .i64 a.k, (.slice aa1 a.w.length ac1), (.slice aa2 a.b.length ac2)] 33)).alloc (.cells #[.int .i64 b.c, .int .i64 b.k, wb1, wb2] 33)).alloc (.cells #[.int .i64 c.c, .int .i64 c.k, (.slice ca1 c.w.length cc1), (.slice ca2 c.b.length cc2)] 33) = wA at *
  refine (show Calls Tryd.prog 9 #[.int .i64 400] _ _ from HN.out).mono ?_
  rintro e w1 ⟨s, rfl, s1, hlo, b1⟩
  have S1 := Lib.hid s1
  have HLO := Lib.hid hlo
  have K1 := Lib.hid b1
  have KF : Hid (∀ w' w'' : World, Below wA.heap.size wA w' → Only s.F w' w'' → Below wA.heap.size wA w'') := fun w' w'' h o => h.trans (o.below (fun i hi hf => by have := hf.1; have := HLO.out; omega) h.size)
  have KE : Hid (∀ w' w'' : World, Below wA.heap.size wA w' → Below w'.heap.size w' w'' → Below wA.heap.size wA w'') := fun w' w'' h o => h.trans (o.mono h.size)
  have KW : Hid (∀ w', Below wA.heap.size wA w' → Below W.heap.size W w') := fun w' h => BWH.out.trans (h.mono BWH.out.size)
  have KN : Hid (∀ w', Below wA.heap.size wA w' → Calls Tryd.prog 8 #[] w' fun e w'' => e = .returned (.bool true) ∧ Below W.heap.size W w'') := fun w' h =>
    (known_true w' (HTT.out.below (KW.out w' h) H0.out) (by have := (KW.out w' h).size; have := H0.out; omega)).mono fun e w'' ⟨he, hb⟩ => ⟨he, (KW.out w' h).trans (hb.mono (KW.out w' h).size)⟩
  clear s1 b1 hlo HN
  obtain ⟨q0, q1, q2, q3⟩ := (XA.out.kept K1.out (by have := HSZ.out; omega) (Nat.le_refl _)).1
  obtain ⟨id1, t1, m1, LL1, is1, call1⟩ := make_any s 400 0 0 [] _ a w1 S1.out (HA.out.kept (KW.out w1 K1.out)) (by omega)
  have IS1 := Lib.hid is1
  have CALL1 := Lib.hid call1
  clear is1 call1
  go_wp2_with fail
  refine CALL1.out.mono ?_
  rintro e w2 ⟨rfl, s2, o2⟩
  have S2 := Lib.hid s2
  have K2 := Lib.hid (KF.out w1 w2 K1.out o2)
  clear s2 o2 q0 q1 q2 q3 CALL1 S1 K1
  obtain ⟨q0, q1, q2, q3⟩ := (XB.out.kept K2.out (by have := HSZ.out; omega) (Nat.le_refl _)).1
  obtain ⟨id2, t2, m2, LL2, is2, call2⟩ := make_any s 400 (0 + 1) m1 LL1 _ b w2 S2.out (HB.out.kept (KW.out w2 K2.out)) (by omega)
  have IS2 := Lib.hid is2
  have CALL2 := Lib.hid call2
  clear is2 call2
  go_wp2_with fail
  refine CALL2.out.mono ?_
  rintro e w3 ⟨rfl, s3, o3⟩
  have S3 := Lib.hid s3
  have K3 := Lib.hid (KF.out w2 w3 K2.out o3)
  clear s3 o3 q0 q1 q2 q3 CALL2 S2 K2
  cases hoa : okO a with
  | false =>
    obtain ⟨rfl, rfl, _, _⟩ := IS1.out.bad hoa
    clear hoa
    go_wp2_with fail
    refine (KN.out w3 K3.out).mono ?_
    rintro e w4 ⟨rfl, b4⟩
    go_wp2
    go_ret
    exact ⟨rfl, b4⟩
  | true =>
  obtain ⟨rfl, rfl, rfl, rfl⟩ := IS1.out.room hoa (by omega) (f_zero hoa)
  cases hob : okO b with
  | false =>
    obtain ⟨rfl, rfl, _, _⟩ := IS2.out.bad hob
    clear hob hoa
    go_wp2_with fail
    refine (KN.out w3 K3.out).mono ?_
    rintro e w4 ⟨rfl, b4⟩
    go_wp2
    go_ret
    exact ⟨rfl, b4⟩
  | true =>
  obtain ⟨rfl, rfl, rfl, rfl⟩ := IS2.out.room hob (by omega) (f_one hoa hob)
  have OA := Lib.hid hoa
  have OB := Lib.hid hob
  have S3 : Hid (SecAt w3 s 400 2 2 (LAB a b)) := S3.out
  clear hoa hob IS1 IS2
  obtain ⟨q0, q1, q2, q3⟩ := (XC.out.kept K3.out (by have := HSZ.out; omega) (Nat.le_refl _)).1
  obtain ⟨pc, call3⟩ := store_first s 2 a b c _ w3 S3.out (HC.out.kept (KW.out w3 K3.out)) OA.out OB.out (by omega)
  have CALL3 := Lib.hid call3
  obtain ⟨wo, hwo⟩ : ∃ wo, (if okO c = true then c else a) = wo := ⟨_, rfl⟩
  have HWO := Lib.hid hwo
  rw [hwo] at CALL3
  have OWO : Hid (okO wo = true) := by
    rw [← hwo]
    show okO _ = true
    split
    · assumption
    · exact OA.out
  clear call3 hwo
  go_wp2_with fail
  refine (show Calls Tryd.prog 12 #[_, .int .i64 1, _] _ _ from CALL3.out).mono ?_
  rintro e w4 ⟨rfl, s4, o4⟩
  have S4 := Lib.hid s4
  have K4 := Lib.hid (KF.out w3 w4 K3.out o4)
  clear s4 o4 q0 q1 q2 q3 CALL3 S3 K3
  go_wp2_with fail
  refine (show Calls Tryd.prog 15 #[_, .int .i64 1] _ _ from fetch_yes s 400 3 2 _ ⟨1, wo, pc⟩ w4 S4.out (by simp) (by omega)).mono ?_
  rintro e w5 ⟨v5, rfl, hv5, s5, o5⟩
  obtain ⟨e51, f51, e52, f52, rfl⟩ := hv5.form
  have K5 := Lib.hid (KF.out w4 w5 K4.out o5)
  have BX5 := box33 w5 (.int .i64 wo.c) (.int .i64 wo.k) (.slice e51 wo.w.length f51) (.slice e52 wo.b.length f52)
  have V5 := Lib.hid (hv5.fresh BX5)
  have HS5 : Hid (w4.heap.size ≤ w5.heap.size) := o5.size
  have HQ5 : Hid (s.q < w4.heap.size) := S4.out.lt
  have S5 := Lib.hid (s5.fresh BX5)
  have K5' := Lib.hid (KE.out w5 _ K5.out BX5)
  have X5 := Lib.hid (Wd.box_new w5 (.int .i64 wo.c) (.int .i64 wo.k) (.slice e51 wo.w.length f51) (.slice e52 wo.b.length f52))
  obtain ⟨p5, hp5⟩ : ∃ p, w5.heap.size = p := ⟨_, rfl⟩
  have HP5 : Hid (s.q < p5) := by have := HS5.out; have := HQ5.out; show s.q < p5; omega
  rw [hp5] at X5
  clear s5 o5 hv5 BX5
  go_wp2_with fail
  clear hp5
  generalize w5.alloc (.cells #[.int .i64 wo.c, .int .i64 wo.k, (.slice e51 wo.w.length f51), (.slice e52 wo.b.length f52)] 33) = w6 at *
  refine (show Calls Tryd.prog 15 #[_, .int .i64 2] _ _ from fetch_yes s 400 4 2 _ ⟨2, b, szO a⟩ w6 S5.out (by simp) (by omega)).mono ?_
  rintro e w7 ⟨v7, rfl, hv7, s7, o7⟩
  obtain ⟨e71, f71, e72, f72, rfl⟩ := hv7.form
  have K7 := Lib.hid (KF.out w6 w7 K5'.out o7)
  have V57 := Lib.hid (V5.out.only o7 (fun i hi hf => by have := hf.2; have := HQ5.out; omega))
  have X57 := Lib.hid (box_only X5.out o7 (fun hf => by have := hf.2; have := HP5.out; omega))
  have BX7 := box33 w7 (.int .i64 b.c) (.int .i64 b.k) (.slice e71 b.w.length f71) (.slice e72 b.b.length f72)
  have V7 := Lib.hid (hv7.fresh BX7)
  have S7 := Lib.hid (s7.fresh BX7)
  have K7' := Lib.hid (KE.out w7 _ K7.out BX7)
  have V58 := Lib.hid (V57.out.fresh BX7)
  have X58 := Lib.hid (X57.out.kept BX7 X57.out.2.2 (Nat.le_refl _))
  have X7 := Lib.hid (Wd.box_new w7 (.int .i64 b.c) (.int .i64 b.k) (.slice e71 b.w.length f71) (.slice e72 b.b.length f72))
  obtain ⟨p7, hp7⟩ : ∃ p, w7.heap.size = p := ⟨_, rfl⟩
  rw [hp7] at X7
  clear s7 o7 hv7 BX7
  obtain ⟨q0, q1, q2, q3⟩ := (XC.out.kept K7'.out (by have := HSZ.out; omega) (Nat.le_refl _)).1
  have HR := fun o => (XC.out.kept (KE.out _ _ K7'.out ((Below.refl _ _).alloc (Nat.le_refl _) o)) (by have := HSZ.out; omega) (Nat.le_refl _)).1
  have r0 := fun o => (HR o).1
  have r1 := fun o => (HR o).2.1
  have r2 := fun o => (HR o).2.2.1
  have r3 := fun o => (HR o).2.2.2
  clear HR
  have BX9 := fun w => box33 w (.int .i64 c.c) (.int .i64 c.k) (.slice ca1 c.w.length cc1) (.slice ca2 c.b.length cc2)
  go_wp2_with fail
  clear q0 q1 q2 q3 r0 r1 r2 r3
  have hp9' : (w7.alloc (.cells #[.int .i64 b.c, .int .i64 b.k, (.slice e71 b.w.length f71), (.slice e72 b.b.length f72)] 33)).heap.size = p7 + 1 := by rw [World.size_alloc, hp7]
  generalize w7.alloc (.cells #[.int .i64 b.c, .int .i64 b.k, (.slice e71 b.w.length f71), (.slice e72 b.b.length f72)] 33) = w8 at *
  generalize p7 + 1 = p9 at *
  have hp9 : w8.heap.size = p9 := hp9'
  have BX := BX9 w8
  have K9 := Lib.hid (KE.out w8 _ K7'.out BX)
  have V59 := Lib.hid (V58.out.fresh BX)
  have X59 := Lib.hid (X58.out.kept BX X58.out.2.2 (Nat.le_refl _))
  have V79 := Lib.hid (V7.out.fresh BX)
  have X79 := Lib.hid (X7.out.kept BX X7.out.2.2 (Nat.le_refl _))
  have S9 := Lib.hid (S7.out.fresh BX)
  have X9 := Lib.hid (Wd.box_new w8 (.int .i64 c.c) (.int .i64 c.k) (.slice ca1 c.w.length cc1) (.slice ca2 c.b.length cc2))
  have HP9 : Hid (wA.heap.size ≤ p9) := by have := K7'.out.size; show _ ≤ p9; omega
  have HP59 : Hid (p5 < p9 ∧ p7 < p9) := by have h1 := X58.out.2.2; have h2 := X7.out.2.2; show p5 < p9 ∧ p7 < p9; omega
  have HS9 : Hid (s.q < p9) := by have := S7.out.lt; show s.q < p9; omega
  have HV9 : Hid (ObjIn (· < p9) (w8.alloc (.cells #[.int .i64 c.c, .int .i64 c.k, (.slice ca1 c.w.length cc1), (.slice ca2 c.b.length cc2)] 33)) (.agg #[.int .i64 wo.c, .int .i64 wo.k, (.slice e51 wo.w.length f51), (.slice e52 wo.b.length f52)]) wo ∧ ObjIn (· < p9) (w8.alloc (.cells #[.int .i64 c.c, .int .i64 c.k, (.slice ca1 c.w.length cc1), (.slice ca2 c.b.length cc2)] 33)) (.agg #[.int .i64 b.c, .int .i64 b.k, (.slice e71 b.w.length f71), (.slice e72 b.b.length f72)]) b) := by
    rw [← hp9]
    exact ⟨((V58.out.kind (M := (· < w8.heap.size)) (fun b hb _ => hb)).fresh BX), ((V7.out.kind (M := (· < w8.heap.size)) (fun b hb _ => hb)).fresh BX)⟩
  rw [hp9] at X9
  clear BX BX9 hp9 hp9' V57 V58 X57 X58 V5 V7 X5 X7 S7 K7 K7' V59 V79
  generalize w8.alloc (.cells #[.int .i64 c.c, .int .i64 c.k, (.slice ca1 c.w.length cc1), (.slice ca2 c.b.length cc2)] 33) = w9 at *
  refine (Wd.refcheck_any _ c w9 (HC.out.kept (KW.out w9 K9.out)) HFAR.out).mono ?_
  rintro e w10 ⟨rfl, b10⟩
  have K10 := Lib.hid (KE.out w9 _ K9.out b10)
  have HV10 : Hid (ObjIn (· < p9) w10 (.agg #[.int .i64 wo.c, .int .i64 wo.k, (.slice e51 wo.w.length f51), (.slice e52 wo.b.length f52)]) wo ∧ ObjIn (· < p9) w10 (.agg #[.int .i64 b.c, .int .i64 b.k, (.slice e71 b.w.length f71), (.slice e72 b.b.length f72)]) b) := ⟨HV9.out.1.fresh b10, HV9.out.2.fresh b10⟩
  have X50 := Lib.hid (X59.out.kept b10 X59.out.2.2 (Nat.le_refl _))
  have X70 := Lib.hid (X79.out.kept b10 X79.out.2.2 (Nat.le_refl _))
  have X10 := Lib.hid (X9.out.kept b10 X9.out.2.2 (Nat.le_refl _))
  have S10 := Lib.hid (S9.out.fresh b10)
  clear b10 K9 HV9 X59 X79 X9 S9
  cases hoc : okO c with
  | true =>
    obtain rfl : c = wo := by have := HWO.out; rw [if_pos hoc] at this; exact this
    have ek := Wd.chk_is hoc
    rw [ek]
    have XW := X10
    have HWV : Hid (∀ w', Below W.heap.size W w' → ObjAt w' (.agg #[.int .i64 c.c, .int .i64 c.k, (.slice ca1 c.w.length cc1), (.slice ca2 c.b.length cc2)]) c) := fun w' h => HC.out.kept h
    obtain ⟨q0, q1, q2, q3⟩ := (XC.out.kept K10.out (by have := HSZ.out; omega) (Nat.le_refl _)).1
    go_wp2_with fail
    clear q0 q1 q2 q3
    refine (Wd.refcheck_any _ c w10 (HC.out.kept (KW.out w10 K10.out)) HFAR.out).mono ?_
    rintro e w12 ⟨rfl, b12⟩
    rw [ek]
    have K12 := Lib.hid (KE.out w10 _ K10.out b12)
    have HV12 : Hid (ObjIn (· < p9) w12 (.agg #[.int .i64 c.c, .int .i64 c.k, .slice e51 c.w.length f51, .slice e52 c.b.length f52]) c ∧ ObjIn (· < p9) w12 (.agg #[.int .i64 b.c, .int .i64 b.k, .slice e71 b.w.length f71, .slice e72 b.b.length f72]) b) := ⟨HV10.out.1.fresh b12, HV10.out.2.fresh b12⟩
    have X52 := Lib.hid (X50.out.kept b12 X50.out.2.2 (Nat.le_refl _))
    have X72 := Lib.hid (X70.out.kept b12 X70.out.2.2 (Nat.le_refl _))
    have XW2 := Lib.hid (XW.out.kept b12 XW.out.2.2 (Nat.le_refl _))
    have S12 := Lib.hid (S10.out.fresh b12)
    clear b12
    obtain ⟨q0, q1, q2, q3⟩ := X52.out.1
    obtain ⟨y0, y1, y2, y3⟩ := XW2.out.1
    go_wp2_with fail
    clear q0 q1 q2 q3 y0 y1 y2 y3
    refine (Wd.same_ref _ _ c c w12 HV12.out.1.at_ (HWV.out w12 (KW.out w12 K12.out)) (short_of OWO.out) (short_of OWO.out)).mono ?_
    rintro e w13 ⟨rfl, b13⟩
    rw [Wd.sameO_self]
    have K13 := Lib.hid (KE.out w12 _ K12.out b13)
    have HV13 := Lib.hid (HV12.out.2.fresh b13)
    have X73 := Lib.hid (X72.out.kept b13 X72.out.2.2 (Nat.le_refl _))
    have S13 := Lib.hid (S12.out.fresh b13)
    clear b13
    obtain ⟨q0, q1, q2, q3⟩ := X73.out.1
    obtain ⟨y0, y1, y2, y3⟩ := (XB.out.kept K13.out (by have := HSZ.out; omega) (Nat.le_refl _)).1
    go_wp2_with fail
    clear q0 q1 q2 q3 y0 y1 y2 y3
    refine (Wd.same_ref _ _ b b w13 HV13.out.at_ (HB.out.kept (KW.out w13 K13.out)) (short_of OB.out) (short_of OB.out)).mono ?_
    rintro e w14 ⟨rfl, b14⟩
    rw [Wd.sameO_self]
    have K14 := Lib.hid (KE.out w13 _ K13.out b14)
    have S14 := Lib.hid (S13.out.fresh b14)
    clear b14
    obtain ⟨q0, q1, q2, q3⟩ := (XC.out.kept K14.out (by have := HSZ.out; omega) (Nat.le_refl _)).1
    go_wp2_with fail
    clear q0 q1 q2 q3
    refine (store_none s 400 5 2 _ _ c 3 (W64.of (by omega) (by omega)) w14 S14.out (HC.out.kept (KW.out w14 K14.out)) rfl).mono ?_
    rintro e w15 ⟨rfl, s15, o15⟩
    have K15 := Lib.hid (KF.out w14 w15 K14.out o15)
    have S15 := Lib.hid s15
    clear s15 o15
    go_wp2_with fail
    refine (made_any s 400 5 2 _ w15 S15.out).mono ?_
    rintro e w16 ⟨rfl, rfl⟩
    go_wp2_with fail
    refine (KN.out w15 K15.out).mono ?_
    rintro e w17 ⟨rfl, b17⟩
    go_wp2
    go_ret
    exact ⟨rfl, b17⟩
  | false =>
    obtain rfl : a = wo := by have := HWO.out; rw [if_neg (by rw [hoc]; decide)] at this; exact this
    have ek := Wd.chk_not hoc
    rw [ek]
    obtain ⟨q0, q1, q2, q3⟩ := (XA.out.kept K10.out (by have := HSZ.out; omega) (Nat.le_refl _)).1
    obtain ⟨y0, y1, y2, y3⟩ := (XC.out.kept K10.out (by have := HSZ.out; omega) (Nat.le_refl _)).1
    obtain ⟨⟨z0, z1, z2, z3⟩, zf, _⟩ := X10.out
    have zf0 := zf 0
    have zf1 := zf 1
    have zf2 := zf 2
    have zf3 := zf 3
    have HWV : Hid (∀ w', Below W.heap.size W w' → ObjAt w' (.agg #[.int .i64 a.c, .int .i64 a.k, .slice aa1 a.w.length ac1, .slice aa2 a.b.length ac2]) a) := fun w' h => HA.out.kept h
    have hne : ¬ pa + 2 = p9 := by have := HP9.out; have := HSZ.out; omega
    clear zf
    go_wp2_with fail
    have ho : Only (· = p9) w10 ((((w10.setCell ⟨p9, 0, none⟩ (.int .i64 a.c)).setCell ⟨p9, 1, none⟩ (.int .i64 a.k)).setCell ⟨p9, 2, none⟩ (.slice aa1 a.w.length ac1)).setCell ⟨p9, 3, none⟩ (.slice aa2 a.b.length ac2)) := put4_only (Only.refl _ _) (.inl rfl)
    have XW := Lib.hid (X10.out.put (.int .i64 a.c) (.int .i64 a.k) (.slice aa1 a.w.length ac1) (.slice aa2 a.b.length ac2))
    clear q0 q1 q2 q3 y0 y1 y2 y3 z0 z1 z2 z3 zf0 zf1 zf2 zf3
    generalize (((w10.setCell ⟨p9, 0, none⟩ (.int .i64 a.c)).setCell ⟨p9, 1, none⟩ (.int .i64 a.k)).setCell ⟨p9, 2, none⟩ (.slice aa1 a.w.length ac1)).setCell ⟨p9, 3, none⟩ (.slice aa2 a.b.length ac2) = w11 at *
    have K11 := Lib.hid (K10.out.trans (ho.below (B := wA.heap.size) (fun i hi e => by have := HP9.out; omega) K10.out.size))
    have HV11 : Hid (ObjIn (· < p9) w11 (.agg #[.int .i64 a.c, .int .i64 a.k, .slice e51 a.w.length f51, .slice e52 a.b.length f52]) a ∧ ObjIn (· < p9) w11 (.agg #[.int .i64 b.c, .int .i64 b.k, .slice e71 b.w.length f71, .slice e72 b.b.length f72]) b) := ⟨HV10.out.1.only ho (fun i hi e => by omega), HV10.out.2.only ho (fun i hi e => by omega)⟩
    have X51 := Lib.hid (box_only X50.out ho (by have := HP59.out.1; omega))
    have X71 := Lib.hid (box_only X70.out ho (by have := HP59.out.2; omega))
    have S11 := Lib.hid (S10.out.only ho (fun k hk e => by have := hk.2; have := HS9.out; omega) (by have := HS9.out; omega))
    clear ho
    refine (Wd.refcheck_any _ c w11 (HC.out.kept (KW.out w11 K11.out)) HFAR.out).mono ?_
    rintro e w12 ⟨rfl, b12⟩
    rw [ek]
    have K12 := Lib.hid (KE.out w11 _ K11.out b12)
    have HV12 : Hid (ObjIn (· < p9) w12 (.agg #[.int .i64 a.c, .int .i64 a.k, .slice e51 a.w.length f51, .slice e52 a.b.length f52]) a ∧ ObjIn (· < p9) w12 (.agg #[.int .i64 b.c, .int .i64 b.k, .slice e71 b.w.length f71, .slice e72 b.b.length f72]) b) := ⟨HV11.out.1.fresh b12, HV11.out.2.fresh b12⟩
    have X52 := Lib.hid (X51.out.kept b12 X51.out.2.2 (Nat.le_refl _))
    have X72 := Lib.hid (X71.out.kept b12 X71.out.2.2 (Nat.le_refl _))
    have XW2 := Lib.hid (XW.out.kept b12 XW.out.2.2 (Nat.le_refl _))
    have S12 := Lib.hid (S11.out.fresh b12)
    clear b12
    obtain ⟨q0, q1, q2, q3⟩ := X52.out.1
    obtain ⟨y0, y1, y2, y3⟩ := XW2.out.1
    go_wp2_with fail
    clear q0 q1 q2 q3 y0 y1 y2 y3
    refine (Wd.same_ref _ _ a a w12 HV12.out.1.at_ (HWV.out w12 (KW.out w12 K12.out)) (short_of OWO.out) (short_of OWO.out)).mono ?_
    rintro e w13 ⟨rfl, b13⟩
    rw [Wd.sameO_self]
    have K13 := Lib.hid (KE.out w12 _ K12.out b13)
    have HV13 := Lib.hid (HV12.out.2.fresh b13)
    have X73 := Lib.hid (X72.out.kept b13 X72.out.2.2 (Nat.le_refl _))
    have S13 := Lib.hid (S12.out.fresh b13)
    clear b13
    obtain ⟨q0, q1, q2, q3⟩ := X73.out.1
    obtain ⟨y0, y1, y2, y3⟩ := (XB.out.kept K13.out (by have := HSZ.out; omega) (Nat.le_refl _)).1
    go_wp2_with fail
    clear q0 q1 q2 q3 y0 y1 y2 y3
    refine (Wd.same_ref _ _ b b w13 HV13.out.at_ (HB.out.kept (KW.out w13 K13.out)) (short_of OB.out) (short_of OB.out)).mono ?_
    rintro e w14 ⟨rfl, b14⟩
    rw [Wd.sameO_self]
    have K14 := Lib.hid (KE.out w13 _ K13.out b14)
    have S14 := Lib.hid (S13.out.fresh b14)
    clear b14
    obtain ⟨q0, q1, q2, q3⟩ := (XC.out.kept K14.out (by have := HSZ.out; omega) (Nat.le_refl _)).1
    go_wp2_with fail
    clear q0 q1 q2 q3
    refine (store_none s 400 5 2 _ _ c 3 (W64.of (by omega) (by omega)) w14 S14.out (HC.out.kept (KW.out w14 K14.out)) rfl).mono ?_
    rintro e w15 ⟨rfl, s15, o15⟩
    have K15 := Lib.hid (KF.out w14 w15 K14.out o15)
    have S15 := Lib.hid s15
    clear s15 o15
    go_wp2_with fail
    refine (made_any s 400 5 2 _ w15 S15.out).mono ?_
    rintro e w16 ⟨rfl, rfl⟩
    go_wp2_with fail
    refine (KN.out w15 K15.out).mono ?_
    rintro e w17 ⟨rfl, b17⟩
    go_wp2
    go_ret
    exact ⟨rfl, b17⟩
end Go.Proofs.YtapjeilfkpfllaaDoor
