/- The walks of the law ExtentSet. No condition but that math/bits' table lies in memory as its text lays it. -/
import Derived.Test.YtkjpemgoiobeeaaDoorESz
namespace Go.Proofs.YtkjpemgoiobeeaaDoor.extentSet
set_option maxRecDepth 1000000
open Go.ChangeShapes Go.WideShapes Go.ChangeAt Go.RowKit

theorem wo2 {ra rb : Row} (h : ext rb ≠ ext ra) : without ([] ++ [ra] ++ [rb]) (ext ra) = [rb] := by simp [without, h]
theorem room_ex (n : Nat) (R : List Row) (r : Row) (p : Nat) : ∃ a ok, Room n R r p a ok := by
  by_cases h : p = len r
  · exact ⟨r.1, true, .inl ⟨h, rfl, rfl⟩⟩
  · obtain ⟨a, ok, hf⟩ := first_ex (tk (without R (ext r))) n p
    exact ⟨a, ok, .inr ⟨h, hf⟩⟩
theorem set_yes {N : Nat → Prop} (s : Sp) (n u : Nat) (R : List Row) (r : Row) (a : Nat) (v : Value) (xs : List Int) (w : World) (h : SpaceAt w s n u R) (hr : r ∈ R) (hv : Bts N w v xs) (hN : ∀ b, N b → ¬ s.F b) (hy : Bytes xs) (hu : u ≤ 100000000000000)
    (hl : xs.length ≤ 9223372036854775807) (hR : Room n R r (secs xs.length) a true) :
    Calls Tryd.prog 16 #[.pointer (some ⟨s.sp, 0, none⟩), .agg #[.int .i64 r.1, .int .i64 (len r), .int .i64 r.2.length], v] w (SetPost s n u (without R (ext r)) a xs w) := by
  have h := set_any s n u R r a true v xs w h hr hv hN hy hu hl hR
  rwa [if_pos rfl] at h
theorem set_full {N : Nat → Prop} (s : Sp) (n u : Nat) (R : List Row) (r : Row) (a : Nat) (v : Value) (xs : List Int) (w : World) (h : SpaceAt w s n u R) (hr : r ∈ R) (hv : Bts N w v xs) (hN : ∀ b, N b → ¬ s.F b) (hy : Bytes xs) (hu : u ≤ 100000000000000)
    (hl : xs.length ≤ 9223372036854775807) (hR : Room n R r (secs xs.length) a false) :
    Calls Tryd.prog 16 #[.pointer (some ⟨s.sp, 0, none⟩), .agg #[.int .i64 r.1, .int .i64 (len r), .int .i64 r.2.length], v] w (FullPost s n u R 3 w) := by
  have h := set_any s n u R r a false v xs w h hr hv hN hy hu hl hR
  rwa [if_neg (by simp)] at h

set_option maxHeartbeats 2000000 in
theorem walk_long (w : World) (hT : Tab w) (h0 : 0 < w.heap.size) (n : Int) (va : Value) (xa : List Int) (ha : ArgB w va xa) (vb : Value) (xb : List Int) (hb : ArgB w vb xb) (vc : Value) (xc : List Int) (hc : ArgB w vc xc) (hla : xa.length ≤ 140737488351232) (hlb : xb.length ≤ 140737488351232) (hlc : xc.length ≤ 140737488351232) (h : 4000 < xa.length + xb.length + xc.length) :
    Calls Tryd.prog 6 #[.int .u8 n, va, vb, vc] w fun e w' => e = .returned (.bool true) ∧ Below w.heap.size w w' := by
  obtain ⟨a1, c1, rfl, _⟩ := ha.1.form
  obtain ⟨a2, c2, rfl, _⟩ := hb.1.form
  obtain ⟨a3, c3, rfl, _⟩ := hc.1.form
  have HK := Lib.hid (known_true w hT h0)
  have h' : (4000 : Int) < (xa.length : Int) + xb.length + xc.length := by omega
  clear ha hb hc hT
  go_enter Tryd.func6, Tryd.ntmps6
  go_wp2_with fail
  refine HK.out.mono ?_
  rintro e w1 ⟨rfl, hb⟩
  go_wp2_with fail
  go_ret
  exact ⟨rfl, hb⟩

set_option maxHeartbeats 4000000 in
theorem walk_no_yes (w : World) (hT : Tab w) (h0 : 0 < w.heap.size) (n : Nat) (hn : n ≤ 255) (va : Value) (xa : List Int) (ha : ArgB w va xa) (vb : Value) (xb : List Int) (hb : ArgB w vb xb) (vc : Value) (xc : List Int) (hc : ArgB w vc xc) (h : xa.length + xb.length + xc.length ≤ 4000) (fa : Nat) (hF1 : FirstIs (tk []) n (secs xa.length) fa false) (fb : Nat) (hF2 : FirstIs (tk []) n (secs xb.length) fb true) :
    Calls Tryd.prog 6 #[.int .u8 n, va, vb, vc] w fun e w' => e = .returned (.bool true) ∧ Below w.heap.size w w' := by
  have HA := Lib.hid ha
  have HB := Lib.hid hb
  have HC := Lib.hid hc
  obtain ⟨a1, c1, rfl, _⟩ := ha.1.form
  obtain ⟨a2, c2, rfl, _⟩ := hb.1.form
  obtain ⟨a3, c3, rfl, _⟩ := hc.1.form
  have HN := Lib.hid (enew_yes n w (by omega) hT h0)
  have h' : ¬ (4000 : Int) < (xa.length : Int) + xb.length + xc.length := by omega
  obtain ⟨qa, hqa⟩ : ∃ q, secs xa.length = q := ⟨_, rfl⟩
  obtain ⟨qb, hqb⟩ : ∃ q, secs xb.length = q := ⟨_, rfl⟩
  obtain ⟨qc, hqc⟩ : ∃ q, secs xc.length = q := ⟨_, rfl⟩
  have HQA := Lib.hid hqa
  have HQB := Lib.hid hqb
  have HQC := Lib.hid hqc
  have hqb' : qb ≤ 100 := by rw [← hqb]; unfold secs; omega
  have hqc' : qc ≤ 100 := by rw [← hqc]; unfold secs; omega
  have F1 := Lib.hid hF1
  have F2 := Lib.hid hF2
  clear hF1 hF2
  clear ha hb hc hT hqa hqb hqc
  go_enter Tryd.func6, Tryd.ntmps6
  go_wp2_with fail
  refine HN.out.mono ?_
  rintro e w1 ⟨s, rfl, s1, hlo, b1⟩
  have S1 := Lib.hid s1
  have B1 := Lib.hid b1
  have HF : Hid (∀ i, i < w.heap.size → ¬ s.F i) := fun i hi hf => by have := hf.1; omega
  have HVA : Hid (∀ w', Below w.heap.size w w' → Bts (· < w.heap.size) w' (.slice a1 xa.length c1) xa) := fun w' hb => HA.out.1.only (Only.of_below (F := fun _ => False) hb) (fun _ _ h => h)
  have HVB : Hid (∀ w', Below w.heap.size w w' → Bts (· < w.heap.size) w' (.slice a2 xb.length c2) xb) := fun w' hb => HB.out.1.only (Only.of_below (F := fun _ => False) hb) (fun _ _ h => h)
  have HVC : Hid (∀ w', Below w.heap.size w w' → Bts (· < w.heap.size) w' (.slice a3 xc.length c3) xc) := fun w' hb => HC.out.1.only (Only.of_below (F := fun _ => False) hb) (fun _ _ h => h)
  clear s1 hlo b1 HN
  go_wp2_with fail
  refine (put_no s n 0 [] fa _ xa w1 S1.out (HVA.out w1 B1.out) (by omega) F1.out).mono ?_
  rintro e w2 ⟨rfl, s2, o2⟩
  have S2 := Lib.hid s2
  have B2 : Hid (Below w.heap.size w w2) := B1.out.trans (o2.below HF.out B1.out.size)
  clear s2 o2
  go_wp2_with fail
  have x11 := box3_new w2 0 0 0 32
  have hb2 : Below w2.heap.size w2 (w2.alloc (.cells #[.int .i64 0, .int .i64 0, .int .i64 0] 32)) := (Below.refl _ _).alloc (Nat.le_refl _) _
  have S3 := Lib.hid (S2.out.fresh hb2)
  have B3 : Hid (Below w.heap.size w _) := B2.out.trans (hb2.mono B2.out.size)
  have h11 := S2.out.lt
  obtain ⟨p11, hp11⟩ : ∃ p, w2.heap.size = p := ⟨_, rfl⟩
  rw [hp11] at x11 h11 ⊢
  have X11 := Lib.hid x11
  have H11 : Hid (¬ s.F p11) := fun h => by have := h.2; omega
  clear x11 hb2 hp11 h11
  generalize w2.alloc (.cells #[.int .i64 0, .int .i64 0, .int .i64 0] 32) = w3 at  X11 S3 B3 ⊢
  refine (put_yes s n 0 [] fb _ xb w3 S3.out (HVB.out w3 B3.out) HF.out HB.out.2.1 (by omega) (by omega) F2.out).mono ?_
  rintro e w4 ⟨rfl, s4, o4⟩
  rw [HQB.out]
  have S4 := Lib.hid s4
  have B4 : Hid (Below w.heap.size w w4) := B3.out.trans (o4.below HF.out B3.out.size)
  have X11 := Lib.hid (X11.out.only o4 H11.out)
  clear s4 o4
  go_wp2_with fail
  have x13 := box3_new w4 fb qb xb.length 32
  have hb4 : Below w4.heap.size w4 (w4.alloc (.cells #[.int .i64 (fb : Nat), .int .i64 (qb : Nat), .int .i64 (xb.length : Nat)] 32)) := (Below.refl _ _).alloc (Nat.le_refl _) _
  have S5 := Lib.hid (S4.out.fresh hb4)
  have B5 : Hid (Below w.heap.size w _) := B4.out.trans (hb4.mono B4.out.size)
  have X11 := Lib.hid (X11.out.fresh hb4)
  have h13 := S4.out.lt
  obtain ⟨p13, hp13⟩ : ∃ p, w4.heap.size = p := ⟨_, rfl⟩
  rw [hp13] at x13 h13 ⊢
  have X13 := Lib.hid x13
  have H13 : Hid (¬ s.F p13) := fun h => by have := h.2; omega
  clear x13 hb4 hp13 h13
  generalize w4.alloc (.cells #[.int .i64 (fb : Nat), .int .i64 (qb : Nat), .int .i64 (xb.length : Nat)] 32) = w5 at X11 X13 S5 B5 ⊢
  refine (known_true w5 S5.out.tab (by have := S5.out.lt; omega)).mono ?_
  rintro e w6 ⟨rfl, b6⟩
  have B6 : Hid (Below w.heap.size w w6) := B5.out.trans (b6.mono B5.out.size)
  clear b6
  go_wp2_with fail
  go_ret
  exact ⟨rfl, B6.out⟩

set_option maxHeartbeats 4000000 in
theorem walk_no_no (w : World) (hT : Tab w) (h0 : 0 < w.heap.size) (n : Nat) (hn : n ≤ 255) (va : Value) (xa : List Int) (ha : ArgB w va xa) (vb : Value) (xb : List Int) (hb : ArgB w vb xb) (vc : Value) (xc : List Int) (hc : ArgB w vc xc) (h : xa.length + xb.length + xc.length ≤ 4000) (fa : Nat) (hF1 : FirstIs (tk []) n (secs xa.length) fa false) (fb : Nat) (hF2 : FirstIs (tk []) n (secs xb.length) fb false) :
    Calls Tryd.prog 6 #[.int .u8 n, va, vb, vc] w fun e w' => e = .returned (.bool true) ∧ Below w.heap.size w w' := by
  have HA := Lib.hid ha
  have HB := Lib.hid hb
  have HC := Lib.hid hc
  obtain ⟨a1, c1, rfl, _⟩ := ha.1.form
  obtain ⟨a2, c2, rfl, _⟩ := hb.1.form
  obtain ⟨a3, c3, rfl, _⟩ := hc.1.form
  have HN := Lib.hid (enew_yes n w (by omega) hT h0)
  have h' : ¬ (4000 : Int) < (xa.length : Int) + xb.length + xc.length := by omega
  obtain ⟨qa, hqa⟩ : ∃ q, secs xa.length = q := ⟨_, rfl⟩
  obtain ⟨qb, hqb⟩ : ∃ q, secs xb.length = q := ⟨_, rfl⟩
  obtain ⟨qc, hqc⟩ : ∃ q, secs xc.length = q := ⟨_, rfl⟩
  have HQA := Lib.hid hqa
  have HQB := Lib.hid hqb
  have HQC := Lib.hid hqc
  have hqb' : qb ≤ 100 := by rw [← hqb]; unfold secs; omega
  have hqc' : qc ≤ 100 := by rw [← hqc]; unfold secs; omega
  have F1 := Lib.hid hF1
  have F2 := Lib.hid hF2
  clear hF1 hF2
  clear ha hb hc hT hqa hqb hqc
  go_enter Tryd.func6, Tryd.ntmps6
  go_wp2_with fail
  refine HN.out.mono ?_
  rintro e w1 ⟨s, rfl, s1, hlo, b1⟩
  have S1 := Lib.hid s1
  have B1 := Lib.hid b1
  have HF : Hid (∀ i, i < w.heap.size → ¬ s.F i) := fun i hi hf => by have := hf.1; omega
  have HVA : Hid (∀ w', Below w.heap.size w w' → Bts (· < w.heap.size) w' (.slice a1 xa.length c1) xa) := fun w' hb => HA.out.1.only (Only.of_below (F := fun _ => False) hb) (fun _ _ h => h)
  have HVB : Hid (∀ w', Below w.heap.size w w' → Bts (· < w.heap.size) w' (.slice a2 xb.length c2) xb) := fun w' hb => HB.out.1.only (Only.of_below (F := fun _ => False) hb) (fun _ _ h => h)
  have HVC : Hid (∀ w', Below w.heap.size w w' → Bts (· < w.heap.size) w' (.slice a3 xc.length c3) xc) := fun w' hb => HC.out.1.only (Only.of_below (F := fun _ => False) hb) (fun _ _ h => h)
  clear s1 hlo b1 HN
  go_wp2_with fail
  refine (put_no s n 0 [] fa _ xa w1 S1.out (HVA.out w1 B1.out) (by omega) F1.out).mono ?_
  rintro e w2 ⟨rfl, s2, o2⟩
  have S2 := Lib.hid s2
  have B2 : Hid (Below w.heap.size w w2) := B1.out.trans (o2.below HF.out B1.out.size)
  clear s2 o2
  go_wp2_with fail
  have x11 := box3_new w2 0 0 0 32
  have hb2 : Below w2.heap.size w2 (w2.alloc (.cells #[.int .i64 0, .int .i64 0, .int .i64 0] 32)) := (Below.refl _ _).alloc (Nat.le_refl _) _
  have S3 := Lib.hid (S2.out.fresh hb2)
  have B3 : Hid (Below w.heap.size w _) := B2.out.trans (hb2.mono B2.out.size)
  have h11 := S2.out.lt
  obtain ⟨p11, hp11⟩ : ∃ p, w2.heap.size = p := ⟨_, rfl⟩
  rw [hp11] at x11 h11 ⊢
  have X11 := Lib.hid x11
  have H11 : Hid (¬ s.F p11) := fun h => by have := h.2; omega
  clear x11 hb2 hp11 h11
  generalize w2.alloc (.cells #[.int .i64 0, .int .i64 0, .int .i64 0] 32) = w3 at  X11 S3 B3 ⊢
  refine (put_no s n 0 [] fb _ xb w3 S3.out (HVB.out w3 B3.out) (by omega) F2.out).mono ?_
  rintro e w4 ⟨rfl, s4, o4⟩
  have S4 := Lib.hid s4
  have B4 : Hid (Below w.heap.size w w4) := B3.out.trans (o4.below HF.out B3.out.size)
  have X11 := Lib.hid (X11.out.only o4 H11.out)
  clear s4 o4
  go_wp2_with fail
  have x13 := box3_new w4 0 0 0 32
  have hb4 : Below w4.heap.size w4 (w4.alloc (.cells #[.int .i64 0, .int .i64 0, .int .i64 0] 32)) := (Below.refl _ _).alloc (Nat.le_refl _) _
  have S5 := Lib.hid (S4.out.fresh hb4)
  have B5 : Hid (Below w.heap.size w _) := B4.out.trans (hb4.mono B4.out.size)
  have X11 := Lib.hid (X11.out.fresh hb4)
  have h13 := S4.out.lt
  obtain ⟨p13, hp13⟩ : ∃ p, w4.heap.size = p := ⟨_, rfl⟩
  rw [hp13] at x13 h13 ⊢
  have X13 := Lib.hid x13
  have H13 : Hid (¬ s.F p13) := fun h => by have := h.2; omega
  clear x13 hb4 hp13 h13
  generalize w4.alloc (.cells #[.int .i64 0, .int .i64 0, .int .i64 0] 32) = w5 at X11 X13 S5 B5 ⊢
  refine (known_true w5 S5.out.tab (by have := S5.out.lt; omega)).mono ?_
  rintro e w6 ⟨rfl, b6⟩
  have B6 : Hid (Below w.heap.size w w6) := B5.out.trans (b6.mono B5.out.size)
  clear b6
  go_wp2_with fail
  go_ret
  exact ⟨rfl, B6.out⟩

set_option maxHeartbeats 4000000 in
theorem walk_yes_no (w : World) (hT : Tab w) (h0 : 0 < w.heap.size) (n : Nat) (hn : n ≤ 255) (va : Value) (xa : List Int) (ha : ArgB w va xa) (vb : Value) (xb : List Int) (hb : ArgB w vb xb) (vc : Value) (xc : List Int) (hc : ArgB w vc xc) (h : xa.length + xb.length + xc.length ≤ 4000) (fa : Nat) (hF1 : FirstIs (tk []) n (secs xa.length) fa true) (fb : Nat) (hF2 : FirstIs (tk ([] ++ [(fa, xa)])) n (secs xb.length) fb false) :
    Calls Tryd.prog 6 #[.int .u8 n, va, vb, vc] w fun e w' => e = .returned (.bool true) ∧ Below w.heap.size w w' := by
  have HA := Lib.hid ha
  have HB := Lib.hid hb
  have HC := Lib.hid hc
  obtain ⟨a1, c1, rfl, _⟩ := ha.1.form
  obtain ⟨a2, c2, rfl, _⟩ := hb.1.form
  obtain ⟨a3, c3, rfl, _⟩ := hc.1.form
  have HN := Lib.hid (enew_yes n w (by omega) hT h0)
  have h' : ¬ (4000 : Int) < (xa.length : Int) + xb.length + xc.length := by omega
  obtain ⟨qa, hqa⟩ : ∃ q, secs xa.length = q := ⟨_, rfl⟩
  obtain ⟨qb, hqb⟩ : ∃ q, secs xb.length = q := ⟨_, rfl⟩
  obtain ⟨qc, hqc⟩ : ∃ q, secs xc.length = q := ⟨_, rfl⟩
  have HQA := Lib.hid hqa
  have HQB := Lib.hid hqb
  have HQC := Lib.hid hqc
  have hqb' : qb ≤ 100 := by rw [← hqb]; unfold secs; omega
  have hqc' : qc ≤ 100 := by rw [← hqc]; unfold secs; omega
  have F1 := Lib.hid hF1
  have F2 := Lib.hid hF2
  clear hF1 hF2
  clear ha hb hc hT hqa hqb hqc
  go_enter Tryd.func6, Tryd.ntmps6
  go_wp2_with fail
  refine HN.out.mono ?_
  rintro e w1 ⟨s, rfl, s1, hlo, b1⟩
  have S1 := Lib.hid s1
  have B1 := Lib.hid b1
  have HF : Hid (∀ i, i < w.heap.size → ¬ s.F i) := fun i hi hf => by have := hf.1; omega
  have HVA : Hid (∀ w', Below w.heap.size w w' → Bts (· < w.heap.size) w' (.slice a1 xa.length c1) xa) := fun w' hb => HA.out.1.only (Only.of_below (F := fun _ => False) hb) (fun _ _ h => h)
  have HVB : Hid (∀ w', Below w.heap.size w w' → Bts (· < w.heap.size) w' (.slice a2 xb.length c2) xb) := fun w' hb => HB.out.1.only (Only.of_below (F := fun _ => False) hb) (fun _ _ h => h)
  have HVC : Hid (∀ w', Below w.heap.size w w' → Bts (· < w.heap.size) w' (.slice a3 xc.length c3) xc) := fun w' hb => HC.out.1.only (Only.of_below (F := fun _ => False) hb) (fun _ _ h => h)
  clear s1 hlo b1 HN
  go_wp2_with fail
  refine (put_yes s n 0 [] fa _ xa w1 S1.out (HVA.out w1 B1.out) HF.out HA.out.2.1 (by omega) (by omega) F1.out).mono ?_
  rintro e w2 ⟨rfl, s2, o2⟩
  rw [HQA.out]
  have S2 := Lib.hid s2
  have B2 : Hid (Below w.heap.size w w2) := B1.out.trans (o2.below HF.out B1.out.size)
  clear s2 o2
  go_wp2_with fail
  have x11 := box3_new w2 fa qa xa.length 32
  have hb2 : Below w2.heap.size w2 (w2.alloc (.cells #[.int .i64 (fa : Nat), .int .i64 (qa : Nat), .int .i64 (xa.length : Nat)] 32)) := (Below.refl _ _).alloc (Nat.le_refl _) _
  have S3 := Lib.hid (S2.out.fresh hb2)
  have B3 : Hid (Below w.heap.size w _) := B2.out.trans (hb2.mono B2.out.size)
  have h11 := S2.out.lt
  obtain ⟨p11, hp11⟩ : ∃ p, w2.heap.size = p := ⟨_, rfl⟩
  rw [hp11] at x11 h11 ⊢
  have X11 := Lib.hid x11
  have H11 : Hid (¬ s.F p11) := fun h => by have := h.2; omega
  clear x11 hb2 hp11 h11
  generalize w2.alloc (.cells #[.int .i64 (fa : Nat), .int .i64 (qa : Nat), .int .i64 (xa.length : Nat)] 32) = w3 at  X11 S3 B3 ⊢
  refine (put_no s n 1 _ fb _ xb w3 S3.out (HVB.out w3 B3.out) (by omega) F2.out).mono ?_
  rintro e w4 ⟨rfl, s4, o4⟩
  have S4 := Lib.hid s4
  have B4 : Hid (Below w.heap.size w w4) := B3.out.trans (o4.below HF.out B3.out.size)
  have X11 := Lib.hid (X11.out.only o4 H11.out)
  clear s4 o4
  go_wp2_with fail
  have x13 := box3_new w4 0 0 0 32
  have hb4 : Below w4.heap.size w4 (w4.alloc (.cells #[.int .i64 0, .int .i64 0, .int .i64 0] 32)) := (Below.refl _ _).alloc (Nat.le_refl _) _
  have S5 := Lib.hid (S4.out.fresh hb4)
  have B5 : Hid (Below w.heap.size w _) := B4.out.trans (hb4.mono B4.out.size)
  have X11 := Lib.hid (X11.out.fresh hb4)
  have h13 := S4.out.lt
  obtain ⟨p13, hp13⟩ : ∃ p, w4.heap.size = p := ⟨_, rfl⟩
  rw [hp13] at x13 h13 ⊢
  have X13 := Lib.hid x13
  have H13 : Hid (¬ s.F p13) := fun h => by have := h.2; omega
  clear x13 hb4 hp13 h13
  generalize w4.alloc (.cells #[.int .i64 0, .int .i64 0, .int .i64 0] 32) = w5 at X11 X13 S5 B5 ⊢
  refine (known_true w5 S5.out.tab (by have := S5.out.lt; omega)).mono ?_
  rintro e w6 ⟨rfl, b6⟩
  have B6 : Hid (Below w.heap.size w w6) := B5.out.trans (b6.mono B5.out.size)
  clear b6
  go_wp2_with fail
  go_ret
  exact ⟨rfl, B6.out⟩

set_option maxHeartbeats 4000000 in
theorem walk_full (w : World) (hT : Tab w) (h0 : 0 < w.heap.size) (n : Nat) (hn : n ≤ 255) (va : Value) (xa : List Int) (ha : ArgB w va xa) (vb : Value) (xb : List Int) (hb : ArgB w vb xb) (vc : Value) (xc : List Int) (hc : ArgB w vc xc) (h : xa.length + xb.length + xc.length ≤ 4000) (fa : Nat) (hF1 : FirstIs (tk []) n (secs xa.length) fa true) (fb : Nat) (hF2 : FirstIs (tk ([] ++ [(fa, xa)])) n (secs xb.length) fb true) (fc : Nat) (hR : Room n ([] ++ [(fa, xa)] ++ [(fb, xb)]) (fa, xa) (secs xc.length) fc false) :
    Calls Tryd.prog 6 #[.int .u8 n, va, vb, vc] w fun e w' => e = .returned (.bool true) ∧ Below w.heap.size w w' := by
  have HA := Lib.hid ha
  have HB := Lib.hid hb
  have HC := Lib.hid hc
  obtain ⟨a1, c1, rfl, _⟩ := ha.1.form
  obtain ⟨a2, c2, rfl, _⟩ := hb.1.form
  obtain ⟨a3, c3, rfl, _⟩ := hc.1.form
  have HN := Lib.hid (enew_yes n w (by omega) hT h0)
  have h' : ¬ (4000 : Int) < (xa.length : Int) + xb.length + xc.length := by omega
  obtain ⟨qa, hqa⟩ : ∃ q, secs xa.length = q := ⟨_, rfl⟩
  obtain ⟨qb, hqb⟩ : ∃ q, secs xb.length = q := ⟨_, rfl⟩
  obtain ⟨qc, hqc⟩ : ∃ q, secs xc.length = q := ⟨_, rfl⟩
  have HQA := Lib.hid hqa
  have HQB := Lib.hid hqb
  have HQC := Lib.hid hqc
  have hqb' : qb ≤ 100 := by rw [← hqb]; unfold secs; omega
  have hqc' : qc ≤ 100 := by rw [← hqc]; unfold secs; omega
  have F1 := Lib.hid hF1
  have F2 := Lib.hid hF2
  have HRM := Lib.hid hR
  have hfa : fa ≤ 255 := by
    rcases hF1 with ⟨_, h1, _⟩ | ⟨h1, _⟩
    · omega
    · cases h1
  have hfb : fb ≤ 255 := by
    rcases hF2 with ⟨_, h1, _⟩ | ⟨h1, _⟩
    · omega
    · cases h1
  clear hF1 hF2 hR
  clear ha hb hc hT hqa hqb hqc
  go_enter Tryd.func6, Tryd.ntmps6
  go_wp2_with fail
  refine HN.out.mono ?_
  rintro e w1 ⟨s, rfl, s1, hlo, b1⟩
  have S1 := Lib.hid s1
  have B1 := Lib.hid b1
  have HF : Hid (∀ i, i < w.heap.size → ¬ s.F i) := fun i hi hf => by have := hf.1; omega
  have HVA : Hid (∀ w', Below w.heap.size w w' → Bts (· < w.heap.size) w' (.slice a1 xa.length c1) xa) := fun w' hb => HA.out.1.only (Only.of_below (F := fun _ => False) hb) (fun _ _ h => h)
  have HVB : Hid (∀ w', Below w.heap.size w w' → Bts (· < w.heap.size) w' (.slice a2 xb.length c2) xb) := fun w' hb => HB.out.1.only (Only.of_below (F := fun _ => False) hb) (fun _ _ h => h)
  have HVC : Hid (∀ w', Below w.heap.size w w' → Bts (· < w.heap.size) w' (.slice a3 xc.length c3) xc) := fun w' hb => HC.out.1.only (Only.of_below (F := fun _ => False) hb) (fun _ _ h => h)
  clear s1 hlo b1 HN
  go_wp2_with fail
  refine (put_yes s n 0 [] fa _ xa w1 S1.out (HVA.out w1 B1.out) HF.out HA.out.2.1 (by omega) (by omega) F1.out).mono ?_
  rintro e w2 ⟨rfl, s2, o2⟩
  rw [HQA.out]
  have S2 := Lib.hid s2
  have B2 : Hid (Below w.heap.size w w2) := B1.out.trans (o2.below HF.out B1.out.size)
  clear s2 o2
  go_wp2_with fail
  have x11 := box3_new w2 fa qa xa.length 32
  have hb2 : Below w2.heap.size w2 (w2.alloc (.cells #[.int .i64 (fa : Nat), .int .i64 (qa : Nat), .int .i64 (xa.length : Nat)] 32)) := (Below.refl _ _).alloc (Nat.le_refl _) _
  have S3 := Lib.hid (S2.out.fresh hb2)
  have B3 : Hid (Below w.heap.size w _) := B2.out.trans (hb2.mono B2.out.size)
  have h11 := S2.out.lt
  obtain ⟨p11, hp11⟩ : ∃ p, w2.heap.size = p := ⟨_, rfl⟩
  rw [hp11] at x11 h11 ⊢
  have X11 := Lib.hid x11
  have H11 : Hid (¬ s.F p11) := fun h => by have := h.2; omega
  clear x11 hb2 hp11 h11
  generalize w2.alloc (.cells #[.int .i64 (fa : Nat), .int .i64 (qa : Nat), .int .i64 (xa.length : Nat)] 32) = w3 at  X11 S3 B3 ⊢
  refine (put_yes s n 1 _ fb _ xb w3 S3.out (HVB.out w3 B3.out) HF.out HB.out.2.1 (by omega) (by omega) F2.out).mono ?_
  rintro e w4 ⟨rfl, s4, o4⟩
  rw [HQB.out]
  have S4 := Lib.hid s4
  have B4 : Hid (Below w.heap.size w w4) := B3.out.trans (o4.below HF.out B3.out.size)
  have X11 := Lib.hid (X11.out.only o4 H11.out)
  clear s4 o4
  go_wp2_with fail
  have x13 := box3_new w4 fb qb xb.length 32
  have hb4 : Below w4.heap.size w4 (w4.alloc (.cells #[.int .i64 (fb : Nat), .int .i64 (qb : Nat), .int .i64 (xb.length : Nat)] 32)) := (Below.refl _ _).alloc (Nat.le_refl _) _
  have S5 := Lib.hid (S4.out.fresh hb4)
  have B5 : Hid (Below w.heap.size w _) := B4.out.trans (hb4.mono B4.out.size)
  have X11 := Lib.hid (X11.out.fresh hb4)
  have h13 := S4.out.lt
  obtain ⟨p13, hp13⟩ : ∃ p, w4.heap.size = p := ⟨_, rfl⟩
  rw [hp13] at x13 h13 ⊢
  have X13 := Lib.hid x13
  have H13 : Hid (¬ s.F p13) := fun h => by have := h.2; omega
  clear x13 hb4 hp13 h13
  generalize w4.alloc (.cells #[.int .i64 (fb : Nat), .int .i64 (qb : Nat), .int .i64 (xb.length : Nat)] 32) = w5 at X11 X13 S5 B5 ⊢
  have htot : total ([] ++ [(fa, xa)] ++ [(fb, xb)]) = qa + qb := by
    have e1 : len (fa, xa) = qa := HQA.out
    have e2 : len (fb, xb) = qb := HQB.out
    simp [total, e1, e2]
  have hqa' : qa ≤ 255 := by
    have := S5.out.good.room (fa, xa) (by simp)
    have e1 : len (fa, xa) = qa := HQA.out
    rw [e1] at this
    omega
  have hus := eused_any s n 2 _ w5 S5.out
  rw [htot] at hus
  refine hus.mono ?_
  rintro e w6 ⟨rfl, s6, b6⟩
  have S6 := Lib.hid s6
  have B6 : Hid (Below w.heap.size w w6) := B5.out.trans (b6.mono B5.out.size)
  have x11 := X11.out.fresh b6
  have X11 := Lib.hid x11
  have X13 := Lib.hid (X13.out.fresh b6)
  obtain ⟨y1, y2, y3, _, _⟩ := x11
  clear s6 b6 hus htot
  go_wp2_with fail
  have hst : Calls Tryd.prog 16 #[.pointer (some ⟨s.sp, 0, none⟩), .agg #[.int .i64 fa, .int .i64 (secs xa.length), .int .i64 xa.length], .slice a3 xc.length c3] w6 (FullPost s n 2 ([] ++ [(fa, xa)] ++ [(fb, xb)]) 3 w6) :=
    set_full s n 2 _ (fa, xa) fc _ xc w6 S6.out (by simp) (HVC.out w6 B6.out) HF.out HC.out.2.1 (by omega) (by omega) HRM.out
  rw [HQA.out] at hst
  refine hst.mono ?_
  rintro e w7 ⟨rfl, s7, o7⟩
  have S7 := Lib.hid s7
  have B7 : Hid (Below w.heap.size w w7) := B6.out.trans (o7.below HF.out B6.out.size)
  have x11 := X11.out.only o7 H11.out
  have x13 := X13.out.only o7 H13.out
  have X11 := Lib.hid x11
  have X13 := Lib.hid x13
  have hb7 : Below w7.heap.size w7 (w7.alloc (.cells #[.int .i64 0, .int .i64 0, .int .i64 0] 32)) := (Below.refl _ _).alloc (Nat.le_refl _) _
  have x13' := x13.fresh hb7
  obtain ⟨z1, z2, z3, _, _⟩ := x13'
  clear s7 o7 hst y1 y2 y3 x11 x13 hb7 S1 B1 S2 B2 S3 B3 S4 B4 S5 B5 S6 B6
  go_wp2_with fail
  have x16 := box3_new w7 0 0 0 32
  have hb7 : Below w7.heap.size w7 (w7.alloc (.cells #[.int .i64 0, .int .i64 0, .int .i64 0] 32)) := (Below.refl _ _).alloc (Nat.le_refl _) _
  have S8 := Lib.hid (S7.out.fresh hb7)
  have B8 : Hid (Below w.heap.size w _) := B7.out.trans (hb7.mono B7.out.size)
  have X11 := Lib.hid (X11.out.fresh hb7)
  have X13 := Lib.hid (X13.out.fresh hb7)
  have h16 := S7.out.lt
  obtain ⟨p16, hp16⟩ : ∃ p, w7.heap.size = p := ⟨_, rfl⟩
  rw [hp16] at x16 h16 ⊢
  have X16 := Lib.hid x16
  have H16 : Hid (¬ s.F p16) := fun h => by have := h.2; omega
  clear x16 hb7 hp16 h16
  generalize w7.alloc (.cells #[.int .i64 0, .int .i64 0, .int .i64 0] 32) = w8 at X11 X13 X16 S8 B8 ⊢
  have hgt : Calls Tryd.prog 13 #[.pointer (some ⟨s.sp, 0, none⟩), .agg #[.int .i64 fb, .int .i64 (secs xb.length), .int .i64 xb.length]] w8 (GetPost s n 2 ([] ++ [(fa, xa)] ++ [(fb, xb)]) xb w8) := get_yes s n 2 _ (fb, xb) w8 S8.out (by simp) (by omega)
  rw [HQB.out] at hgt
  refine hgt.mono ?_
  rintro e w9 ⟨v9, rfl, hv9, s9, o9⟩
  have S9 := Lib.hid s9
  have B9 : Hid (Below w.heap.size w w9) := B8.out.trans (o9.below HF.out B8.out.size)
  have HSM := Lib.hid (same_eq v9 _ xb w9 hv9 (HVB.out w9 B9.out))
  obtain ⟨a9, c9, rfl, _⟩ := hv9.form
  have x11 := X11.out.only o9 H11.out
  have x13 := X13.out.only o9 H13.out
  have x16 := X16.out.only o9 H16.out
  have X11 := Lib.hid x11
  have X13 := Lib.hid x13
  have X16 := Lib.hid x16
  obtain ⟨y1, y2, y3, _, _⟩ := x11
  clear s9 o9 hgt hv9 z1 z2 z3 S7 B7 S8 B8
  go_wp2_with fail
  refine HSM.out.mono ?_
  rintro e w10 ⟨rfl, rfl⟩
  go_wp2_with fail
  have hgt : Calls Tryd.prog 13 #[.pointer (some ⟨s.sp, 0, none⟩), .agg #[.int .i64 fa, .int .i64 (secs xa.length), .int .i64 xa.length]] w9 (GetPost s n 3 ([] ++ [(fa, xa)] ++ [(fb, xb)]) xa w9) := get_yes s n 3 _ (fa, xa) w9 S9.out (by simp) (by omega)
  rw [HQA.out] at hgt
  refine hgt.mono ?_
  rintro e w10 ⟨v10, rfl, hv10, s10, o10⟩
  have S10 := Lib.hid s10
  have B10 : Hid (Below w.heap.size w w10) := B9.out.trans (o10.below HF.out B9.out.size)
  have HSM := Lib.hid (same_eq v10 _ xa w10 hv10 (HVA.out w10 B10.out))
  obtain ⟨a10, c10, rfl, _⟩ := hv10.form
  clear s10 o10 hgt hv10 y1 y2 y3 S9 B9
  go_wp2_with fail
  refine HSM.out.mono ?_
  rintro e w11 ⟨rfl, rfl⟩
  go_wp2_with fail
  have htot : total ([] ++ [(fa, xa)] ++ [(fb, xb)]) = qa + qb := by
    have e1 : len (fa, xa) = qa := HQA.out
    have e2 : len (fb, xb) = qb := HQB.out
    simp [total, e1, e2]
  have hus := eused_any s n 4 _ w10 S10.out
  rw [htot] at hus
  refine hus.mono ?_
  rintro e w11 ⟨rfl, s11, b11⟩
  have S11 := Lib.hid s11
  have B11 : Hid (Below w.heap.size w w11) := B10.out.trans (b11.mono B10.out.size)
  clear s11 b11 hus htot
  go_wp2_with fail
  refine (known_true w11 S11.out.tab (by have := S11.out.lt; omega)).mono ?_
  rintro e w12 ⟨rfl, b12⟩
  have B12 : Hid (Below w.heap.size w w12) := B11.out.trans (b12.mono B11.out.size)
  clear b12
  go_wp2_with fail
  go_ret
  exact ⟨rfl, B12.out⟩

set_option maxHeartbeats 4000000 in
theorem walk_set (w : World) (hT : Tab w) (h0 : 0 < w.heap.size) (n : Nat) (hn : n ≤ 255) (va : Value) (xa : List Int) (ha : ArgB w va xa) (vb : Value) (xb : List Int) (hb : ArgB w vb xb) (vc : Value) (xc : List Int) (hc : ArgB w vc xc) (h : xa.length + xb.length + xc.length ≤ 4000) (fa : Nat) (hF1 : FirstIs (tk []) n (secs xa.length) fa true) (fb : Nat) (hF2 : FirstIs (tk ([] ++ [(fa, xa)])) n (secs xb.length) fb true) (fc : Nat) (hR : Room n ([] ++ [(fa, xa)] ++ [(fb, xb)]) (fa, xa) (secs xc.length) fc true) :
    Calls Tryd.prog 6 #[.int .u8 n, va, vb, vc] w fun e w' => e = .returned (.bool true) ∧ Below w.heap.size w w' := by
  have HA := Lib.hid ha
  have HB := Lib.hid hb
  have HC := Lib.hid hc
  obtain ⟨a1, c1, rfl, _⟩ := ha.1.form
  obtain ⟨a2, c2, rfl, _⟩ := hb.1.form
  obtain ⟨a3, c3, rfl, _⟩ := hc.1.form
  have HN := Lib.hid (enew_yes n w (by omega) hT h0)
  have h' : ¬ (4000 : Int) < (xa.length : Int) + xb.length + xc.length := by omega
  obtain ⟨qa, hqa⟩ : ∃ q, secs xa.length = q := ⟨_, rfl⟩
  obtain ⟨qb, hqb⟩ : ∃ q, secs xb.length = q := ⟨_, rfl⟩
  obtain ⟨qc, hqc⟩ : ∃ q, secs xc.length = q := ⟨_, rfl⟩
  have HQA := Lib.hid hqa
  have HQB := Lib.hid hqb
  have HQC := Lib.hid hqc
  have hqb' : qb ≤ 100 := by rw [← hqb]; unfold secs; omega
  have hqc' : qc ≤ 100 := by rw [← hqc]; unfold secs; omega
  have F1 := Lib.hid hF1
  have F2 := Lib.hid hF2
  have HRM := Lib.hid hR
  have hfa : fa ≤ 255 := by
    rcases hF1 with ⟨_, h1, _⟩ | ⟨h1, _⟩
    · omega
    · cases h1
  have hfb : fb ≤ 255 := by
    rcases hF2 with ⟨_, h1, _⟩ | ⟨h1, _⟩
    · omega
    · cases h1
  clear hF1 hF2 hR
  clear ha hb hc hT hqa hqb hqc
  go_enter Tryd.func6, Tryd.ntmps6
  go_wp2_with fail
  refine HN.out.mono ?_
  rintro e w1 ⟨s, rfl, s1, hlo, b1⟩
  have S1 := Lib.hid s1
  have B1 := Lib.hid b1
  have HF : Hid (∀ i, i < w.heap.size → ¬ s.F i) := fun i hi hf => by have := hf.1; omega
  have HVA : Hid (∀ w', Below w.heap.size w w' → Bts (· < w.heap.size) w' (.slice a1 xa.length c1) xa) := fun w' hb => HA.out.1.only (Only.of_below (F := fun _ => False) hb) (fun _ _ h => h)
  have HVB : Hid (∀ w', Below w.heap.size w w' → Bts (· < w.heap.size) w' (.slice a2 xb.length c2) xb) := fun w' hb => HB.out.1.only (Only.of_below (F := fun _ => False) hb) (fun _ _ h => h)
  have HVC : Hid (∀ w', Below w.heap.size w w' → Bts (· < w.heap.size) w' (.slice a3 xc.length c3) xc) := fun w' hb => HC.out.1.only (Only.of_below (F := fun _ => False) hb) (fun _ _ h => h)
  clear s1 hlo b1 HN
  go_wp2_with fail
  refine (put_yes s n 0 [] fa _ xa w1 S1.out (HVA.out w1 B1.out) HF.out HA.out.2.1 (by omega) (by omega) F1.out).mono ?_
  rintro e w2 ⟨rfl, s2, o2⟩
  rw [HQA.out]
  have S2 := Lib.hid s2
  have B2 : Hid (Below w.heap.size w w2) := B1.out.trans (o2.below HF.out B1.out.size)
  clear s2 o2
  go_wp2_with fail
  have x11 := box3_new w2 fa qa xa.length 32
  have hb2 : Below w2.heap.size w2 (w2.alloc (.cells #[.int .i64 (fa : Nat), .int .i64 (qa : Nat), .int .i64 (xa.length : Nat)] 32)) := (Below.refl _ _).alloc (Nat.le_refl _) _
  have S3 := Lib.hid (S2.out.fresh hb2)
  have B3 : Hid (Below w.heap.size w _) := B2.out.trans (hb2.mono B2.out.size)
  have h11 := S2.out.lt
  obtain ⟨p11, hp11⟩ : ∃ p, w2.heap.size = p := ⟨_, rfl⟩
  rw [hp11] at x11 h11 ⊢
  have X11 := Lib.hid x11
  have H11 : Hid (¬ s.F p11) := fun h => by have := h.2; omega
  clear x11 hb2 hp11 h11
  generalize w2.alloc (.cells #[.int .i64 (fa : Nat), .int .i64 (qa : Nat), .int .i64 (xa.length : Nat)] 32) = w3 at  X11 S3 B3 ⊢
  refine (put_yes s n 1 _ fb _ xb w3 S3.out (HVB.out w3 B3.out) HF.out HB.out.2.1 (by omega) (by omega) F2.out).mono ?_
  rintro e w4 ⟨rfl, s4, o4⟩
  rw [HQB.out]
  have S4 := Lib.hid s4
  have B4 : Hid (Below w.heap.size w w4) := B3.out.trans (o4.below HF.out B3.out.size)
  have X11 := Lib.hid (X11.out.only o4 H11.out)
  clear s4 o4
  go_wp2_with fail
  have x13 := box3_new w4 fb qb xb.length 32
  have hb4 : Below w4.heap.size w4 (w4.alloc (.cells #[.int .i64 (fb : Nat), .int .i64 (qb : Nat), .int .i64 (xb.length : Nat)] 32)) := (Below.refl _ _).alloc (Nat.le_refl _) _
  have S5 := Lib.hid (S4.out.fresh hb4)
  have B5 : Hid (Below w.heap.size w _) := B4.out.trans (hb4.mono B4.out.size)
  have X11 := Lib.hid (X11.out.fresh hb4)
  have h13 := S4.out.lt
  obtain ⟨p13, hp13⟩ : ∃ p, w4.heap.size = p := ⟨_, rfl⟩
  rw [hp13] at x13 h13 ⊢
  have X13 := Lib.hid x13
  have H13 : Hid (¬ s.F p13) := fun h => by have := h.2; omega
  clear x13 hb4 hp13 h13
  generalize w4.alloc (.cells #[.int .i64 (fb : Nat), .int .i64 (qb : Nat), .int .i64 (xb.length : Nat)] 32) = w5 at X11 X13 S5 B5 ⊢
  have htot : total ([] ++ [(fa, xa)] ++ [(fb, xb)]) = qa + qb := by
    have e1 : len (fa, xa) = qa := HQA.out
    have e2 : len (fb, xb) = qb := HQB.out
    simp [total, e1, e2]
  have hqa' : qa ≤ 255 := by
    have := S5.out.good.room (fa, xa) (by simp)
    have e1 : len (fa, xa) = qa := HQA.out
    rw [e1] at this
    omega
  have hus := eused_any s n 2 _ w5 S5.out
  rw [htot] at hus
  refine hus.mono ?_
  rintro e w6 ⟨rfl, s6, b6⟩
  have S6 := Lib.hid s6
  have B6 : Hid (Below w.heap.size w w6) := B5.out.trans (b6.mono B5.out.size)
  have x11 := X11.out.fresh b6
  have X11 := Lib.hid x11
  have X13 := Lib.hid (X13.out.fresh b6)
  obtain ⟨y1, y2, y3, _, _⟩ := x11
  clear s6 b6 hus htot
  go_wp2_with fail
  have hst : Calls Tryd.prog 16 #[.pointer (some ⟨s.sp, 0, none⟩), .agg #[.int .i64 fa, .int .i64 (secs xa.length), .int .i64 xa.length], .slice a3 xc.length c3] w6 (SetPost s n 2 (without ([] ++ [(fa, xa)] ++ [(fb, xb)]) (ext (fa, xa))) fc xc w6) :=
    set_yes s n 2 _ (fa, xa) fc _ xc w6 S6.out (by simp) (HVC.out w6 B6.out) HF.out HC.out.2.1 (by omega) (by omega) HRM.out
  rw [HQA.out] at hst
  refine hst.mono ?_
  rintro e w7 ⟨rfl, s7, o7⟩
  rw [wo2 (fun e => ext_inj (S6.out.good.off (a := (fb, xb)) (b := (fa, xa)) (by simp) (by simp) (fun e' => by
    have := S6.out.good.apart
    simp at this
    rw [e'] at this
    have h1 := len_pos (fa, xa)
    unfold Off at this
    omega)) e)] at s7
  rw [HQC.out]
  have S7 := Lib.hid s7
  have B7 : Hid (Below w.heap.size w w7) := B6.out.trans (o7.below HF.out B6.out.size)
  have x11 := X11.out.only o7 H11.out
  have x13 := X13.out.only o7 H13.out
  have X11 := Lib.hid x11
  have X13 := Lib.hid x13
  have hb7 : Below w7.heap.size w7 (w7.alloc (.cells #[.int .i64 (fc : Nat), .int .i64 (qc : Nat), .int .i64 (xc.length : Nat)] 32)) := (Below.refl _ _).alloc (Nat.le_refl _) _
  have x13' := x13.fresh hb7
  obtain ⟨z1, z2, z3, _, _⟩ := x13'
  clear s7 o7 hst y1 y2 y3 x11 x13 hb7 S1 B1 S2 B2 S3 B3 S4 B4 S5 B5 S6 B6
  go_wp2_with fail
  have x16 := box3_new w7 fc qc xc.length 32
  have hb7 : Below w7.heap.size w7 (w7.alloc (.cells #[.int .i64 (fc : Nat), .int .i64 (qc : Nat), .int .i64 (xc.length : Nat)] 32)) := (Below.refl _ _).alloc (Nat.le_refl _) _
  have S8 := Lib.hid (S7.out.fresh hb7)
  have B8 : Hid (Below w.heap.size w _) := B7.out.trans (hb7.mono B7.out.size)
  have X11 := Lib.hid (X11.out.fresh hb7)
  have X13 := Lib.hid (X13.out.fresh hb7)
  have h16 := S7.out.lt
  obtain ⟨p16, hp16⟩ : ∃ p, w7.heap.size = p := ⟨_, rfl⟩
  rw [hp16] at x16 h16 ⊢
  have X16 := Lib.hid x16
  have H16 : Hid (¬ s.F p16) := fun h => by have := h.2; omega
  clear x16 hb7 hp16 h16
  generalize w7.alloc (.cells #[.int .i64 (fc : Nat), .int .i64 (qc : Nat), .int .i64 (xc.length : Nat)] 32) = w8 at X11 X13 X16 S8 B8 ⊢
  have hgt : Calls Tryd.prog 13 #[.pointer (some ⟨s.sp, 0, none⟩), .agg #[.int .i64 fb, .int .i64 (secs xb.length), .int .i64 xb.length]] w8 (GetPost s n 3 ([(fb, xb)] ++ [(fc, xc)]) xb w8) := get_yes s n 3 _ (fb, xb) w8 S8.out (by simp) (by omega)
  rw [HQB.out] at hgt
  refine hgt.mono ?_
  rintro e w9 ⟨v9, rfl, hv9, s9, o9⟩
  have S9 := Lib.hid s9
  have B9 : Hid (Below w.heap.size w w9) := B8.out.trans (o9.below HF.out B8.out.size)
  have HSM := Lib.hid (same_eq v9 _ xb w9 hv9 (HVB.out w9 B9.out))
  obtain ⟨a9, c9, rfl, _⟩ := hv9.form
  have x11 := X11.out.only o9 H11.out
  have x13 := X13.out.only o9 H13.out
  have x16 := X16.out.only o9 H16.out
  have X11 := Lib.hid x11
  have X13 := Lib.hid x13
  have X16 := Lib.hid x16
  obtain ⟨y1, y2, y3, _, _⟩ := x16
  clear s9 o9 hgt hv9 z1 z2 z3 S7 B7 S8 B8
  go_wp2_with fail
  refine HSM.out.mono ?_
  rintro e w10 ⟨rfl, rfl⟩
  go_wp2_with fail
  have hgt : Calls Tryd.prog 13 #[.pointer (some ⟨s.sp, 0, none⟩), .agg #[.int .i64 fc, .int .i64 (secs xc.length), .int .i64 xc.length]] w9 (GetPost s n 4 ([(fb, xb)] ++ [(fc, xc)]) xc w9) := get_yes s n 4 _ (fc, xc) w9 S9.out (by simp) (by omega)
  rw [HQC.out] at hgt
  refine hgt.mono ?_
  rintro e w10 ⟨v10, rfl, hv10, s10, o10⟩
  have S10 := Lib.hid s10
  have B10 : Hid (Below w.heap.size w w10) := B9.out.trans (o10.below HF.out B9.out.size)
  have x13 := X13.out.only o10 H13.out
  have z2 := x13.2.1
  have HSM := Lib.hid (same_eq v10 _ xc w10.drew (hv10.heap rfl) ((HVC.out w10 B10.out).heap rfl))
  obtain ⟨a10, c10, rfl, _⟩ := hv10.form
  have htot : total ([(fb, xb)] ++ [(fc, xc)]) = qb + qc := by
    have e1 : len (fb, xb) = qb := HQB.out
    have e2 : len (fc, xc) = qc := HQC.out
    simp [total, e1, e2]
  have HU : Hid (Calls Tryd.prog 20 #[.pointer (some ⟨s.sp, 0, none⟩)] w10.drew fun e w' => e = .returned (.int .i64 ((qb : Int) + qc)) ∧ SpaceAt w' s n 5 ([(fb, xb)] ++ [(fc, xc)]) ∧ Below w10.heap.size w10 w') := by
    have h := eused_any s n 5 _ w10.drew (S10.out.fresh ⟨rfl, rfl, rfl, Nat.le_refl _, fun _ _ => rfl⟩)
    rw [htot] at h
    exact h.mono fun e w' ⟨he, hs, hb⟩ => ⟨by rw [he]; congr 2, hs, ⟨hb.os, hb.tape, hb.output, hb.size, hb.block⟩⟩
  have HQ24 : Hid (∀ w', Calls Tryd.prog 24 #[.int .i64 xc.length] w' fun e w'' => e = .returned (.int .i64 qc) ∧ w' = w'') := fun w' => by
    have h := refsec_any xc.length w' (by omega)
    rw [HQC.out] at h
    exact h
  have HK10 : Hid (∀ w5 w6 : World, Below w5.heap.size w5 w6 → w5.cell? ⟨p13, 1, none⟩ = some (.int .i64 qb) → w6.cell? ⟨p13, 1, none⟩ = some (.int .i64 qb)) := fun w5 w6 hb hv => (hb.cell (p := ⟨p13, 1, none⟩) (World.block_lt_of_cell? _ _ hv)).trans hv
  have HK9 : Hid (∀ w6, Below w10.heap.size w10 w6 → Below w10.drew.heap.size w10.drew w6) := fun w6 hb => ⟨hb.os, hb.tape, hb.output, hb.size, hb.block⟩
  have W1 : IntKind.i64.wrap ((qb : Int) + qc) = qb + qc := by rw [IntKind.wrap_i64]; omega
  clear s10 o10 hgt hv10 y1 y2 y3 S9 B9 x13 htot h'
  go_wp2_with fail
  go_region_held3 (fun w' => w'.cell? ⟨p13, 1, none⟩ = some (.int .i64 qb)) (first | go_keep | (exact HK10.out _ _ b12 (by assumption)) | (exact HK10.out _ _ (HK9.out _ b11) (by assumption))) (first | (go_at_call 15; refine HSM.out.mono ?_; rintro e w13 ⟨rfl, rfl⟩) | (go_at_call 20; refine HU.out.mono ?_; rintro e w11 ⟨rfl, s11, b11⟩) | (go_at_call 24; refine (HQ24.out _).mono ?_; rintro e w14 ⟨rfl, rfl⟩) | (go_at_call 9; refine (known_true w11 s11.tab (by have := s11.lt; omega)).mono ?_; rintro e w12 ⟨rfl, b12⟩))
  have B12 : Hid (Below w.heap.size w w12) := by
    have e1 := B10.out.trans (b11.mono B10.out.size)
    exact e1.trans (b12.mono e1.size)
  clear b11 b12 s11
  go_wp2_with fail
  go_ret
  exact ⟨rfl, B12.out⟩

theorem walk (w : World) (hT : Tab w) (h0 : 0 < w.heap.size) (n : Int) (w0 : (Lit.int .u8 n).wf = true) (va : Value) (xa : List Int) (ha : ArgB w va xa) (hla : xa.length ≤ 140737488351232) (vb : Value) (xb : List Int) (hb : ArgB w vb xb) (hlb : xb.length ≤ 140737488351232) (vc : Value) (xc : List Int) (hc : ArgB w vc xc) (hlc : xc.length ≤ 140737488351232) :
    Calls Tryd.prog 6 #[.int .u8 n, va, vb, vc] w fun e w' => e = .returned (.bool true) ∧ Below w.heap.size w w' := by
  obtain ⟨h1, h2⟩ := wf_u8 w0
  obtain ⟨k, rfl⟩ := Int.eq_ofNat_of_zero_le h1
  have hk : k ≤ 255 := by omega
  by_cases h : xa.length + xb.length + xc.length ≤ 4000
  · obtain ⟨fa, ok1, hF1⟩ := first_ex (tk []) k (secs xa.length)
    cases ok1
    · obtain ⟨fb, ok2, hF2⟩ := first_ex (tk []) k (secs xb.length)
      cases ok2
      · exact walk_no_no w hT h0 k hk va xa ha vb xb hb vc xc hc h fa hF1 fb hF2
      · exact walk_no_yes w hT h0 k hk va xa ha vb xb hb vc xc hc h fa hF1 fb hF2
    · obtain ⟨fb, ok2, hF2⟩ := first_ex (tk ([] ++ [(fa, xa)])) k (secs xb.length)
      cases ok2
      · exact walk_yes_no w hT h0 k hk va xa ha vb xb hb vc xc hc h fa hF1 fb hF2
      · obtain ⟨fc, ok3, hR⟩ := room_ex k ([] ++ [(fa, xa)] ++ [(fb, xb)]) (fa, xa) (secs xc.length)
        cases ok3
        · exact walk_full w hT h0 k hk va xa ha vb xb hb vc xc hc h fa hF1 fb hF2 fc hR
        · exact walk_set w hT h0 k hk va xa ha vb xb hb vc xc hc h fa hF1 fb hF2 fc hR
  · exact walk_long w hT h0 k va xa ha vb xb hb vc xc hc hla hlb hlc (by omega)
end Go.Proofs.YtkjpemgoiobeeaaDoor.extentSet
