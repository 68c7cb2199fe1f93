/- The walks of CodeReads and CodeJumps. -/
import Derived.Test.YtmcikjihkgplaaaDoorKKn
import Derived.Test.YtmcikjihkgplaaaDoorKLay
namespace Go.Proofs.YtmcikjihkgplaaaDoor
set_option maxRecDepth 1000000
open Go.ChangeShapes Go.WideShapes Go.ChangeAt Go.RowKit

theorem Bts.next {N : Nat → Prop} {w w' : World} {v : Value} {xs : List Int} (h : Bts N w v xs) (hb : Below w.heap.size w w') : Bts N w' v xs := Bts.only h (F := fun _ => False) (Only.of_below hb) (fun _ _ h => h)
set_option maxHeartbeats 8000000 in
theorem codeJumps_walk {N : Nat → Prop} (W : World) (hT : Tabs W) (v : Value) (bs : List Int) (hv : Bts N W v bs) (hb : Bytes bs) :
    Calls Tryd.prog 7 #[v] W fun e W' => e = .returned (.bool true) ∧ Below W.heap.size W W' := by
  have HV := Lib.hid hv
  have HB := Lib.hid hb
  have HT := Lib.hid hT
  have HK := Lib.hid (fun w' (h : Below W.heap.size W w') => known_any w' (hT.next h))
  clear hT
  obtain ⟨ln, hln⟩ : ∃ n, bs.length = n := ⟨_, rfl⟩
  have HL := Lib.hid hln
  obtain ⟨va, c, rfl, _⟩ := Bts.form hv
  rw [hln] at HV ⊢
  clear hv hb hln
  by_cases hlt : 3000 < ln
  · have d1 : decide (3000 < ln) = true := by simpa using hlt
    have d2 : decide ((3000 : Int) < ln) = true := by simpa using (by omega : (3000 : Int) < ln)
    go_enter Tryd.func7, Tryd.ntmps7
    go_wp2_with (go_at_call 11; refine (HK.out _ (Below.refl _ _)).mono ?_; rintro e w1 ⟨rfl, hb1⟩)
    go_ret
    exact ⟨rfl, hb1⟩
  · have d1 : decide (3000 < ln) = false := by simpa using hlt
    have d2 : decide ((3000 : Int) < ln) = false := by simpa using (by omega : ¬ (3000 : Int) < ln)
    have HJ := Lib.hid (fun w' (h : Below W.heap.size W w') => jumps_code _ bs w' (HT.out.next h) (HV.out.next h) HB.out (by rw [HL.out]; omega))
    have HR := Lib.hid (fun w' (h : Below W.heap.size W w') => jumps_ref _ bs w' (HV.out.next h) HB.out (by rw [HL.out]; omega))
    go_enter Tryd.func7, Tryd.ntmps7
    go_wp2_with (first | (go_at_call 17; refine (HJ.out _ (Below.refl _ _)).mono ?_; rintro e w1 ⟨b1, j1, rfl, hb1⟩; have K1 := Lib.hid hb1; have J1 := Lib.hid j1; clear j1 hb1) | (go_at_call 18; refine (HR.out _ K1.out).mono ?_; rintro e w2 ⟨b2, j2, rfl, hb2⟩; obtain rfl := J1.out.eq j2; have K2 := Lib.hid (K1.out.trans (hb2.mono K1.out.size)); have e1 : (b1 == b1) = true := by simp) | (go_at_call 11; refine (HK.out _ (K2.out)).mono ?_; rintro e w3 ⟨rfl, hb3⟩))
    all_goals go_ret
    all_goals exact ⟨rfl, K2.out.trans (hb3.mono K2.out.size)⟩
set_option maxHeartbeats 8000000 in
theorem codeReads_walk {N : Nat → Prop} (W : World) (hT : Tabs W) (v : Value) (bs : List Int) (hv : Bts N W v bs) (hb : Bytes bs) (a : Int) (ha : (Lit.int .i64 a).wf = true) :
    Calls Tryd.prog 3 #[v, .int .i64 a] W fun e W' => e = .returned (.bool true) ∧ Below W.heap.size W W' := by
  have ha' : -9223372036854775808 ≤ a ∧ a ≤ 9223372036854775807 := wf_i64 ha
  have HV := Lib.hid hv
  have HB := Lib.hid hb
  have HT := Lib.hid hT
  have HK := Lib.hid (fun w' (h : Below W.heap.size W w') => known_any w' (hT.next h))
  clear hT
  obtain ⟨ln, hln⟩ : ∃ n, bs.length = n := ⟨_, rfl⟩
  have HL := Lib.hid hln
  obtain ⟨va, c, rfl, _⟩ := Bts.form hv
  rw [hln] at HV ⊢
  clear hv hb hln ha
  by_cases hlt : 3000 < ln
  · have d1 : decide (3000 < ln) = true := by simpa using hlt
    have d2 : decide ((3000 : Int) < ln) = true := by simpa using (by omega : (3000 : Int) < ln)
    go_enter Tryd.func3, Tryd.ntmps3
    go_wp2_with (go_at_call 11; refine (HK.out _ (Below.refl _ _)).mono ?_; rintro e w1 ⟨rfl, hb1⟩)
    go_ret
    exact ⟨rfl, hb1⟩
  · have d1 : decide (3000 < ln) = false := by simpa using hlt
    have d2 : decide ((3000 : Int) < ln) = false := by simpa using (by omega : ¬ (3000 : Int) < ln)
    have HJ := Lib.hid (fun w' (h : Below W.heap.size W w') => jumps_code _ bs w' (HT.out.next h) (HV.out.next h) HB.out (by rw [HL.out]; omega))
    have HR := Lib.hid (fun w' (h : Below W.heap.size W w') => jumps_ref _ bs w' (HV.out.next h) HB.out (by rw [HL.out]; omega))
    have A1 := Lib.hid (fun w' (h : Below W.heap.size W w') => at_code _ bs a w' (HT.out.next h) (HV.out.next h) HB.out (by rw [HL.out]; omega) ha')
    have A2 := Lib.hid (fun w' (h : Below W.heap.size W w') => at_ref _ bs a w' (HV.out.next h) HB.out (by rw [HL.out]; omega) ha')
    have L1 := Lib.hid (fun w' (h : Below W.heap.size W w') => all_code _ bs w' (HT.out.next h) (HV.out.next h) HB.out (by rw [HL.out]; omega))
    have L2 := Lib.hid (fun w' (h : Below W.heap.size W w') => all_ref _ bs w' (HV.out.next h) HB.out (by rw [HL.out]; omega))
    have HLen : Hid ((allO bs).1.length ≤ 1000000000000) := Lib.hid (Nat.le_trans (allO_len bs) (by rw [HL.out]; omega))
    unfold AtPost at A1 A2
    unfold AllPost at L1 L2
    generalize atO bs a = o at *
    generalize atE bs a = er at *
    generalize (allO bs).1 = L at *
    generalize (allO bs).2 = el at *
    have hgd := fun op x y xs ys w => guard_op op x y xs ys w
    have hq := fun w => eql_op o o w
    simp only [decide_true] at hq
    have e0 : (er == er) = true := by simp
    have e9 : (el == el) = true := by simp
    clear ha'
    go_enter Tryd.func3, Tryd.ntmps3
    go_upto_region 4 with (go_at_call 12; refine (A1.out _ (Below.refl _ _)).mono ?_; rintro e w1 ⟨rfl, hb1⟩)
    have B1 := Lib.hid (box_new w1 (.int .i64 o.k) (.int .i64 o.n) (.int .i64 o.m) (.int .i64 o.l))
    have K1 := Lib.hid (hb1.alloc hb1.size (.cells #[.int .i64 o.k, .int .i64 o.n, .int .i64 o.m, .int .i64 o.l] 25))
    generalize w1.alloc (.cells #[.int .i64 o.k, .int .i64 o.n, .int .i64 o.m, .int .i64 o.l] 25) = w2 at *
    generalize w1.heap.size = p1 at *
    clear hb1 A1
    go_upto_region 5 with (go_at_call 13; refine (A2.out _ K1.out).mono ?_; rintro e w3 ⟨rfl, hb3⟩)
    have B3 := Lib.hid (box_new w3 (.int .i64 o.k) (.int .i64 o.n) (.int .i64 o.m) (.int .i64 o.l))
    have B2 := Lib.hid ((B1.out.next hb3).next (below_new w3 (.cells #[.int .i64 o.k, .int .i64 o.n, .int .i64 o.m, .int .i64 o.l] 25)))
    have K3 := Lib.hid ((K1.out.trans (hb3.mono K1.out.size)).alloc (Nat.le_trans K1.out.size hb3.size) (.cells #[.int .i64 o.k, .int .i64 o.n, .int .i64 o.m, .int .i64 o.l] 25))
    generalize w3.alloc (.cells #[.int .i64 o.k, .int .i64 o.n, .int .i64 o.m, .int .i64 o.l] 25) = w4 at *
    generalize w3.heap.size = p3 at *
    clear hb3 A2 B1 K1
    go_upto_region 6 with (go_at_call 14; refine (L1.out _ K3.out).mono ?_; rintro e w5 ⟨v5, rfl, hown5, hb5⟩)
    have K5 := Lib.hid (K3.out.trans (hb5.mono K3.out.size))
    go_upto_region 7 with (go_at_call 15; refine (L2.out _ K5.out).mono ?_; rintro e w6 ⟨v6, rfl, hown6, hb6⟩)
    have K6 := Lib.hid (K5.out.trans (hb6.mono K5.out.size))
    have BX := Lib.hid (B2.out.next (hb5.trans (hb6.mono hb5.size)))
    have BY := Lib.hid (B3.out.next (hb5.trans (hb6.mono hb5.size)))
    have S6 := Lib.hid (sameL_ref v5 v6 L L w6 (OwnL.next hown5 hb6).ops hown6.ops HLen.out HLen.out)
    simp only [decide_true] at S6
    obtain ⟨⟨p0, p1', p2, p3'⟩, _, _⟩ := BX.out
    obtain ⟨⟨q0, q1, q2, q3⟩, _, _⟩ := BY.out
    clear hown5 hown6 hb5 hb6 B2 B3 K3 K5 L1 L2
    go_wp2_with (first | (go_at_call 16; refine S6.out.mono ?_; rintro e w7 ⟨rfl, d, rfl⟩; have K7 := Lib.hid (K6.out.trans (below_drewN W.heap.size w6 d))) | (go_at_call 17; refine (HJ.out _ K7.out).mono ?_; rintro e w8 ⟨b1, j1, rfl, hb8⟩; have K8 := Lib.hid (K7.out.trans (hb8.mono K7.out.size)); have J1 := Lib.hid j1; clear j1 hb8) | (go_at_call 18; refine (HR.out _ K8.out).mono ?_; rintro e w9 ⟨b2, j2, rfl, hb9⟩; obtain rfl := J1.out.eq j2; have K9 := Lib.hid (K8.out.trans (hb9.mono K8.out.size)); have e1 : (b1 == b1) = true := by simp) | (go_at_call 11; refine (HK.out _ (K9.out)).mono ?_; rintro e w10 ⟨rfl, hb10⟩))
    all_goals go_ret
    all_goals exact ⟨rfl, K9.out.trans (hb10.mono K9.out.size)⟩
end Go.Proofs.YtmcikjihkgplaaaDoor
