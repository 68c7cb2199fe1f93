/- The walk of LargeAdd. -/
import Derived.Test.YtbfacdfmanffdaaDoorGLd
namespace Go.Proofs.YtbfacdfmanffdaaDoor
set_option maxRecDepth 1000000
open Go.ChangeShapes Go.WideShapes Go.ChangeAt Go.RowKit

set_option maxHeartbeats 8000000 in
theorem largeAdd_walk {N : Nat → Prop} (W : World) (hT : Tabs W) (v1 : Value) (As : List Int) (h1 : Bts N W v1 As) (b1 : Bytes As) (v2 : Value) (Ls : List (List Int)) (h2 : BssAt W v2 Ls) (b2 : ∀ x ∈ Ls, Bytes x ∧ x.length ≤ maxLen) :
    Calls Tryd.prog 5 #[v1, v2] W fun e W' => e = .returned (.bool true) ∧ Below W.heap.size W W' := by
  have HV1 := Lib.hid h1
  have HB1 := Lib.hid b1
  obtain ⟨l1, e1⟩ : ∃ n, As.length = n := ⟨_, rfl⟩
  have L1 := Lib.hid e1
  obtain ⟨va1, ca1, rfl, _⟩ := Bts.form h1
  rw [e1] at HV1 ⊢
  clear h1 b1 e1
  have HK := Lib.hid (fun w' (h : Below W.heap.size W w') => known_any w' (hT.next h))
  clear hT
  have K0 := Lib.hid (Below.refl W.heap.size W)
  have H2 := Lib.hid h2
  have B2 := Lib.hid b2
  obtain ⟨a2, c2, rfl, hc2, _⟩ := h2
  have HL : Hid (∀ i, i < Ls.length → ∃ b off x a3 c3, a2 = some ⟨b, off, none⟩ ∧ Ls[i]? = some x ∧ W.cell? ⟨b, off + i, none⟩ = some (.slice a3 x.length c3)) := Lib.hid fun i hi => by
    obtain ⟨b, off, c, a3, c3, he, h3, h4⟩ := H2.out.at_ hi
    injection he with e1 _ _
    exact ⟨b, off, Ls[i], a3, c3, e1, List.getElem?_eq_getElem hi, h3⟩
  have HTL : Hid (∀ k, k = Ls.length → Ls.take k = Ls) := Lib.hid fun k h => by rw [h, List.take_length]
  obtain ⟨ll, hll⟩ : ∃ n, Ls.length = n := ⟨_, rfl⟩
  have HLL := Lib.hid hll
  rw [hll] at H2 HL HTL ⊢
  clear b2 hll hc2
  by_cases q1 : 420 < l1
  · have d1 : decide (420 < l1) = true := by simpa using q1
    have c1 : decide ((420 : Int) < l1) = true := by simpa using (by omega : (420 : Int) < l1)
    go_enter Tryd.func5, Tryd.ntmps5
    go_wp2_with (first | (go_at_call 11; with_reducible refine (HK.out _ K0.out).mono ?_; rintro e w1 ⟨rfl, hb⟩; replace K0 := Lib.hid (K0.out.trans (hb.mono K0.out.size)); clear hb))
    all_goals go_ret
    all_goals exact ⟨rfl, K0.out⟩
  have d1 : decide (420 < l1) = false := by simpa using q1
  have c1 : decide ((420 : Int) < l1) = false := by simpa using (by omega : ¬ (420 : Int) < l1)
  by_cases q2 : 8 < ll
  · have d2 : decide (8 < ll) = true := by simpa using q2
    have c2 : decide ((8 : Int) < ll) = true := by simpa using (by omega : (8 : Int) < ll)
    go_enter Tryd.func5, Tryd.ntmps5
    go_wp2_with (first | (go_at_call 11; with_reducible refine (HK.out _ K0.out).mono ?_; rintro e w1 ⟨rfl, hb⟩; replace K0 := Lib.hid (K0.out.trans (hb.mono K0.out.size)); clear hb))
    all_goals go_ret
    all_goals exact ⟨rfl, K0.out⟩
  have d2 : decide (8 < ll) = false := by simpa using q2
  have c2 : decide ((8 : Int) < ll) = false := by simpa using (by omega : ¬ (8 : Int) < ll)
  go_enter Tryd.func5, Tryd.ntmps5
  go_wp2_with fail
  go_loopw [5] (fun s5 wr => ∃ i : Nat, i ≤ ll ∧ s5 = .int .i64 i ∧ Hid (∀ x ∈ Ls.take i, x.length ≤ 420) ∧ wr = W) (fun s5 _ => ll - (RowKit.intOf s5).toNat)
  case atStart => exact ⟨0, Nat.zero_le _, rfl, Lib.hid (fun x hx => by simp at hx), rfl⟩
  case round =>
    obtain ⟨i, hi, rfl, HAll, hwr⟩ := hrel
    subst hwr
    by_cases hlt : i < ll
    · have x1 : decide ((i : Int) < ll) = true := by simpa using hlt
      have x2 : decide (i < ll) = true := by simpa using hlt
      have hi0 : (0 : Int) ≤ i := by omega
      have hil : (i : Int) < ll := by omega
      obtain ⟨b, off, x, a3, c3, rfl, hx, q⟩ := HL.out i hlt
      obtain ⟨lx, hlx⟩ : ∃ n, x.length = n := ⟨_, rfl⟩
      have HX := Lib.hid hx
      have HLX := Lib.hid hlx
      rw [hlx] at q
      clear hx hlx
      by_cases q5 : 420 < lx
      · have d5 : decide (420 < lx) = true := by simpa using q5
        have c5 : decide ((420 : Int) < lx) = true := by simpa using (by omega : (420 : Int) < lx)
        go_wp2_with (first | (go_at_call 11; with_reducible refine (HK.out _ K0.out).mono ?_; rintro e w1 ⟨rfl, hb⟩; replace K0 := Lib.hid (K0.out.trans (hb.mono K0.out.size)); clear hb))
        all_goals go_ret
        all_goals exact ⟨rfl, K0.out⟩
      · have d5 : decide (420 < lx) = false := by simpa using q5
        have c5 : decide ((420 : Int) < lx) = false := by simpa using (by omega : ¬ (420 : Int) < lx)
        go_wp2_with fail
        exact ⟨⟨i + 1, by omega, by go_num, Lib.hid (fun y hy => by
          rw [take_snoc HX.out] at hy
          rcases List.mem_append.1 hy with h | h
          · exact HAll.out y h
          · rw [List.mem_singleton.1 h, HLX.out]; omega), trivial⟩, by simp [RowKit.intOf]; omega⟩
    · have hi' : i = ll := by omega
      subst hi'
      have x1 : decide ((i : Int) < i) = false := by simp
      have x2 : decide (i < i) = false := by simp
      have HA2 : Hid (∀ x ∈ Ls, Bytes x ∧ x.length ≤ 1000000000000) := Lib.hid fun x hx => ⟨(B2.out x hx).1, by
        have h1 := HAll.out
        rw [HTL.out i rfl] at h1
        have := h1 x hx
        omega⟩
      have P := Lib.hid (fun w' (h : Below wr.heap.size wr w') => add_code _ _ As Ls w' (HV1.out.next h) HB1.out (by rw [L1.out]; omega) (H2.out.next h) HA2.out (by rw [HLL.out]; omega))
      have R := Lib.hid (fun w' (h : Below wr.heap.size wr w') => Calls.mono (add_ref _ _ As Ls w' (HV1.out.next h) HB1.out (by rw [L1.out]; omega) (H2.out.next h) HA2.out (by rw [HLL.out]; omega)) (fun _ _ h => NumPost.b h))
      unfold NumB at P R
      generalize addE As Ls = er at *
      generalize addO As Ls = O at *
      have e0 : (er == er) = true := by simp
      clear HL HAll H2
      go_wp2_with (first | (go_at_call 12; with_reducible refine (P.out _ K0.out).mono ?_; rintro e w1 ⟨x1, rfl, hx, hb⟩; replace K0 := Lib.hid (K0.out.trans (hb.mono K0.out.size)); have X1 := Lib.hid hx; have K1 := Lib.hid (Below.refl w1.heap.size w1); clear hx hb) | (go_at_call 13; with_reducible refine (R.out _ K0.out).mono ?_; rintro e w2 ⟨x2, rfl, hx, hb⟩; replace K0 := Lib.hid (K0.out.trans (hb.mono K0.out.size)); replace K1 := Lib.hid (K1.out.trans (hb.mono K1.out.size)); have X2 := Lib.hid hx; have K2 := Lib.hid (Below.refl w2.heap.size w2); clear hx hb) | (go_at_call 18; with_reducible refine (same_eq _ _ O _ (X1.out.next K1.out) (X2.out.next K2.out)).mono ?_; rintro e w3 ⟨rfl, rfl⟩) | (go_at_call 11; with_reducible refine (HK.out _ K0.out).mono ?_; rintro e w4 ⟨rfl, hb⟩; replace K0 := Lib.hid (K0.out.trans (hb.mono K0.out.size)); replace K1 := Lib.hid (K1.out.trans (hb.mono K1.out.size)); replace K2 := Lib.hid (K2.out.trans (hb.mono K2.out.size)); clear hb))
      all_goals go_ret
      all_goals exact ⟨rfl, K0.out⟩
end Go.Proofs.YtbfacdfmanffdaaDoor
