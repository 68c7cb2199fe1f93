/- The walks of LargeInt and LargeCmp. -/
import Derived.Test.YtbfacdfmanffdaaDoorGLd
import Derived.Test.YtbfacdfmanffdaaDoorGLe
namespace Go.Proofs.YtbfacdfmanffdaaDoor
set_option maxRecDepth 1000000
open Go.ChangeShapes Go.WideShapes Go.ChangeAt Go.RowKit

set_option maxHeartbeats 8000000 in
theorem largeInt_walk (W : World) (hT : Tabs W) (n : Int) (hn : (Lit.int .i64 n).wf = true) :
    Calls Tryd.prog 9 #[.int .i64 n] W fun e W' => e = .returned (.bool true) ∧ Below W.heap.size W W' := by
  have hn' : -9223372036854775808 ≤ n ∧ n ≤ 9223372036854775807 := wf_i64 hn
  clear hn
  have HK := Lib.hid (fun w' (h : Below W.heap.size W w') => known_any w' (hT.next h))
  clear hT
  have K0 := Lib.hid (Below.refl W.heap.size W)
  have P := Lib.hid (fun w' (_ : Below W.heap.size W w') => of_code n w' hn'.1 hn'.2)
  unfold NumB at P
  by_cases hz : n < 0
  · have e1 : ofE n = 2 := by unfold ofE; rw [if_pos hz]
    have e2 : ofO n = [] := by unfold ofO; rw [if_pos hz]
    rw [e1, e2] at P
    have d1 : decide (n < 0) = true := by simpa using hz
    clear hn' e1 e2
    go_enter Tryd.func9, Tryd.ntmps9
    go_wp2_with (first | (go_at_call 25; with_reducible refine (P.out _ K0.out).mono ?_; rintro e w1 ⟨x1, rfl, hx, hb⟩; obtain ⟨a1, cc, rfl, _⟩ := Bts.form hx; replace K0 := Lib.hid (K0.out.trans (hb.mono K0.out.size)); clear hx hb; rw [List.length_nil]) | (go_at_call 11; with_reducible refine (HK.out _ K0.out).mono ?_; rintro e w1 ⟨rfl, hb⟩; replace K0 := Lib.hid (K0.out.trans (hb.mono K0.out.size)); clear hb))
    all_goals go_ret
    all_goals exact ⟨rfl, K0.out⟩
  have e1 : ofE n = 0 := by unfold ofE; rw [if_neg hz]
  have e2 : ofO n = dig n.toNat := by unfold ofO; rw [if_neg hz]
  obtain ⟨r1, r2, r3, r4, r5⟩ := int_facts (n := n) (by omega) hn'.2
  have hby := dig_bytes n.toNat
  rw [e1, e2] at P
  generalize dig n.toNat = O at *
  have PI := Lib.hid (fun w' v (hv : Bts (fun _ => True) w' v O) => int_code v O w' hv hby (by omega))
  have PR := Lib.hid (fun w' v (hv : Bts (fun _ => True) w' v O) => right_code v O w' hv hby (by omega))
  unfold ValB at PI PR
  rw [r2, r3] at PI
  rw [r1] at PR
  have d1 : decide (n < 0) = false := by simpa using hz
  have e0 : (n == n) = true := by simp
  obtain ⟨lo, hlo⟩ : ∃ k, O.length = k := ⟨_, rfl⟩
  have HLO := Lib.hid hlo
  rw [hlo] at r4 r5
  have g1 : decide (lo ≤ 8) = true := by simpa using r4
  have g2 : decide ((lo : Int) ≤ 8) = true := by simpa using (by omega : (lo : Int) ≤ 8)
  have hn2 := hn'.2
  clear r1 r2 r3 hby hlo e1 e2 hn'
  by_cases hp : n = 0
  · have hl0 : lo = 0 := r5.2 hp
    subst hl0
    subst hp
    clear r5 r4
    go_enter Tryd.func9, Tryd.ntmps9
    go_wp2_with (first | (go_at_call 25; with_reducible refine (P.out _ K0.out).mono ?_; rintro e w1 ⟨x1, rfl, hx, hb⟩; obtain ⟨a1, cc, rfl, _⟩ := Bts.form hx; replace K0 := Lib.hid (K0.out.trans (hb.mono K0.out.size)); rw [HLO.out] at hx ⊢; have X1 := Lib.hid hx; have K1 := Lib.hid (Below.refl w1.heap.size w1); clear hx hb) | (go_at_call 26; with_reducible refine (PI.out _ _ (X1.out.next K1.out)).mono ?_; rintro e w2 ⟨rfl, hb⟩; replace K0 := Lib.hid (K0.out.trans (hb.mono K0.out.size)); replace K1 := Lib.hid (K1.out.trans (hb.mono K1.out.size)); clear hb) | (go_at_call 23; with_reducible refine (PR.out _ _ (X1.out.next K1.out)).mono ?_; rintro e w3 ⟨rfl, hb⟩; replace K0 := Lib.hid (K0.out.trans (hb.mono K0.out.size)); replace K1 := Lib.hid (K1.out.trans (hb.mono K1.out.size)); clear hb) | (go_at_call 11; with_reducible refine (HK.out _ K0.out).mono ?_; rintro e w1 ⟨rfl, hb⟩; replace K0 := Lib.hid (K0.out.trans (hb.mono K0.out.size)); clear hb))
    all_goals go_ret
    all_goals exact ⟨rfl, K0.out⟩
  · have hl0 : lo ≠ 0 := fun h => hp (r5.1 h)
    have g3 : decide (0 < lo) = true := by simp; omega
    have g4 : decide ((0 : Int) < lo) = true := by simp; omega
    have g5 : decide (0 < n) = true := by simp; omega
    clear r5 r4
    go_enter Tryd.func9, Tryd.ntmps9
    go_wp2_with (first | (go_at_call 25; with_reducible refine (P.out _ K0.out).mono ?_; rintro e w1 ⟨x1, rfl, hx, hb⟩; obtain ⟨a1, cc, rfl, _⟩ := Bts.form hx; replace K0 := Lib.hid (K0.out.trans (hb.mono K0.out.size)); rw [HLO.out] at hx ⊢; have X1 := Lib.hid hx; have K1 := Lib.hid (Below.refl w1.heap.size w1); clear hx hb) | (go_at_call 26; with_reducible refine (PI.out _ _ (X1.out.next K1.out)).mono ?_; rintro e w2 ⟨rfl, hb⟩; replace K0 := Lib.hid (K0.out.trans (hb.mono K0.out.size)); replace K1 := Lib.hid (K1.out.trans (hb.mono K1.out.size)); clear hb) | (go_at_call 23; with_reducible refine (PR.out _ _ (X1.out.next K1.out)).mono ?_; rintro e w3 ⟨rfl, hb⟩; replace K0 := Lib.hid (K0.out.trans (hb.mono K0.out.size)); replace K1 := Lib.hid (K1.out.trans (hb.mono K1.out.size)); clear hb) | (go_at_call 11; with_reducible refine (HK.out _ K0.out).mono ?_; rintro e w1 ⟨rfl, hb⟩; replace K0 := Lib.hid (K0.out.trans (hb.mono K0.out.size)); clear hb))
    all_goals go_ret
    all_goals exact ⟨rfl, K0.out⟩
end Go.Proofs.YtbfacdfmanffdaaDoor
