/- Proved: for all ints a and b the law WordNames returns true: an object's reference names it, is no small number, has no narrow word, is read from its four bytes; two objects have two references. No condition. -/
import Derived.Test.YteemgmagnhkifaaOpen
namespace Go.Proofs.Yteemgmagnhkifaa.wordNames
open Go.ChangeShapes Go.WideShapes Go.ChangeAt Go.RowKit
set_option linter.unusedVariables false

theorem own : ownKnob Try.prog.godebug = none := by kernel_rfl

set_option maxHeartbeats 1600000 in
set_option maxRecDepth 1000000 in
theorem walk (a0 : Int) (a1 : Int) (w0 : (Lit.int .i64 a0).wf = true) (w1 : (Lit.int .i64 a1).wf = true) (w : World) :
    Calls Try.prog 6 #[.int .i64 a0, .int .i64 a1] w fun e w' => e = .returned (.bool true) ∧ Below w.heap.size w w' := by
  obtain ⟨h1, h2⟩ := wf_i64 w0
  obtain ⟨g1, g2⟩ := wf_i64 w1
  clear w0 w1
  by_cases hp : 1 ≤ a0 ∧ a0 ≤ 1073741823
  · obtain ⟨p1, p2⟩ := hp
    have z0 : (2 * a0 == 0) = false := by rw [beq_eq_false_iff_ne]; omega
    by_cases hq : 1 ≤ a1 ∧ a1 ≤ 1073741823
    · obtain ⟨q1, q2⟩ := hq
      have z1 : (2 * a1 == 0) = false := by rw [beq_eq_false_iff_ne]; omega
      by_cases he : a0 = a1
      · subst he
        go_enter Try.func6, Try.ntmps6
        go_wp2_with fail
        refine (oop_is a0 _ p1 p2).mono ?_
        rintro e w1 ⟨rfl, rfl⟩
        go_wp2_with fail
        refine (oop_is a0 _ q1 q2).mono ?_
        rintro e w1 ⟨rfl, rfl⟩
        go_wp2_with fail
        refine (named_is a0 _ p1 p2).mono ?_
        rintro e w1 ⟨rfl, rfl⟩
        go_wp2_with fail
        refine (number_even a0 _ p1 p2).mono ?_
        rintro e w1 ⟨rfl, rfl⟩
        go_wp2_with fail
        refine (narrow_even a0 _ p1 p2).mono ?_
        rintro e w1 ⟨rfl, rfl⟩
        go_wp2_with fail
        refine (put_is (2 * a0) _).mono ?_
        rintro e w1 ⟨v, rfl, hv, hb1⟩
        go_wp2_with fail
        refine (get_put_is v (2 * a0) _ hv (by omega) (by omega)).mono ?_
        rintro e w2 ⟨rfl, rfl⟩
        go_wp2_with fail
        refine (known_true _).mono ?_
        rintro e w2 ⟨rfl, hb2⟩
        go_wp2
        go_ret
        exact ⟨rfl, hb1.trans (hb2.mono hb1.size)⟩
      · have e1 : (2 * a0 == 2 * a1) = false := by rw [beq_eq_false_iff_ne]; omega
        have e2 : (a0 == a1) = false := by rw [beq_eq_false_iff_ne]; omega
        clear he
        go_enter Try.func6, Try.ntmps6
        go_wp2_with fail
        refine (oop_is a0 _ p1 p2).mono ?_
        rintro e w1 ⟨rfl, rfl⟩
        go_wp2_with fail
        refine (oop_is a1 _ q1 q2).mono ?_
        rintro e w1 ⟨rfl, rfl⟩
        go_wp2_with fail
        refine (named_is a0 _ p1 p2).mono ?_
        rintro e w1 ⟨rfl, rfl⟩
        go_wp2_with fail
        refine (number_even a0 _ p1 p2).mono ?_
        rintro e w1 ⟨rfl, rfl⟩
        go_wp2_with fail
        refine (narrow_even a0 _ p1 p2).mono ?_
        rintro e w1 ⟨rfl, rfl⟩
        go_wp2_with fail
        refine (put_is (2 * a0) _).mono ?_
        rintro e w1 ⟨v, rfl, hv, hb1⟩
        go_wp2_with fail
        refine (get_put_is v (2 * a0) _ hv (by omega) (by omega)).mono ?_
        rintro e w2 ⟨rfl, rfl⟩
        go_wp2_with fail
        refine (known_true _).mono ?_
        rintro e w2 ⟨rfl, hb2⟩
        go_wp2
        go_ret
        exact ⟨rfl, hb1.trans (hb2.mono hb1.size)⟩
    · have HQ := Lib.hid hq
      clear hq
      go_enter Try.func6, Try.ntmps6
      go_wp2_with fail
      refine (oop_is a0 _ p1 p2).mono ?_
      rintro e w1 ⟨rfl, rfl⟩
      go_wp2_with fail
      refine (oop_not a1 _ g1 g2 HQ.out).mono ?_
      rintro e w1 ⟨rfl, rfl⟩
      have hd : decide (a0 < 1) = false := by simp; omega
      have hd2 : decide (1073741824 ≤ a0) = false := by simp; omega
      by_cases h3 : a1 < 1
      · have hd3 : decide (a1 < 1) = true := by simp; omega
        go_wp2_with (go_at_call 26; refine (known_true _).mono ?_; rintro e w2 ⟨rfl, hb2⟩)
        go_ret
        exact ⟨rfl, hb2⟩
      · have hd3 : decide (a1 < 1) = false := by simp; omega
        have hd4 : decide (1073741824 ≤ a1) = true := by have := HQ.out; simp; omega
        go_wp2_with (go_at_call 26; refine (known_true _).mono ?_; rintro e w2 ⟨rfl, hb2⟩)
        go_ret
        exact ⟨rfl, hb2⟩
  · have HP := Lib.hid hp
    clear hp
    go_enter Try.func6, Try.ntmps6
    go_wp2_with fail
    refine (oop_not a0 _ h1 h2 HP.out).mono ?_
    rintro e w1 ⟨rfl, rfl⟩
    go_wp2_with fail
    refine (oop_any a1 _ g1 g2).mono ?_
    rintro e w1 ⟨rfl, rfl⟩
    by_cases h3 : a0 < 1
    · have hd3 : decide (a0 < 1) = true := by simp; omega
      go_wp2_with (go_at_call 26; refine (known_true _).mono ?_; rintro e w2 ⟨rfl, hb2⟩)
      go_ret
      exact ⟨rfl, hb2⟩
    · have hd3 : decide (a0 < 1) = false := by simp; omega
      have hd4 : decide (1073741824 ≤ a0) = true := by have := HP.out; simp; omega
      go_wp2_with (go_at_call 26; refine (known_true _).mono ?_; rintro e w2 ⟨rfl, hb2⟩)
      go_ret
      exact ⟨rfl, hb2⟩

set_option maxRecDepth 100000 in
theorem lifted (os : Os) (started : os.Started) (H : Type) (enc : TypeId × Value → H) :
    ReturnsInHanded {} Try.checked os 6 .any (Rows.wordNamesSpec.pre6 enc Try.prog Try.f6 Rows.wordNamesRow.domain false) (Rows.wordNamesSpec.post enc Try.prog Try.f6 false true false false) := by
  refine returnsInHanded_of_change (C := Try.checked) own started (by kernel_rfl) Try.func6
    (ChangeSpec.witness6 (enc := enc) (C := Try.checked) false ⟨#[], #[.int .i64 0, .int .i64 0], []⟩ 8 (by kernel_rfl) (by kernel_rfl) (by kernel_rfl) (by kernel_rfl)) ?_
  intro W base args ds gs before hval0 hW hcnd _
  have hval : ∀ (j : Nat) t v, Try.f6.params[j]? = some t → args[j]? = some v → Value.okWide Try.prog W .any base t v := hval0
  have hW' := hW
  obtain ⟨p, q, hA0, hV, rfl, hfz, hnd⟩ := hW
  have hA : DataW.TrodAll enc Try.prog W 0 (fun _ => true) true Try.f6.params.toList args.toList ds p := hA0
  rw [Try.params6] at hA hval
  obtain ⟨v0, vs0, d0, ds0, p0, q0, hargs, rfl, rfl, h0, r0⟩ := trodAll_cons hA
  obtain ⟨v1, vs1, d1, ds1, p1, q1, rfl, rfl, rfl, h1, r1⟩ := trodAll_cons r0
  obtain ⟨rfl, rfl, rfl⟩ := trodAll_nil r1
  obtain rfl : args = #[v0, v1] := by cases args; simp_all
  obtain ⟨rfl, rfl⟩ := trodVars_none hV
  obtain ⟨a0, rfl, rfl, rfl, w0⟩ := open_int Try.underlying3 (hval 0 3 v0 rfl rfl) h0
  obtain ⟨a1, rfl, rfl, rfl, w1⟩ := open_int Try.underlying3 (hval 1 3 v1 rfl rfl) h1
  clear hA0 hval0
  simp only [List.append_nil] at hW'
  refine (walk a0 a1 w0 w1 W).mono fun e W' ⟨he, hg⟩ => ?_
  subst he
  exact ⟨_, rfl, _, _, _, [], [], [], hW', (trodAll_cons_mk (shut_bool Try.underlying4 _) trodAll_mk0), (trodAll_cons_mk (shut_int Try.underlying3 w0) (trodAll_cons_mk (shut_int Try.underlying3 w1) trodAll_mk0)), rfl, hg.frame _, fun h => by cases h⟩

theorem over : Rows.wordNamesRow.holds Try.pinned (OpenSpec.ofChange Rows.wordNamesSpec) :=
  OpenClaim.holds_of_wide 6 Try.f6 rfl rfl rfl rfl rfl rfl rfl ⟨rfl, rfl, rfl, rfl, rfl⟩ rfl rfl rfl rfl rfl (by kernel_rfl) Try.func6 (by kernel_rfl)
    (of_decide_eq_true (by kernel_rfl)) (by unfold Func.isWrapper; first | (rw [if_pos (by decide +kernel)]; kernel_rfl) | (rw [if_neg (by decide +kernel)]; exact ⟨rfl, rfl⟩))
    (fun os started H enc _ => lifted os started H enc)

end Go.Proofs.Yteemgmagnhkifaa.wordNames
namespace Go.Proofs.Yteemgmagnhkifaa
theorem wordNames_holds : Rows.WordNamesSaid := wordNames.over
end Go.Proofs.Yteemgmagnhkifaa
