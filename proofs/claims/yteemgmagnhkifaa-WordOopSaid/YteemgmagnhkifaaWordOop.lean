/- Proved: for every int id the law WordOop returns true: word.Oop gives the chapter's answer, and the reference that it gives names id. No condition. -/
import Derived.Test.YteemgmagnhkifaaKnown
namespace Go.Proofs.Yteemgmagnhkifaa.wordOop
open Go.ChangeShapes Go.WideShapes Go.ChangeAt Go.RowKit
set_option linter.unusedVariables false

theorem own : ownKnob Try.prog.godebug = none := by kernel_rfl

theorem oop_is (n : Int) (w : World) (a : 1 ≤ n) (b : n ≤ 1073741823) : Calls Try.prog 24 #[.int .i64 n] w fun e w' => e = .returned (.int .i64 (2 * n)) ∧ w = w' := by
  have h := oop_any n w (by omega) (by omega)
  rw [← oop_yes a b] at h; exact h
theorem oop_ref_is (n : Int) (w : World) (a : 1 ≤ n) (b : n ≤ 1073741823) : Calls Try.prog 25 #[.int .i64 n] w fun e w' => e = .returned (.int .i64 (2 * n)) ∧ w = w' := by
  have h := oop_ref n w (by omega) (by omega)
  rw [← oop_yes a b] at h; exact h
theorem oop_not (n : Int) (w : World) (h1 : -9223372036854775808 ≤ n) (h2 : n ≤ 9223372036854775807) (a : ¬ (1 ≤ n ∧ n ≤ 1073741823)) : Calls Try.prog 24 #[.int .i64 n] w fun e w' => e = .returned (.int .i64 0) ∧ w = w' := by
  have h := oop_any n w h1 h2
  rw [← oop_no a] at h; exact h
theorem oop_ref_not (n : Int) (w : World) (h1 : -9223372036854775808 ≤ n) (h2 : n ≤ 9223372036854775807) (a : ¬ (1 ≤ n ∧ n ≤ 1073741823)) : Calls Try.prog 25 #[.int .i64 n] w fun e w' => e = .returned (.int .i64 0) ∧ w = w' := by
  have h := oop_ref n w h1 h2
  rw [← oop_no a] at h; exact h
theorem named_is (n : Int) (w : World) (a : 1 ≤ n) (b : n ≤ 1073741823) : Calls Try.prog 18 #[.int .i64 (2 * n)] w fun e w' => e = .returned (.tuple #[.int .i64 n, .bool true]) ∧ w = w' := by
  have h := named_any (2 * n) w (by omega) (by omega)
  have e := nam_yes (o := 2 * n) (by omega) (by omega) (by omega)
  rw [← e.1, ← e.2, show 2 * n / 2 = n by omega] at h; exact h
theorem named_0 (w : World) : Calls Try.prog 18 #[.int .i64 0] w fun e w' => e = .returned (.tuple #[.int .i64 0, .bool false]) ∧ w = w' := named_any 0 w (by decide) (by decide)

set_option maxHeartbeats 1600000 in
set_option maxRecDepth 1000000 in
theorem walk (a0 : Int) (w0 : (Lit.int .i64 a0).wf = true) (w : World) :
    Calls Try.prog 10 #[.int .i64 a0] w fun e w' => e = .returned (.bool true) ∧ Below w.heap.size w w' := by
  obtain ⟨h1, h2⟩ := wf_i64 w0
  by_cases hp : 1 ≤ a0 ∧ a0 ≤ 1073741823
  · obtain ⟨p1, p2⟩ := hp
    have hz : (2 * a0 != 0) = true := by rw [bne_iff_ne]; omega
    go_enter Try.func10, Try.ntmps10
    go_wp2_with (first | (go_at_call 24; refine (oop_is _ _ p1 p2).mono ?_; rintro e w' ⟨rfl, rfl⟩) | (go_at_call 25; refine (oop_ref_is _ _ p1 p2).mono ?_; rintro e w' ⟨rfl, rfl⟩) | (go_at_call 18; refine (named_is _ _ p1 p2).mono ?_; rintro e w' ⟨rfl, rfl⟩) | (go_at_call 26; refine (known_true _).mono ?_; rintro e w' ⟨rfl, hb⟩))
    go_ret
    exact ⟨rfl, hb⟩
  · have HP := Lib.hid hp
    clear hp
    go_enter Try.func10, Try.ntmps10
    go_wp2_with (first | (go_at_call 24; refine (oop_not _ _ h1 h2 HP.out).mono ?_; rintro e w' ⟨rfl, rfl⟩) | (go_at_call 25; refine (oop_ref_not _ _ h1 h2 HP.out).mono ?_; rintro e w' ⟨rfl, rfl⟩) | (go_at_call 18; refine (named_0 _).mono ?_; rintro e w' ⟨rfl, rfl⟩) | (go_at_call 26; refine (known_true _).mono ?_; rintro e w' ⟨rfl, hb⟩))
    go_ret
    exact ⟨rfl, hb⟩

set_option maxRecDepth 100000 in
theorem lifted (os : Os) (started : os.Started) (H : Type) (enc : TypeId × Value → H) :
    ReturnsInHanded {} Try.checked os 10 .any (Rows.wordOopSpec.pre6 enc Try.prog Try.f10 Rows.wordOopRow.domain false) (Rows.wordOopSpec.post enc Try.prog Try.f10 false true false false) := by
  refine returnsInHanded_of_change (C := Try.checked) own started (by kernel_rfl) Try.func10
    (ChangeSpec.witness6 (enc := enc) (C := Try.checked) false ⟨#[], #[.int .i64 0], []⟩ 8 (by kernel_rfl) (by kernel_rfl) (by kernel_rfl) (by kernel_rfl)) ?_
  intro W base args ds gs before hval0 hW hcnd _
  have hval : ∀ (j : Nat) t v, Try.f10.params[j]? = some t → args[j]? = some v → Value.okWide Try.prog W .any base t v := hval0
  have hW' := hW
  obtain ⟨p, q, hA0, hV, rfl, hfz, hnd⟩ := hW
  have hA : DataW.TrodAll enc Try.prog W 0 (fun _ => true) true Try.f10.params.toList args.toList ds p := hA0
  rw [Try.params10] at hA hval
  obtain ⟨v0, vs0, d0, ds0, p0, q0, hargs, rfl, rfl, h0, r0⟩ := trodAll_cons hA
  obtain ⟨rfl, rfl, rfl⟩ := trodAll_nil r0
  obtain rfl : args = #[v0] := by cases args; simp_all
  obtain ⟨rfl, rfl⟩ := trodVars_none hV
  obtain ⟨a0, rfl, rfl, rfl, w0⟩ := open_int Try.underlying3 (hval 0 3 v0 rfl rfl) h0
  clear hA0 hval0
  simp only [List.append_nil] at hW'
  refine (walk a0 w0 W).mono fun e W' ⟨he, hg⟩ => ?_
  subst he
  exact ⟨_, rfl, _, _, _, [], [], [], hW', (trodAll_cons_mk (shut_bool Try.underlying4 _) trodAll_mk0), (trodAll_cons_mk (shut_int Try.underlying3 w0) trodAll_mk0), rfl, hg.frame _, fun h => by cases h⟩

theorem over : Rows.wordOopRow.holds Try.pinned (OpenSpec.ofChange Rows.wordOopSpec) :=
  OpenClaim.holds_of_wide 10 Try.f10 rfl rfl rfl rfl rfl rfl rfl ⟨rfl, rfl, rfl, rfl, rfl⟩ rfl rfl rfl rfl rfl (by kernel_rfl) Try.func10 (by kernel_rfl)
    (of_decide_eq_true (by kernel_rfl)) (by unfold Func.isWrapper; first | (rw [if_pos (by decide +kernel)]; kernel_rfl) | (rw [if_neg (by decide +kernel)]; exact ⟨rfl, rfl⟩))
    (fun os started H enc _ => lifted os started H enc)

end Go.Proofs.Yteemgmagnhkifaa.wordOop
namespace Go.Proofs.Yteemgmagnhkifaa
theorem wordOop_holds : Rows.WordOopSaid := wordOop.over
end Go.Proofs.Yteemgmagnhkifaa
