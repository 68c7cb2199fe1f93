/- Proved: for every uint16 w the law WordNarrow returns true: an odd w is the narrow word of one small number from -16384 to 16383, and an even w of none. No condition. -/
import Derived.Test.YteemgmagnhkifaaKnown
namespace Go.Proofs.Yteemgmagnhkifaa.wordNarrow
open Go.ChangeShapes Go.WideShapes Go.ChangeAt Go.RowKit
set_option linter.unusedVariables false

theorem own : ownKnob Try.prog.godebug = none := by kernel_rfl

theorem wf_u16 {n : Int} (h : (Lit.int .u16 n).wf = true) : 0 ≤ n ∧ n ≤ 65535 := by
  have h1 : IntKind.u16.min = 0 := rfl
  have h2 : IntKind.u16.max = 65535 := rfl
  simp only [Lit.wf, Bool.and_eq_true, decide_eq_true_eq] at h
  omega
theorem wide_even (o : Int) (w : World) (a : o % 2 = 0) (h1 : 0 ≤ o) (h2 : o ≤ 65535) : Calls Try.prog 22 #[.int .i64 o] w fun e w' => e = .returned (.tuple #[.int .i64 0, .bool false]) ∧ w = w' := by
  have h := wide_any o w (by omega) (by omega)
  have e := wid_no (o := o) (by omega)
  rw [← e.1, ← e.2] at h; exact h
theorem wide_lo (o : Int) (w : World) (a : o % 2 = 1) (h1 : 0 ≤ o) (h2 : o ≤ 32767) : Calls Try.prog 22 #[.int .i64 o] w fun e w' => e = .returned (.tuple #[.int .i64 o, .bool true]) ∧ w = w' := by
  have h := wide_any o w (by omega) (by omega)
  have e := wid_lo (o := o) a (by omega) (by omega)
  rw [← e.1, ← e.2] at h; exact h
theorem wide_hi (o : Int) (w : World) (a : o % 2 = 1) (h1 : 32768 ≤ o) (h2 : o ≤ 65535) : Calls Try.prog 22 #[.int .i64 o] w fun e w' => e = .returned (.tuple #[.int .i64 (o - 65536), .bool true]) ∧ w = w' := by
  have h := wide_any o w (by omega) (by omega)
  have e := wid_hi (o := o) a (by omega) (by omega)
  rw [← e.1, ← e.2] at h; exact h
theorem narrow_is (o n : Int) (w : World) (a : o % 2 = 1) (h1 : -32767 ≤ o) (h2 : o ≤ 32767) (hn : o % 65536 = n) : Calls Try.prog 20 #[.int .i64 o] w fun e w' => e = .returned (.tuple #[.int .i64 n, .bool true]) ∧ w = w' := by
  have h := narrow_any o w (by omega) (by omega)
  have e := nar_yes (o := o) a (by omega) (by omega)
  rw [← e.1, ← e.2, hn] at h; exact h
theorem narrow_0 (w : World) : Calls Try.prog 20 #[.int .i64 0] w fun e w' => e = .returned (.tuple #[.int .i64 0, .bool false]) ∧ w = w' := narrow_any 0 w (by decide) (by decide)
theorem number_0 (w : World) : Calls Try.prog 16 #[.int .i64 0] w fun e w' => e = .returned (.tuple #[.int .i64 0, .bool false]) ∧ w = w' := number_any 0 w (by decide) (by decide)

set_option maxHeartbeats 1600000 in
set_option maxRecDepth 1000000 in
theorem walk (a0 : Int) (w0 : (Lit.int .u16 a0).wf = true) (w : World) :
    Calls Try.prog 11 #[.int .u16 a0] w fun e w' => e = .returned (.bool true) ∧ Below w.heap.size w w' := by
  obtain ⟨h1, h2⟩ := wf_u16 w0
  by_cases hp : a0 % 2 = 0
  · go_enter Try.func11, Try.ntmps11
    go_wp2_with (first | (go_at_call 22; refine (wide_even _ _ hp (by omega) (by omega)).mono ?_; rintro e w' ⟨rfl, rfl⟩) | (go_at_call 20; refine (narrow_0 _).mono ?_; rintro e w' ⟨rfl, rfl⟩) | (go_at_call 16; refine (number_0 _).mono ?_; rintro e w' ⟨rfl, rfl⟩) | (go_at_call 26; refine (known_true _).mono ?_; rintro e w' ⟨rfl, hb⟩))
    go_ret
    exact ⟨rfl, hb⟩
  · have h3 : a0 % 2 = 1 := by omega
    have HP := Lib.hid h3
    clear hp h3
    by_cases hl : a0 < 32768
    · have e1 : a0 % 65536 = a0 := by omega
      have E1 := Lib.hid e1
      clear e1
      go_enter Try.func11, Try.ntmps11
      go_wp2_with (first | (go_at_call 22; refine (wide_lo _ _ HP.out (by omega) (by omega)).mono ?_; rintro e w' ⟨rfl, rfl⟩) | (go_at_call 20; refine (narrow_is _ a0 _ HP.out (by omega) (by omega) E1.out).mono ?_; rintro e w' ⟨rfl, rfl⟩) | (go_at_call 16; refine (number_yes _ _ HP.out (by omega) (by omega)).mono ?_; rintro e w' ⟨rfl, rfl⟩) | (go_at_call 26; refine (known_true _).mono ?_; rintro e w' ⟨rfl, hb⟩))
      go_ret
      exact ⟨rfl, hb⟩
    · have h4 : 32769 ≤ a0 := by have := HP.out; omega
      have e1 : (a0 - 65536) % 65536 = a0 := by omega
      have E1 := Lib.hid e1
      have e2 : (a0 - 65536) % 2 = 1 := by have := HP.out; omega
      have E2 := Lib.hid e2
      clear e1 e2
      go_enter Try.func11, Try.ntmps11
      go_wp2_with (first | (go_at_call 22; refine (wide_hi _ _ HP.out (by omega) (by omega)).mono ?_; rintro e w' ⟨rfl, rfl⟩) | (go_at_call 20; refine (narrow_is _ a0 _ E2.out (by omega) (by omega) E1.out).mono ?_; rintro e w' ⟨rfl, rfl⟩) | (go_at_call 16; refine (number_yes _ _ E2.out (by omega) (by omega)).mono ?_; rintro e w' ⟨rfl, rfl⟩) | (go_at_call 26; refine (known_true _).mono ?_; rintro e w' ⟨rfl, hb⟩))
      go_ret
      exact ⟨rfl, hb⟩

set_option maxRecDepth 100000 in
theorem lifted (os : Os) (started : os.Started) (H : Type) (enc : TypeId × Value → H) :
    ReturnsInHanded {} Try.checked os 11 .any (Rows.wordNarrowSpec.pre6 enc Try.prog Try.f11 Rows.wordNarrowRow.domain false) (Rows.wordNarrowSpec.post enc Try.prog Try.f11 false true false false) := by
  refine returnsInHanded_of_change (C := Try.checked) own started (by kernel_rfl) Try.func11
    (ChangeSpec.witness6 (enc := enc) (C := Try.checked) false ⟨#[], #[.int .u16 0], []⟩ 8 (by kernel_rfl) (by kernel_rfl) (by kernel_rfl) (by kernel_rfl)) ?_
  intro W base args ds gs before hval0 hW hcnd _
  have hval : ∀ (j : Nat) t v, Try.f11.params[j]? = some t → args[j]? = some v → Value.okWide Try.prog W .any base t v := hval0
  have hW' := hW
  obtain ⟨p, q, hA0, hV, rfl, hfz, hnd⟩ := hW
  have hA : DataW.TrodAll enc Try.prog W 0 (fun _ => true) true Try.f11.params.toList args.toList ds p := hA0
  rw [Try.params11] at hA hval
  obtain ⟨v0, vs0, d0, ds0, p0, q0, hargs, rfl, rfl, h0, r0⟩ := trodAll_cons hA
  obtain ⟨rfl, rfl, rfl⟩ := trodAll_nil r0
  obtain rfl : args = #[v0] := by cases args; simp_all
  obtain ⟨rfl, rfl⟩ := trodVars_none hV
  obtain ⟨a0, rfl, rfl, rfl, w0⟩ := open_int Try.underlying43 (hval 0 43 v0 rfl rfl) h0
  clear hA0 hval0
  simp only [List.append_nil] at hW'
  refine (walk a0 w0 W).mono fun e W' ⟨he, hg⟩ => ?_
  subst he
  exact ⟨_, rfl, _, _, _, [], [], [], hW', (trodAll_cons_mk (shut_bool Try.underlying4 _) trodAll_mk0), (trodAll_cons_mk (shut_int Try.underlying43 w0) trodAll_mk0), rfl, hg.frame _, fun h => by cases h⟩

theorem over : Rows.wordNarrowRow.holds Try.pinned (OpenSpec.ofChange Rows.wordNarrowSpec) :=
  OpenClaim.holds_of_wide 11 Try.f11 rfl rfl rfl rfl rfl rfl rfl ⟨rfl, rfl, rfl, rfl, rfl⟩ rfl rfl rfl rfl rfl (by kernel_rfl) Try.func11 (by kernel_rfl)
    (of_decide_eq_true (by kernel_rfl)) (by unfold Func.isWrapper; first | (rw [if_pos (by decide +kernel)]; kernel_rfl) | (rw [if_neg (by decide +kernel)]; exact ⟨rfl, rfl⟩))
    (fun os started H enc _ => lifted os started H enc)

end Go.Proofs.Yteemgmagnhkifaa.wordNarrow
namespace Go.Proofs.Yteemgmagnhkifaa
theorem wordNarrow_holds : Rows.WordNarrowSaid := wordNarrow.over
end Go.Proofs.Yteemgmagnhkifaa
