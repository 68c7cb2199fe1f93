/- Proved: for all bytes b and every int at the law WordGet returns true: word.Get and the chapter's answer agree, and with an error there is no number. No condition. -/
import Derived.Test.YteemgmagnhkifaaOpen
namespace Go.Proofs.Yteemgmagnhkifaa.wordGet
open Go.ChangeShapes Go.WideShapes Go.ChangeAt Go.RowKit

set_option maxHeartbeats 1600000 in
set_option maxRecDepth 1000000 in
theorem walk (w : World) (v0 : Value) (x0 : List Int) (hb0 : Bts w v0 x0) (hy0 : Bytes x0) (hm0 : x0.length ≤ maxLen) (a1 : Int) (w1 : (Lit.int .i64 a1).wf = true) :
    Calls Try.prog 12 #[v0, .int .i64 a1] w fun e w' => e = .returned (.bool true) ∧ Below w.heap.size w w' := by
  obtain ⟨h1, h2⟩ := wf_i64 w1
  unfold maxLen at hm0
  by_cases hl : 4000 < x0.length
  · obtain ⟨a, c, rfl, _⟩ := hb0
    have hl' : (4000 : Int) < x0.length := by omega
    go_enter Try.func12, Try.ntmps12
    go_wp2_with (go_at_call 26; refine (known_true _).mono ?_; rintro e w2 ⟨rfl, hb2⟩)
    go_ret
    exact ⟨rfl, hb2⟩
  · have hv := hb0
    obtain ⟨a, c, rfl, _⟩ := hb0
    have hl' : ¬ (4000 : Int) < x0.length := by omega
    by_cases h : 0 ≤ a1 ∧ a1 + 4 ≤ x0.length
    · obtain ⟨p, rfl⟩ := Int.eq_ofNat_of_zero_le h.1
      have hp : p + 4 ≤ x0.length := by omega
      clear h
      go_enter Try.func12, Try.ntmps12
      go_wp2_with (first | (go_at_call 27; refine (get_yes _ x0 p _ hv hy0 (by omega) hp).mono ?_; rintro e w2 ⟨rfl, rfl⟩) | (go_at_call 28; refine (get_ref_yes _ x0 p _ hv hy0 (by omega) hp).mono ?_; rintro e w2 ⟨rfl, rfl⟩) | (go_at_call 26; refine (known_true _).mono ?_; rintro e w2 ⟨rfl, hb2⟩))
      go_ret
      exact ⟨rfl, hb2⟩
    · have HN := Lib.hid h
      clear h
      go_enter Try.func12, Try.ntmps12
      go_wp2_with (first | (go_at_call 27; refine (get_no _ x0 a1 _ hv (by omega) h1 h2 HN.out).mono ?_; rintro e w2 ⟨rfl, rfl⟩) | (go_at_call 28; refine (get_ref_no _ x0 a1 _ hv (by omega) h1 h2 HN.out).mono ?_; rintro e w2 ⟨rfl, rfl⟩) | (go_at_call 26; refine (known_true _).mono ?_; rintro e w2 ⟨rfl, hb2⟩))
      go_ret
      exact ⟨rfl, hb2⟩

set_option maxRecDepth 100000 in
theorem lifted (os : Os) (started : os.Started) (H : Type) (enc : TypeId × Value → H) :
    ReturnsInHanded {} Try.checked os 12 .any (Rows.wordGetSpec.pre6 enc Try.prog Try.f12 Rows.wordGetRow.domain false) (Rows.wordGetSpec.post enc Try.prog Try.f12 false true false false) := by
  refine returnsInHanded_of_change (C := Try.checked) Try.own started (by kernel_rfl) Try.func12
    (ChangeSpec.witness6 (enc := enc) (C := Try.checked) false ⟨#[], #[.slice none 0 0, .int .i64 0], []⟩ 8 (by kernel_rfl) (by kernel_rfl) (by kernel_rfl) (by kernel_rfl)) ?_
  intro W base args ds gs before hval0 hW _ _
  have hval : ∀ (j : Nat) t v, Try.f12.params[j]? = some t → args[j]? = some v → Value.okWide Try.prog W .any base t v := hval0
  have hW' := hW
  obtain ⟨p, q, hA0, hV, rfl, _, _⟩ := hW
  have hA : DataW.TrodAll enc Try.prog W 0 (fun _ => true) true Try.f12.params.toList args.toList ds p := hA0
  rw [Try.params12] at hA hval
  obtain ⟨v0, vs0, d0, ds0, p0, q0, hargs, rfl, rfl, h0, r0⟩ := trodAll_cons hA
  obtain ⟨v1, vs1, d1, ds1, p1, q1, rfl, rfl, rfl, h1, r1⟩ := trodAll_cons r0
  obtain ⟨rfl, rfl, rfl⟩ := trodAll_nil r1
  obtain rfl : args = #[v0, v1] := by cases args; simp_all
  obtain ⟨rfl, rfl⟩ := trodVars_none hV
  obtain ⟨a1, rfl, rfl, rfl, w1⟩ := open_int Try.underlying3 (hval 1 3 v1 rfl rfl) h1
  clear hA0 hval0
  simp only [List.append_nil] at hW'
  obtain ⟨x0, hb0, hy0, hm0⟩ := open_bts (hval 0 33 v0 rfl rfl) h0
  have hlt0 : ∀ x ∈ p0, x.block < W.heap.size := fun x hx => by simpa using hW'.lt x (by simp [hx])
  refine (walk W v0 x0 hb0 hy0 hm0 a1 w1).mono fun e W' ⟨he, hg⟩ => ?_
  subst he
  exact ⟨_, rfl, _, _, _, [], _, [], hW', (trodAll_cons_mk (shut_bool Try.underlying4 _) trodAll_mk0), (trodAll_cons_mk (Below.trod Try.laidOut (by kernel_rfl) (of_decide_eq_true (by kernel_rfl)) h0 hg hlt0) (trodAll_cons_mk (shut_int Try.underlying3 w1) trodAll_mk0)), rfl, hg.frame _, fun h => by cases h⟩

theorem over : Rows.wordGetRow.holds Try.pinned (OpenSpec.ofChange Rows.wordGetSpec) :=
  OpenClaim.holds_of_wide 12 Try.f12 rfl rfl rfl rfl rfl rfl rfl ⟨rfl, rfl, rfl, rfl, rfl⟩ rfl rfl rfl rfl rfl (by kernel_rfl) Try.func12 (by kernel_rfl)
    (of_decide_eq_true (by kernel_rfl)) (by unfold Func.isWrapper; first | (rw [if_pos (by decide +kernel)]; kernel_rfl) | (rw [if_neg (by decide +kernel)]; exact ⟨rfl, rfl⟩))
    (fun os started H enc _ => lifted os started H enc)
end Go.Proofs.Yteemgmagnhkifaa.wordGet
namespace Go.Proofs.Yteemgmagnhkifaa
theorem wordGet_holds : Rows.WordGetSaid := wordGet.over
end Go.Proofs.Yteemgmagnhkifaa
