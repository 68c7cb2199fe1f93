/- Proved: for all ints a and b the law WordPut returns true: word.Put gives four bytes, which word.Get reads as the number with the same lowest 32 bits; word.All puts two words one behind the other. No condition. -/
import Derived.Test.YteemgmagnhkifaaOpen
namespace Go.Proofs.Yteemgmagnhkifaa.wordPut
open Go.ChangeShapes Go.WideShapes Go.ChangeAt Go.RowKit

theorem Bts.drew {w : World} {v : Value} {xs : List Int} (h : Bts w v xs) : Bts w.drew v xs := h
theorem allB2 (a b : Int) : allB [a, b] = byts a 4 ++ byts b 4 := by simp [allB]
theorem lit_ints (w : World) (a b : Int) : Ints (w.alloc (.cells #[.int .i64 a, .int .i64 b] 3)) (.slice (some ⟨w.heap.size, 0, none⟩) 2 2) [a, b] := by
  refine ⟨_, _, rfl, .inr ⟨_, _, rfl, fun i hi => ?_⟩⟩
  rw [World.cell?_alloc_at _ _ _ _ rfl]
  match i, hi with
  | 0, _ => rfl
  | 1, _ => rfl
/-- The eight bytes of two words, cut in two. -/
theorem halves {w : World} {base : Nat} {v : Value} {a b : Int} (h : w.ownsRow base 5 1 v (byts a 4 ++ byts b 4).length ((byts a 4 ++ byts b 4).map (Value.int .u8))) :
    ∃ g c, v = .slice (some ⟨g, 0, none⟩) 8 c ∧ 8 ≤ c ∧ Bts w (.slice (some ⟨g, 0, none⟩) 4 c) (byts a 4) ∧ Bts w (.slice (some ⟨g, 4, none⟩) 4 (c - 4)) (byts b 4) := by
  have hn : (byts a 4 ++ byts b 4).length = 8 := by rw [List.length_append, byts_len, byts_len]
  have hb := own_bts h
  rcases h.2 with ⟨_, h0⟩ | ⟨g, cap, cur, rfl, _, _, hnc, _⟩
  · rw [hn] at h0; cases h0
  · obtain ⟨a', c', he, hcase⟩ := hb
    rcases hcase with h0 | ⟨b', off, rfl, hc⟩
    · rw [h0] at hn; cases hn
    · injection he with e1 e2 e3
      injection e1 with e1
      injection e1 with e1 e4
      subst e1 e4
      rw [hn] at hc hnc
      refine ⟨g, cap, by rw [hn], hnc, ⟨_, _, by rw [byts_len], .inr ⟨_, _, rfl, fun i hi => ?_⟩⟩, ⟨_, _, by rw [byts_len], .inr ⟨_, _, rfl, fun i hi => ?_⟩⟩⟩
      · rw [byts_len] at hi
        rw [hc i (by omega)]
        simp [List.getD, List.getElem?_append_left (show i < (byts a 4).length by rw [byts_len]; omega)]
      · rw [byts_len] at hi
        have := hc (4 + i) (by omega)
        rw [Nat.zero_add] at this
        rw [this]
        simp [List.getD, List.getElem?_append_right (show (byts a 4).length ≤ 4 + i by rw [byts_len]; omega), byts_len]

set_option maxHeartbeats 1600000 in
set_option maxRecDepth 1000000 in
theorem walk (w : World) (a0 : Int) (_w0 : (Lit.int .i64 a0).wf = true) (a1 : Int) (_w1 : (Lit.int .i64 a1).wf = true) :
    Calls Try.prog 13 #[.int .i64 a0, .int .i64 a1] w fun e w' => e = .returned (.bool true) ∧ Below w.heap.size w w' := by
  clear _w0 _w1
  go_enter Try.func13, Try.ntmps13
  go_wp2_with fail
  refine (put_any a0 _).mono ?_
  rintro e w3 ⟨v3, rfl, hown3, hb3⟩
  rw [byts_len] at hown3
  have hv3 : Bts w3 v3 (byts a0 4) := own_bts (by rw [byts_len]; exact hown3)
  obtain ⟨g, c, rfl, _⟩ := own_form4 hown3
  clear hown3
  go_wp2_with fail
  refine (get_put _ a0 _ hv3).mono ?_
  rintro e w4 ⟨rfl, rfl⟩
  have hq := sgn_mod' a0
  generalize sgn (a0 % 4294967296) = n at hq
  have HQ := Lib.hid hq
  clear hq
  go_wp2_with fail
  refine (all_any _ [a0, a1] _ (lit_ints w3 a0 a1) (by simp)).mono ?_
  rintro e w4 ⟨v4, rfl, hown4, hb4⟩
  rw [allB2] at hown4
  obtain ⟨g', c', rfl, hc', hl, hr⟩ := halves hown4
  clear hown4
  have hb4' : Below w3.heap.size w3 w4 := ((Below.refl _ _).alloc (Nat.le_refl _) _).trans (hb4.mono (by simp))
  have hx := hv3.kept hb4'
  have hn4 := hb3.trans (hb4'.mono hb3.size)
  have HN4 := Lib.hid hn4
  clear hv3 hb4 hb4' hb3 hn4
  have hq : (IntKind.u32.wrap n == IntKind.u32.wrap a0) = true := by rw [beq_iff_eq, IntKind.wrap_u32, IntKind.wrap_u32]; exact HQ.out
  have hc1 : (8 : Int) ≤ c' := by omega
  have hc2 : ¬ c' = 4 := by omega
  have hc3 : 4 ≤ c' := by omega
  have hc4 : (4 : Int) ≤ c' := by omega
  go_wp2
  go_region_held3 (fun _ => True) (trivial)
    (first | (go_at_call 30; refine (put_is a1 _).mono ?_; rintro e w5 ⟨v5, rfl, hv5, hb5⟩) | (go_at_call 26; refine (known_true _).mono ?_; rintro e w7 ⟨rfl, hb7⟩) | (go_at_call 29; ((with_reducible refine (same_eq (.slice (some ⟨g', 0, none⟩) 4 c') (.slice (some ⟨g, 0, none⟩) 4 c) (byts a0 4) _ ?_ ?_).mono ?_); (exact hl); (exact hx); rintro e w6 ⟨rfl, rfl⟩)) | (go_at_call 29; ((with_reducible refine (same_eq (.slice (some ⟨g', 4, none⟩) 4 (c' - 4)) v5 (byts a1 4) _ ?_ ?_).mono ?_); (exact Bts.kept (Bts.drew hr) hb5); (exact hv5); rintro e w6 ⟨rfl, rfl⟩)))
  go_wp2
  go_ret
  have hn5 := HN4.out.drew.trans (Below.mono hb5 HN4.out.size)
  exact ⟨rfl, hn5.trans (hb7.mono hn5.size)⟩

set_option maxRecDepth 100000 in
theorem lifted (os : Os) (started : os.Started) (H : Type) (enc : TypeId × Value → H) :
    ReturnsInHanded {} Try.checked os 13 .any (Rows.wordPutSpec.pre6 enc Try.prog Try.f13 Rows.wordPutRow.domain false) (Rows.wordPutSpec.post enc Try.prog Try.f13 false true false false) := by
  refine returnsInHanded_of_change (C := Try.checked) Try.own started (by kernel_rfl) Try.func13
    (ChangeSpec.witness6 (enc := enc) (C := Try.checked) false ⟨#[], #[.int .i64 0, .int .i64 0], []⟩ 8 (by kernel_rfl) (by kernel_rfl) (by kernel_rfl) (by kernel_rfl)) ?_
  intro W base args ds gs before hval0 hW _ _
  have hval : ∀ (j : Nat) t v, Try.f13.params[j]? = some t → args[j]? = some v → Value.okWide Try.prog W .any base t v := hval0
  have hW' := hW
  obtain ⟨p, q, hA0, hV, rfl, _, _⟩ := hW
  have hA : DataW.TrodAll enc Try.prog W 0 (fun _ => true) true Try.f13.params.toList args.toList ds p := hA0
  rw [Try.params13] at hA hval
  obtain ⟨v0, vs0, d0, ds0, p0, q0, hargs, rfl, rfl, h0, r0⟩ := trodAll_cons hA
  obtain ⟨v1, vs1, d1, ds1, p1, q1, rfl, rfl, rfl, h1, r1⟩ := trodAll_cons r0
  obtain ⟨rfl, rfl, rfl⟩ := trodAll_nil r1
  obtain rfl : args = #[v0, v1] := by cases args; simp_all
  obtain ⟨rfl, rfl⟩ := trodVars_none hV
  obtain ⟨a0, rfl, rfl, rfl, w0⟩ := open_int Try.underlying3 (hval 0 3 v0 rfl rfl) h0
  obtain ⟨a1, rfl, rfl, rfl, w1⟩ := open_int Try.underlying3 (hval 1 3 v1 rfl rfl) h1
  clear hA0 hval0
  simp only [List.append_nil] at hW'
  refine (walk W a0 w0 a1 w1).mono fun e W' ⟨he, hg⟩ => ?_
  subst he
  exact ⟨_, rfl, _, _, _, [], _, [], hW', (trodAll_cons_mk (shut_bool Try.underlying4 _) trodAll_mk0), (trodAll_cons_mk (shut_int Try.underlying3 w0) (trodAll_cons_mk (shut_int Try.underlying3 w1) trodAll_mk0)), rfl, hg.frame _, fun h => by cases h⟩

theorem over : Rows.wordPutRow.holds Try.pinned (OpenSpec.ofChange Rows.wordPutSpec) :=
  OpenClaim.holds_of_wide 13 Try.f13 rfl rfl rfl rfl rfl rfl rfl ⟨rfl, rfl, rfl, rfl, rfl⟩ rfl rfl rfl rfl rfl (by kernel_rfl) Try.func13 (by kernel_rfl)
    (of_decide_eq_true (by kernel_rfl)) (by unfold Func.isWrapper; first | (rw [if_pos (by decide +kernel)]; kernel_rfl) | (rw [if_neg (by decide +kernel)]; exact ⟨rfl, rfl⟩))
    (fun os started H enc _ => lifted os started H enc)
end Go.Proofs.Yteemgmagnhkifaa.wordPut
namespace Go.Proofs.Yteemgmagnhkifaa
theorem wordPut_holds : Rows.WordPutSaid := wordPut.over
end Go.Proofs.Yteemgmagnhkifaa
