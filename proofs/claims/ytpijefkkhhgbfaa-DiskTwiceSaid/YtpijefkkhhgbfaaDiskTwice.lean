/- Proved: for all rows of bytes a and b the law DiskTwice returns true: written twice, the last is read; read twice, it is the same; what was handed in, and is changed then, is not what is read. No condition. -/
import Derived.Test.YtpijefkkhhgbfaaMem
namespace Go.Proofs.Ytpijefkkhhgbfaa.diskTwice
open Go.ChangeShapes Go.WideShapes Go.ChangeAt Go.RowKit

set_option maxHeartbeats 4000000 in
set_option maxRecDepth 1000000 in
theorem walk_long (w : World) (v0 : Value) (x0 : List Int) (hb0 : ArgB w v0 x0) (v1 : Value) (x1 : List Int) (hb1 : ArgB w v1 x1) (h : 64 < x0.length ∨ 64 < x1.length) :
    Calls Try.prog 7 #[v0, v1] w fun e w' => e = .returned (.bool true) ∧ Below w.heap.size w w' := by
  obtain ⟨a0, c0, rfl, _⟩ := hb0.1.form
  obtain ⟨a1, c1, rfl, _⟩ := hb1.1.form
  have m0 := hb0.2.2
  have m1 := hb1.2.2
  unfold maxLen at m0 m1
  have HK := Lib.hid (known_true w)
  clear hb0 hb1
  by_cases h1 : 64 < x0.length
  · have h1' : (64 : Int) < x0.length := by omega
    go_enter Try.func7, Try.ntmps7
    go_wp2_with (go_at_call 8; refine HK.out.mono ?_; rintro e w1 ⟨rfl, hb⟩)
    go_ret
    exact ⟨rfl, hb⟩
  · have h1' : ¬ (64 : Int) < x0.length := by omega
    have h2' : (64 : Int) < x1.length := by omega
    clear h h1
    go_enter Try.func7, Try.ntmps7
    go_wp2_with (go_at_call 8; refine HK.out.mono ?_; rintro e w1 ⟨rfl, hb⟩)
    go_ret
    exact ⟨rfl, hb⟩

set_option maxHeartbeats 4000000 in
set_option maxRecDepth 1000000 in
theorem walk_short (w : World) (v0 : Value) (x0 : List Int) (hb0 : ArgB w v0 x0) (v1 : Value) (x1 : List Int) (hb1 : ArgB w v1 x1) (h0 : x0.length ≤ 64) (h1 : x1.length ≤ 64) :
    Calls Try.prog 7 #[v0, v1] w fun e w' => e = .returned (.bool true) ∧ Below w.heap.size w w' := by
  have A0 := Lib.hid hb0
  have A1 := Lib.hid hb1
  obtain ⟨a0, c0, rfl, _⟩ := hb0.1.form
  obtain ⟨a1, c1, rfl, _⟩ := hb1.1.form
  clear hb0 hb1
  have h0' : ¬ (64 : Int) < x0.length := by omega
  have h1' : ¬ (64 : Int) < x1.length := by omega
  have HN := Lib.hid (new_yes 1 w (by omega))
  obtain ⟨m, hm⟩ : ∃ m, w.heap.size + 1 = m := ⟨_, rfl⟩
  obtain ⟨x, hx⟩ : ∃ x, w.heap.size = x := ⟨_, rfl⟩
  have HX : Hid (w.heap.size = x ∧ x ≤ m) := ⟨hx, by omega⟩
  rw [hm, hx] at HN
  clear hm hx
  go_enter Try.func7, Try.ntmps7
  go_wp2_with fail
  refine HN.out.mono ?_
  rintro e w1 ⟨rfl, d1, b1⟩
  have D1 := Lib.hid d1
  have B1 : Hid (Below x w w1) := b1
  have K : Hid (∀ w', Below x w w' → ∀ v xs, ArgB w v xs → Bts (· < w.heap.size) w' v xs) := fun w' hb v xs hv => hv.1.only (Only.of_below (F := fun _ => False) (by rw [HX.out.1]; exact hb)) (fun _ _ h => h)
  have S : Hid (∀ i, i < x → ¬ dk m x i) := fun i hi h => by have := HX.out; rcases h with h | h <;> omega
  clear d1 b1 HN
  go_wp2_with fail
  refine (show Calls Try.prog 20 #[.pointer (some ⟨m, 0, none⟩), .int .i64 0, .slice a0 x0.length c0] w1 _ from write_yes m x 1 0 0 _ 0 _ x0 _ D1.out (by decide) (by decide) (K.out w1 B1.out _ _ A0.out) A0.out.2.1 h0).mono ?_
  rintro e w2 ⟨rfl, d2, o2⟩
  have D2 := Lib.hid d2
  have B2 : Hid (Below x w w2) := B1.out.trans (o2.below S.out (by have := HX.out; have := B1.out.size; omega))
  clear d2 o2 D1 B1
  go_wp2_with fail
  refine (copy_any _ x1 w2 (K.out w2 B2.out _ _ A1.out) (by omega)).mono ?_
  rintro e w3 ⟨own, rfl, hown, b3⟩
  have O3 := Lib.hid hown
  have D3 := Lib.hid (D2.out.fresh b3)
  have B3 : Hid (Below x w w3) := B2.out.trans (b3.mono (by have := HX.out; have := B2.out.size; omega))
  have R : Hid (∀ b, w2.heap.size ≤ b → ¬ dk m x b) := fun b hb h => by have h1 := D2.out.mlt; have h2 := D2.out.xlt; rcases h with h | h <;> omega
  have Z2 : Hid (x ≤ w2.heap.size) := Nat.le_of_lt D2.out.xlt
  clear hown b3 D2 B2
  go_wp2_with fail
  refine (show Calls Try.prog 20 #[.pointer (some ⟨m, 0, none⟩), .int .i64 0, own] w3 _ from write_yes m x 1 0 1 _ 0 _ x1 _ D3.out (by decide) (by decide) (Vals.of_own (by simpa using O3.out)) A1.out.2.1 h1).mono ?_
  rintro e w4 ⟨rfl, d4, o4⟩
  have D4 := Lib.hid d4
  have B4 : Hid (Below x w w4) := B3.out.trans (o4.below S.out (by have := HX.out; have := B3.out.size; omega))
  have O4 := Lib.hid (own_only O3.out o4 R.out)
  clear d4 o4 D3 B3 O3
  go_wp2_with fail
  refine (spoil_any _ _ x1 w4 O4.out (by omega)).mono ?_
  rintro e w5 ⟨rfl, o5⟩
  have D5 := Lib.hid (D4.out.only o5 (fun h => R.out m h (.inl rfl)) (fun h => R.out x h (.inr rfl)))
  have B5 : Hid (Below x w w5) := B4.out.trans (o5.below (fun i hi h => by have := Z2.out; omega) (by have := HX.out; have := B4.out.size; omega))
  clear o5 D4 B4 O4
  go_wp2_with fail
  refine (show Calls Try.prog 16 #[.pointer (some ⟨m, 0, none⟩), .int .i64 0] w5 _ from read_yes m x 1 0 2 _ 0 w5 D5.out (by decide) (by decide)).mono ?_
  rintro e w6 ⟨g, cp, rfl, hown, d6, o6⟩
  rw [sec_put _ _ _ h1] at hown
  have hcp : 64 ≤ cp := by
    rcases hown.2 with ⟨he, _⟩ | ⟨g', cap, cur, he, _, _, hn, _⟩
    · cases he
    · injection he with e1 e2 e3
      omega
  have D6 := Lib.hid d6
  have B6 : Hid (Below x w w6) := B5.out.trans (o6.below (fun i hi h => by have := HX.out; omega) (by have := HX.out; have := B5.out.size; omega))
  have V6 : Hid (Bts (w5.heap.size ≤ ·) w6 (.slice (some ⟨g, 0, none⟩) 64 cp) (pad x1)) := Vals.of_own (by rw [List.length_map, pad_len _ h1]; exact hown)
  have hm5 := D5.out.mlt
  clear hown d6 o6 D5 B5
  go_wp2_with fail
  refine (show Calls Try.prog 16 #[.pointer (some ⟨m, 0, none⟩), .int .i64 0] w6 _ from read_yes m x 1 1 2 _ 0 w6 D6.out (by decide) (by decide)).mono ?_
  rintro e w7 ⟨g', cp', rfl, hown, d7, o7⟩
  rw [sec_put _ _ _ h1] at hown
  have B7 : Hid (Below x w w7) := B6.out.trans (o7.below (fun i hi h => by have := HX.out; omega) (by have := HX.out; have := B6.out.size; omega))
  have V7 : Hid (Bts (w6.heap.size ≤ ·) w7 (.slice (some ⟨g', 0, none⟩) 64 cp') (pad x1)) := Vals.of_own (by rw [List.length_map, pad_len _ h1]; exact hown)
  have V6' := Lib.hid (V6.out.only o7 (fun b hb h => by omega))
  have HS := Lib.hid (same_eq _ _ _ w7 V6'.out V7.out)
  have ht := bts_take V6'.out x1.length (by rw [pad_len _ h1]; exact h1)
  rw [pad_take] at ht
  have HT := Lib.hid (same_eq _ _ _ w7 ht (K.out w7 B7.out _ _ A1.out))
  clear hown d7 o7 D6 B6 V6 V7 V6' ht K
  have k1 : ((x1.length : Nat) : Int) ≤ cp := by omega
  have k2 : x1.length ≤ cp := by omega
  go_wp2_with fail
  refine HS.out.mono ?_
  rintro e w8 ⟨rfl, rfl⟩
  go_wp2_with fail
  refine HT.out.mono ?_
  rintro e w8 ⟨rfl, rfl⟩
  go_wp2_with fail
  refine (known_true w7).mono ?_
  rintro e w9 ⟨rfl, b9⟩
  go_wp2_with fail
  go_ret
  exact ⟨rfl, by rw [HX.out.1]; exact B7.out.trans (b9.mono (by have := HX.out; have := B7.out.size; omega))⟩

theorem walk (w : World) (v0 : Value) (x0 : List Int) (hb0 : ArgB w v0 x0) (v1 : Value) (x1 : List Int) (hb1 : ArgB w v1 x1) :
    Calls Try.prog 7 #[v0, v1] w fun e w' => e = .returned (.bool true) ∧ Below w.heap.size w w' := by
  by_cases h : 64 < x0.length ∨ 64 < x1.length
  · exact walk_long w v0 x0 hb0 v1 x1 hb1 h
  · exact walk_short w v0 x0 hb0 v1 x1 hb1 (by omega) (by omega)

set_option maxRecDepth 100000 in
theorem lifted (os : Os) (started : os.Started) (H : Type) (enc : TypeId × Value → H) :
    ReturnsInHanded {} Try.checked os 7 .any (Rows.diskTwiceSpec.pre6 enc Try.prog Try.f7 Rows.diskTwiceRow.domain false) (Rows.diskTwiceSpec.post enc Try.prog Try.f7 false true false false) := by
  refine returnsInHanded_of_change (C := Try.checked) Try.own started (by kernel_rfl) Try.func7
    (ChangeSpec.witness6 (enc := enc) (C := Try.checked) false ⟨#[], #[.slice none 0 0, .slice none 0 0], []⟩ 8 (by kernel_rfl) (by kernel_rfl) (by kernel_rfl) (by kernel_rfl)) ?_
  intro W base args ds gs before hval0 hW _ _
  have hval : ∀ (j : Nat) t v, Try.f7.params[j]? = some t → args[j]? = some v → Value.okWide Try.prog W .any base t v := hval0
  have hW' := hW
  obtain ⟨p, q, hA0, hV, rfl, _, _⟩ := hW
  have hA : DataW.TrodAll enc Try.prog W 0 (fun _ => true) true Try.f7.params.toList args.toList ds p := hA0
  rw [Try.params7] at hA hval
  obtain ⟨v0, vs0, d0, ds0, p0, q0, hargs, rfl, rfl, h0, r0⟩ := trodAll_cons hA
  obtain ⟨v1, vs1, d1, ds1, p1, q1, rfl, rfl, rfl, h1, r1⟩ := trodAll_cons r0
  obtain ⟨rfl, rfl, rfl⟩ := trodAll_nil r1
  obtain rfl : args = #[v0, v1] := by cases args; simp_all
  obtain ⟨rfl, rfl⟩ := trodVars_none hV
  clear hA0 hval0
  simp only [List.append_nil] at hW'
  obtain ⟨x0, hb0⟩ := open_bts (hval 0 30 v0 rfl rfl) h0
  have hlt0 : ∀ x ∈ p0, x.block < W.heap.size := fun x hx => by simpa using hW'.lt x (by simp [hx])
  obtain ⟨x1, hb1⟩ := open_bts (hval 1 30 v1 rfl rfl) h1
  have hlt1 : ∀ x ∈ p1, x.block < W.heap.size := fun x hx => by simpa using hW'.lt x (by simp [hx])
  refine (walk W v0 x0 hb0 v1 x1 hb1).mono fun e W' ⟨he, hg⟩ => ?_
  subst he
  exact ⟨_, rfl, _, _, _, [], _, [], hW', (trodAll_cons_mk (shut_bool Try.underlying4 _) trodAll_mk0), (trodAll_cons_mk (Below.trod Try.laidOut (by kernel_rfl) (of_decide_eq_true (by kernel_rfl)) h0 hg hlt0) (trodAll_cons_mk (Below.trod Try.laidOut (by kernel_rfl) (of_decide_eq_true (by kernel_rfl)) h1 hg hlt1) trodAll_mk0)), rfl, hg.frame _, fun h => by cases h⟩

theorem row_over : Rows.diskTwiceRow.holds Try.pinned (OpenSpec.ofChange Rows.diskTwiceSpec) :=
  OpenClaim.holds_of_wide 7 Try.f7 rfl rfl rfl rfl rfl rfl rfl ⟨rfl, rfl, rfl, rfl, rfl⟩ rfl rfl rfl rfl rfl (by kernel_rfl) Try.func7 (by kernel_rfl)
    (of_decide_eq_true (by kernel_rfl)) (by unfold Func.isWrapper; first | (rw [if_pos (by decide +kernel)]; kernel_rfl) | (rw [if_neg (by decide +kernel)]; exact ⟨rfl, rfl⟩))
    (fun os started H enc _ => lifted os started H enc)
end Go.Proofs.Ytpijefkkhhgbfaa.diskTwice
namespace Go.Proofs.Ytpijefkkhhgbfaa
theorem diskTwice_holds : Rows.DiskTwiceSaid := diskTwice.row_over
end Go.Proofs.Ytpijefkkhhgbfaa
