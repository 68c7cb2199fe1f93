/- Proved: for all ints n and at the law DiskNew returns true: a new disk of a size that may be is noughts, and nothing was read or written; one that may not be is refused. No condition. -/
import Derived.Test.YtpijefkkhhgbfaaLay
namespace Go.Proofs.Ytpijefkkhhgbfaa.diskNew
open Go.ChangeShapes Go.WideShapes Go.ChangeAt Go.RowKit

theorem cntU_none (n : Nat) : cntU (fun _ => 0) n = 0 := by
  induction n with
  | zero => rfl
  | succ n ih => rw [cntU_zero (sec_zero n), ih]

set_option maxHeartbeats 4000000 in
set_option maxRecDepth 1000000 in
theorem walk_no (w : World) (n at' : Int) (hn : n < 0 ∨ 20000 < n) :
    Calls Try.prog 5 #[.int .i64 n, .int .i64 at'] w fun e w' => e = .returned (.bool true) ∧ Below w.heap.size w w' := by
  have HN := Lib.hid (new_no n w hn)
  have HK := Lib.hid (known_true w)
  have hd : (decide (n < 0) || decide (20000 < n)) = true := by rw [Bool.or_eq_true, decide_eq_true_eq, decide_eq_true_eq]; exact hn
  by_cases h1 : n < 0
  · clear hn hd
    go_enter Try.func5, Try.ntmps5
    go_wp2_with fail
    refine HN.out.mono ?_
    rintro e w1 ⟨rfl, rfl⟩
    go_wp2_with fail
    refine HK.out.mono ?_
    rintro e w2 ⟨rfl, hb⟩
    go_wp2_with fail
    go_ret
    exact ⟨rfl, hb⟩
  · have h2 : 20000 < n := by omega
    clear hn hd
    go_enter Try.func5, Try.ntmps5
    go_wp2_with fail
    refine HN.out.mono ?_
    rintro e w1 ⟨rfl, rfl⟩
    go_wp2_with fail
    refine HK.out.mono ?_
    rintro e w2 ⟨rfl, hb⟩
    go_wp2_with fail
    go_ret
    exact ⟨rfl, hb⟩

set_option maxHeartbeats 4000000 in
set_option maxRecDepth 1000000 in
theorem walk_place (w : World) (n i : Nat) (hn : n ≤ 20000) (hi : i < n) :
    Calls Try.prog 5 #[.int .i64 n, .int .i64 i] w fun e w' => e = .returned (.bool true) ∧ Below w.heap.size w w' := by
  have HN := Lib.hid (new_yes n w hn)
  obtain ⟨m, hm⟩ : ∃ m, w.heap.size + 1 = m := ⟨_, rfl⟩
  obtain ⟨x, hx⟩ : ∃ x, w.heap.size = x := ⟨_, rfl⟩
  have HX : Hid (w.heap.size = x ∧ x ≤ m) := ⟨hx, by omega⟩
  rw [hm, hx] at HN
  clear hm hx
  have h1 : ¬ (n : Int) < 0 := by omega
  have h2 : ¬ (20000 : Int) < n := by omega
  have h3 : (0 : Int) ≤ i := by omega
  have h4 : (i : Int) < n := by omega
  go_enter Try.func5, Try.ntmps5
  go_wp2_with fail
  refine HN.out.mono ?_
  rintro e w1 ⟨rfl, d1, b1⟩
  have D1 := Lib.hid d1
  have B1 : Hid (Below x w w1) := b1
  clear d1 b1 HN
  go_wp2_with fail
  refine (read_yes m x n 0 0 _ i w1 D1.out hi (by decide)).mono ?_
  rintro e w2 ⟨g, cp, rfl, hown, d2, o2⟩
  have D2 := Lib.hid d2
  have B2 : Hid (Below x w w2) := by
    have hs := B1.out.size
    have := HX.out
    exact B1.out.trans (o2.below (fun i hi h => by omega) (by omega))
  have V2 : Hid (Bts (fun _ => True) w2 (.slice (some ⟨g, 0, none⟩) 64 cp) (List.replicate 64 0)) := by
    rw [sec_zero] at hown
    exact (Vals.of_own (by simpa using hown)).kind (fun _ _ _ => trivial)
  clear d2 o2 hown D1 B1
  go_wp2_with fail
  refine (calls_is m x n (0 + 1) 0 _ w2 D2.out).mono ?_
  rintro e w3 ⟨rfl, b3⟩
  have D3 := Lib.hid (D2.out.fresh b3)
  have B3 : Hid (Below x w w3) := by have hs := B2.out.size; have := HX.out; exact B2.out.trans (b3.mono (by omega))
  have V3 : Hid (Bts (fun _ => True) w3 (.slice (some ⟨g, 0, none⟩) 64 cp) (List.replicate 64 0)) := V2.out.only (Only.of_below (F := fun _ => False) b3) (fun _ _ h => h)
  clear b3 D2 B2 V2
  go_wp2_with fail
  refine (len_any m x n (0 + 1) 0 _ _ D3.out).mono ?_
  rintro e w4 ⟨rfl, rfl⟩
  have hu := used_any m x n (0 + 1) 0 _ w3 D3.out
  rw [cntU_none] at hu
  have HU := Lib.hid hu
  clear hu
  go_wp2_with fail
  refine HU.out.mono ?_
  rintro e w4 ⟨rfl, b4⟩
  have B4 : Hid (Below x w w4) := by have hs := B3.out.size; have := HX.out; exact B3.out.trans (b4.mono (by omega))
  have V4 : Hid (Bts (fun _ => True) w4 (.slice (some ⟨g, 0, none⟩) 64 cp) (List.replicate 64 0)) := V3.out.only (Only.of_below (F := fun _ => False) b4) (fun _ _ h => h)
  have hm := mk_bytes w4 64 (by omega)
  have hb5 : Below w4.heap.size w4 (w4.alloc (.cells (madeCells (Value.int .u8 0).cells 64) 5)) := (Below.refl _ _).alloc (Nat.le_refl _) _
  have hz := zeros_made w4 64
  obtain ⟨z, hz0⟩ : ∃ z, z = w4.heap.size := ⟨_, rfl⟩
  rw [← hz0] at hm hz
  generalize w4.alloc (.cells (madeCells (Value.int .u8 0).cells 64) 5) = w5 at hm hb5 hz
  have hm : (Instr.makeSlice 30 (.int .i64 64) (.int .i64 64)).run Try.prog w4 = .ok (.slice (some ⟨z, 0, none⟩) 64 64) w5 := hm
  have B5 : Hid (Below x w w5) := by have hs := B4.out.size; have := HX.out; exact B4.out.trans (hb5.mono (by omega))
  have HS := Lib.hid (same_eq _ _ _ w5 (V4.out.only (Only.of_below (F := fun _ => False) hb5) (fun _ _ h => h)) hz)
  clear b4 V3 HU B3 hz0 hz hb5 V4
  go_wp2_with fail
  refine HS.out.mono ?_
  rintro e w6 ⟨rfl, rfl⟩
  go_wp2_with fail
  refine (known_true w5).mono ?_
  rintro e w7 ⟨rfl, b7⟩
  go_wp2_with fail
  go_ret
  exact ⟨rfl, by have hs := B5.out.size; have := HX.out; rw [HX.out.1]; exact B5.out.trans (b7.mono (by omega))⟩

set_option maxHeartbeats 4000000 in
set_option maxRecDepth 1000000 in
theorem walk_out (w : World) (n : Nat) (at' : Int) (hn : n ≤ 20000) (hi : ¬ (0 ≤ at' ∧ at' < n)) :
    Calls Try.prog 5 #[.int .i64 n, .int .i64 at'] w fun e w' => e = .returned (.bool true) ∧ Below w.heap.size w w' := by
  have HN := Lib.hid (new_yes n w hn)
  obtain ⟨m, hm⟩ : ∃ m, w.heap.size + 1 = m := ⟨_, rfl⟩
  obtain ⟨x, hx⟩ : ∃ x, w.heap.size = x := ⟨_, rfl⟩
  have HX : Hid (w.heap.size = x ∧ x ≤ m) := ⟨hx, by omega⟩
  rw [hm, hx] at HN
  clear hm hx
  have h1 : ¬ (n : Int) < 0 := by omega
  have h2 : ¬ (20000 : Int) < n := by omega
  have HI := Lib.hid hi
  clear hi
  go_enter Try.func5, Try.ntmps5
  go_wp2_with fail
  refine HN.out.mono ?_
  rintro e w1 ⟨rfl, d1, b1⟩
  have D1 := Lib.hid d1
  have B1 : Hid (Below x w w1) := b1
  clear d1 b1 HN
  go_wp2_with fail
  refine (read_no m x n 0 0 _ at' w1 D1.out HI.out).mono ?_
  rintro e w2 ⟨rfl, b2⟩
  have D2 := Lib.hid (D1.out.fresh b2)
  have B2 : Hid (Below x w w2) := by have hs := B1.out.size; have := HX.out; exact B1.out.trans (b2.mono (by omega))
  have HC := Lib.hid (calls_is m x n 0 0 _ w2 D2.out)
  clear b2 D1 B1
  have fin : Hid (∀ w3, Below w2.heap.size w2 w3 → Calls Try.prog 8 #[] w3 fun e w' => e = .returned (.bool true) ∧ Below w.heap.size w w') := fun w3 b3 =>
    (known_true w3).mono fun e w' ⟨he, hb⟩ => ⟨he, by have h1 := B2.out.size; have h2 := b3.size; have h3 := HX.out; rw [HX.out.1]; exact (B2.out.trans (b3.mono (by omega))).trans (hb.mono (by omega))⟩
  have HL := Lib.hid (fun w3 b3 => len_any m x n 0 0 _ w3 (D2.out.fresh b3))
  have hu := fun w3 b3 => used_any m x n 0 0 _ w3 (D2.out.fresh b3)
  rw [cntU_none] at hu
  have HU := Lib.hid hu
  clear hu
  by_cases h3 : at' < 0
  · go_wp2_with fail
    refine HC.out.mono ?_
    rintro e w3 ⟨rfl, b3⟩
    go_wp2_with fail
    refine (HL.out w3 b3).mono ?_
    rintro e w4 ⟨rfl, rfl⟩
    go_wp2_with fail
    refine (HU.out w3 b3).mono ?_
    rintro e w4 ⟨rfl, b4⟩
    have b4' : Below w2.heap.size w2 w4 := b3.trans (b4.mono b3.size)
    go_wp2_with fail
    refine (fin.out w4 b4').mono ?_
    rintro e w5 ⟨rfl, b5⟩
    go_wp2_with fail
    go_ret
    exact ⟨rfl, b5⟩
  · have h4 : (n : Int) ≤ at' := by have := HI.out; omega
    have h5 : ¬ at' < n := by omega
    go_wp2_with fail
    refine HC.out.mono ?_
    rintro e w3 ⟨rfl, b3⟩
    go_wp2_with fail
    refine (HL.out w3 b3).mono ?_
    rintro e w4 ⟨rfl, rfl⟩
    go_wp2_with fail
    refine (HU.out w3 b3).mono ?_
    rintro e w4 ⟨rfl, b4⟩
    have b4' : Below w2.heap.size w2 w4 := b3.trans (b4.mono b3.size)
    go_wp2_with fail
    refine (fin.out w4 b4').mono ?_
    rintro e w5 ⟨rfl, b5⟩
    go_wp2_with fail
    go_ret
    exact ⟨rfl, b5⟩

theorem walk (w : World) (n : Int) (_wn : (Lit.int .i64 n).wf = true) (at' : Int) (_wa : (Lit.int .i64 at').wf = true) :
    Calls Try.prog 5 #[.int .i64 n, .int .i64 at'] w fun e w' => e = .returned (.bool true) ∧ Below w.heap.size w w' := by
  by_cases hn : n < 0 ∨ 20000 < n
  · exact walk_no w n at' hn
  · obtain ⟨n, rfl⟩ := Int.eq_ofNat_of_zero_le (show 0 ≤ n by omega)
    by_cases hi : 0 ≤ at' ∧ at' < n
    · obtain ⟨i, rfl⟩ := Int.eq_ofNat_of_zero_le hi.1
      exact walk_place w n i (by omega) (by omega)
    · exact walk_out w n at' (by omega) hi

set_option maxRecDepth 100000 in
theorem lifted (os : Os) (started : os.Started) (H : Type) (enc : TypeId × Value → H) :
    ReturnsInHanded {} Try.checked os 5 .any (Rows.diskNewSpec.pre6 enc Try.prog Try.f5 Rows.diskNewRow.domain false) (Rows.diskNewSpec.post enc Try.prog Try.f5 false true false false) := by
  refine returnsInHanded_of_change (C := Try.checked) Try.own started (by kernel_rfl) Try.func5
    (ChangeSpec.witness6 (enc := enc) (C := Try.checked) false ⟨#[], #[.int .i64 0, .int .i64 0], []⟩ 8 (by kernel_rfl) (by kernel_rfl) (by kernel_rfl) (by kernel_rfl)) ?_
  intro W base args ds gs before hval0 hW _ _
  have hval : ∀ (j : Nat) t v, Try.f5.params[j]? = some t → args[j]? = some v → Value.okWide Try.prog W .any base t v := hval0
  have hW' := hW
  obtain ⟨p, q, hA0, hV, rfl, _, _⟩ := hW
  have hA : DataW.TrodAll enc Try.prog W 0 (fun _ => true) true Try.f5.params.toList args.toList ds p := hA0
  rw [Try.params5] at hA hval
  obtain ⟨v0, vs0, d0, ds0, p0, q0, hargs, rfl, rfl, h0, r0⟩ := trodAll_cons hA
  obtain ⟨v1, vs1, d1, ds1, p1, q1, rfl, rfl, rfl, h1, r1⟩ := trodAll_cons r0
  obtain ⟨rfl, rfl, rfl⟩ := trodAll_nil r1
  obtain rfl : args = #[v0, v1] := by cases args; simp_all
  obtain ⟨rfl, rfl⟩ := trodVars_none hV
  obtain ⟨a0, rfl, rfl, rfl, w0⟩ := open_int Try.underlying3 (hval 0 3 v0 rfl rfl) h0
  obtain ⟨a1, rfl, rfl, rfl, w1⟩ := open_int Try.underlying3 (hval 1 3 v1 rfl rfl) h1
  clear hA0 hval0
  simp only [List.append_nil] at hW'
  refine (walk W a0 w0 a1 w1).mono fun e W' ⟨he, hg⟩ => ?_
  subst he
  exact ⟨_, rfl, _, _, _, [], _, [], hW', (trodAll_cons_mk (shut_bool Try.underlying4 _) trodAll_mk0), (trodAll_cons_mk (shut_int Try.underlying3 w0) (trodAll_cons_mk (shut_int Try.underlying3 w1) trodAll_mk0)), rfl, hg.frame _, fun h => by cases h⟩

theorem row_over : Rows.diskNewRow.holds Try.pinned (OpenSpec.ofChange Rows.diskNewSpec) :=
  OpenClaim.holds_of_wide 5 Try.f5 rfl rfl rfl rfl rfl rfl rfl ⟨rfl, rfl, rfl, rfl, rfl⟩ rfl rfl rfl rfl rfl (by kernel_rfl) Try.func5 (by kernel_rfl)
    (of_decide_eq_true (by kernel_rfl)) (by unfold Func.isWrapper; first | (rw [if_pos (by decide +kernel)]; kernel_rfl) | (rw [if_neg (by decide +kernel)]; exact ⟨rfl, rfl⟩))
    (fun os started H enc _ => lifted os started H enc)
end Go.Proofs.Ytpijefkkhhgbfaa.diskNew
namespace Go.Proofs.Ytpijefkkhhgbfaa
theorem diskNew_holds : Rows.DiskNewSaid := diskNew.row_over
end Go.Proofs.Ytpijefkkhhgbfaa
