/- Proved: for every int n the law BitsNew returns true: a new map of a size that may be is all free, has no runs, and has room for all of it at its begin; one that may not be is refused. No condition but that math/bits' table starts as the program's text lays it, which the card ties. -/
import Derived.Test.YtdhodglbhfjfaaaDoorLay
namespace Go.Proofs.YtdhodglbhfjfaaaDoor.bitsNew
open Go.ChangeShapes Go.WideShapes Go.ChangeAt Go.RowKit

theorem first_empty (n : Nat) : FirstIs (fun _ => false) n n 0 true := .inl ⟨rfl, by omega, fun _ _ => rfl, fun b hb => by omega⟩
theorem runs_empty (n : Nat) : runs (fun _ => false) n = [] := by
  have h : nxt (fun _ => false) true n 0 = n := nxt_eq ⟨by omega, Nat.le_refl _, fun _ _ _ => by simp, fun h => absurd h (Nat.lt_irrefl _)⟩
  unfold runs
  rw [h]
  exact runsF_end _ _ _ _ (Nat.le_refl _)
theorem cnt_empty (n : Nat) : cnt (fun _ => false) 0 n = 0 := cnt_none fun _ _ => rfl

set_option maxHeartbeats 2000000 in
theorem walk_no (w : World) (hT : Tab w) (h0 : 0 < w.heap.size) (n : Int) (h : n < 0 ∨ 65536 < n) :
    Calls Tryd.prog 5 #[.int .i64 n] w fun e w' => e = .returned (.bool true) ∧ Below w.heap.size w w' := by
  have HN := Lib.hid (new_no n w h)
  have HK := Lib.hid (known_true w hT h0)
  clear hT
  rcases h with h | h
  · have h' : decide (n < 0) = true := by simpa using h
    go_enter Tryd.func5, Tryd.ntmps5
    go_wp2_with (first | (go_at_call 9; refine HN.out.mono ?_; rintro e w1 ⟨rfl, rfl⟩) | (go_at_call 8; refine HK.out.mono ?_; rintro e w1 ⟨rfl, hb⟩))
    go_ret
    exact ⟨rfl, hb⟩
  · have h' : ¬ n < 0 := by omega
    go_enter Tryd.func5, Tryd.ntmps5
    go_wp2_with (first | (go_at_call 9; refine HN.out.mono ?_; rintro e w1 ⟨rfl, rfl⟩) | (go_at_call 8; refine HK.out.mono ?_; rintro e w1 ⟨rfl, hb⟩))
    go_ret
    exact ⟨rfl, hb⟩

set_option maxHeartbeats 2000000 in
theorem walk_yes (w : World) (hT : Tab w) (h0 : 0 < w.heap.size) (n : Nat) (h : n ≤ 65536) (ok : Bool) (hok : decide (0 < n) = ok) :
    Calls Tryd.prog 5 #[.int .i64 n] w fun e w' => e = .returned (.bool true) ∧ Below w.heap.size w w' := by
  have HN := Lib.hid (new_yes n w h)
  have HT := Lib.hid hT
  clear hT
  obtain ⟨m, hm⟩ : ∃ m, w.heap.size + 1 = m := ⟨_, rfl⟩
  obtain ⟨x, hx⟩ : ∃ x, w.heap.size = x := ⟨_, rfl⟩
  have HX := Lib.hid hx
  rw [hm, hx] at HN
  clear hm hx
  have h1 : ¬ (n : Int) < 0 := by omega
  have h2 : ¬ (65536 : Int) < n := by omega
  have HF : Hid (∀ w1 : World, MapAt w1 m x n (fun _ => false) → Tab w1 → Calls Tryd.prog 13 #[.pointer (some ⟨m, 0, none⟩), .int .i64 n] w1 fun e w' => e = .returned (.tuple #[.int .i64 0, .bool ok]) ∧ ∃ d, w' = w1.drewN d) := fun w1 hm hT => by
    by_cases hn : 0 < n
    · have := first_some m x w1 hm hT hn (by omega) (first_empty n)
      rw [show ok = true by rw [← hok]; simpa using hn]
      exact this
    · have := first_no m n w1 (by omega)
      rw [show ok = false by rw [← hok]; simpa using hn]
      exact this.mono fun _ _ ⟨he, hw⟩ => ⟨he, 0, hw.symm⟩
  go_enter Tryd.func5, Tryd.ntmps5
  go_wp2_with fail
  refine HN.out.mono ?_
  rintro e w1 ⟨rfl, m1, b1⟩
  have M1 := Lib.hid m1
  have B1 := Lib.hid (show Below x w w1 from b1)
  have T1 : Hid (Tab w1) := HT.out.below b1 (by rw [← HX.out]; exact h0)
  clear m1 b1 HN
  go_wp2_with fail
  refine (HF.out w1 M1.out T1.out).mono ?_
  rintro e w2 ⟨rfl, d2, rfl⟩
  go_wp2_with fail
  refine (mlen_any m x n (fun _ => false) _ ?c1).mono ?_
  case c1 => exact M1.out.heap rfl
  rintro e w3 ⟨rfl, rfl⟩
  go_wp2_with fail
  refine (taken_any m x n (fun _ => false) _ ?c2).mono ?_
  case c2 => exact M1.out.heap rfl
  rw [cnt_empty]
  rintro e w4 ⟨rfl, d4, rfl⟩
  go_wp2_with fail
  refine (runs_any m x n (fun _ => false) _ ?c3 ?c4).mono ?_
  case c3 => exact M1.out.heap rfl
  case c4 => exact T1.out
  rw [runs_empty]
  rintro e w5 ⟨v, rfl, hown, hb5⟩
  have B5 : Hid (Below w1.heap.size w1 w5) := ⟨hb5.os, hb5.tape, hb5.output, hb5.size, hb5.block⟩
  obtain ⟨a, c, rfl⟩ : ∃ a c, v = .slice a 0 c := by
    rcases Joins.ownsRow_forms hown with ⟨rfl, _⟩ | ⟨g, cap, rfl⟩
    · exact ⟨_, _, rfl⟩
    · exact ⟨_, _, rfl⟩
  clear hown hb5
  go_wp2_with fail
  refine (has_any m x n (fun _ => false) 0 _ ?c5).mono ?_
  case c5 => exact M1.out.below B5.out
  rintro e w6 ⟨rfl, rfl⟩
  have hh : hasB (fun _ => false) 0 = false := rfl
  go_wp2_with fail
  refine (known_true _ ?c6 ?c7).mono ?_
  case c6 => exact T1.out.below B5.out (Nat.lt_of_lt_of_le h0 B1.out.size)
  case c7 => exact Nat.lt_of_lt_of_le (Nat.lt_of_lt_of_le h0 B1.out.size) B5.out.size
  rintro e w7 ⟨rfl, hb7⟩
  have B7 := Lib.hid hb7
  clear hb7
  go_wp2_with fail
  go_ret
  refine ⟨rfl, ?_⟩
  have hx := HX.out
  subst hx
  have h5 := B1.out.trans (B5.out.mono B1.out.size)
  exact h5.trans (B7.out.mono h5.size)

theorem walk (w : World) (hT : Tab w) (h0 : 0 < w.heap.size) (n : Int) (_w0 : (Lit.int .i64 n).wf = true) :
    Calls Tryd.prog 5 #[.int .i64 n] w fun e w' => e = .returned (.bool true) ∧ Below w.heap.size w w' := by
  by_cases h : n < 0 ∨ 65536 < n
  · exact walk_no w hT h0 n h
  · obtain ⟨k, rfl⟩ := Int.eq_ofNat_of_zero_le (show 0 ≤ n by omega)
    exact walk_yes w hT h0 k (by omega) _ rfl


set_option maxRecDepth 100000 in
theorem lifted (os : Os) (started : os.Started) (H : Type) (enc : TypeId × Value → H) :
    ReturnsInHanded {} Tryd.checked os 5 .any (fun w args => (Rows.bitsNewSpec.pre enc Tryd.prog Tryd.f5 [] false w args ∧ laidMetH Tryd.prog theLaid w) ∧ sizedMet enc Tryd.prog Tryd.f5 (OpenSpec.ofChange Rows.bitsNewSpec) false w args)
      (Rows.bitsNewSpec.post enc Tryd.prog Tryd.f5 false true false false) := by
  refine returnsInHanded_of_change_and (C := Tryd.checked) (X := fun w _ => laidMetH Tryd.prog theLaid w) (fun _ _ _ hh h => h.of_heap hh) Tryd.own started (by kernel_rfl) Tryd.func5
    (ChangeSpec.witness_shaped (enc := enc) (C := Tryd.checked) (os := os) (X := fun w _ => laidMetH Tryd.prog theLaid w) false (World.doorLaid Tryd.prog 400 os) #[.int .i64 0] 8 rfl (World.shaped_of_RefB (by kernel_rfl) (by kernel_rfl)) (by kernel_rfl) (by kernel_rfl) (by kernel_rfl) (door_met os _)) ?_
  intro W base args ds gs before hval0 hW _ _ hL _
  have hval : ∀ (j : Nat) t v, Tryd.f5.params[j]? = some t → args[j]? = some v → Value.okWide Tryd.prog W .any base t v := hval0
  have hW' := hW
  obtain ⟨p, q, hA0, hV, rfl, _, _⟩ := hW
  have hA : DataW.TrodAll enc Tryd.prog W 0 (fun _ => true) true Tryd.f5.params.toList args.toList ds p := hA0
  rw [Tryd.params5] at hA hval
  obtain ⟨v0, vs0, d0, ds0, p0, q0, hargs, rfl, rfl, h0, r0⟩ := trodAll_cons hA
  obtain ⟨rfl, rfl, rfl⟩ := trodAll_nil r0
  obtain rfl : args = #[v0] := by cases args; simp_all
  obtain ⟨rfl, rfl⟩ := trodVars_none hV
  obtain ⟨a0, rfl, rfl, rfl, w0⟩ := open_int Tryd.underlying3 (hval 0 3 v0 rfl rfl) h0
  clear hA0 hval0
  simp only [List.append_nil] at hW'
  obtain ⟨hT, h00⟩ := tab_of_laid hL
  refine (walk W hT h00 a0 w0).mono fun e W' ⟨he, hg⟩ => ?_
  subst he
  exact ⟨_, rfl, _, _, _, [], _, [], hW', (trodAll_cons_mk (shut_bool Tryd.underlying4 _) trodAll_mk0), (trodAll_cons_mk (shut_int Tryd.underlying3 w0) trodAll_mk0), rfl, hg.frame _, fun h => by cases h⟩

theorem over : Rows.bitsNewRow.holds Tryd.pinned (OpenSpec.ofChange Rows.bitsNewSpec) :=
  OpenClaim.holds_of_wide 5 Tryd.f5 rfl rfl rfl rfl rfl rfl rfl ⟨rfl, rfl, rfl, rfl, rfl⟩ rfl rfl rfl rfl rfl (by kernel_rfl) Tryd.func5 (by kernel_rfl)
    (of_decide_eq_true (by kernel_rfl)) (by unfold Func.isWrapper; first | (rw [if_pos (by decide +kernel)]; kernel_rfl) | (rw [if_neg (by decide +kernel)]; exact ⟨rfl, rfl⟩))
    (fun os started H enc _ => lifted os started H enc)
end Go.Proofs.YtdhodglbhfjfaaaDoor.bitsNew
namespace Go.Proofs.YtdhodglbhfjfaaaDoor
open Go
theorem bitsNew_holds : Rows.BitsNewCardSaid :=
  Claim7.holds_tied_plain_at .later [] [.data] true (true, "5e291a71a13c3398cfc2698423a671421766ed3e1958b79b578a83f7829fa2b9") false
    bitsNew.over (fun _ h => by cases h) (by kernel_rfl) (fun _ h => by cases h) bitsNew_row_tie rfl ⟨rfl, rfl⟩ (by kernel_rfl) rfl
    (fun f fn hf hfn => by
      obtain rfl : f = 5 := Option.some.inj ((show Tryd.prog.funcNamed Rows.bitsNewRow.func = some 5 by kernel_rfl).symm.trans hf) |>.symm
      obtain rfl : fn = Tryd.f5 := (Option.some.inj (Tryd.func5.symm.trans hfn)).symm
      exact ⟨by kernel_rfl, fun j t ht => by
        rw [Tryd.params5] at ht
        have hm : t ∈ [3] := by simpa using Array.mem_of_getElem? ht
        have hall : ([3].all fun u => !Tryd.prog.wantsStandIn u) = true := by kernel_rfl
        exact (show Tryd.prog.wantsStandIn t = false by simpa using List.all_eq_true.1 hall t hm)⟩)
    (by kernel_rfl)
end Go.Proofs.YtdhodglbhfjfaaaDoor
