/- Proved: for all bytes n and at the law BitsFull returns true: a map taken as a whole has no room; with one freed it has room for that one, and not for two. No condition but that math/bits' table starts as the program's text lays it, which the card ties. -/
import Derived.Test.YtdhodglbhfjfaaaDoorLay
namespace Go.Proofs.YtdhodglbhfjfaaaDoor.bitsFull
open Go.ChangeShapes Go.WideShapes Go.ChangeAt Go.RowKit

/-- All n are taken; and all but i. -/
def fullS (n : Nat) : Nat → Bool := flipS (fun _ => false) 0 n
def lessS (n i : Nat) : Nat → Bool := flipS (fullS n) i 1
theorem fullS_at (n k : Nat) : fullS n k = decide (k < n) := by simp [fullS, flipS, inR]
theorem lessS_at (n i k : Nat) : lessS n i k = (decide (k < n) ^^ decide (k = i)) := by
  unfold lessS flipS
  rw [fullS_at]
  refine congrArg (fun b : Bool => decide (k < n) ^^ b) (decide_eq_decide.2 ?_)
  omega
theorem full_first (n : Nat) : FirstIs (fullS n) n 1 0 false := .inr ⟨rfl, rfl, fun b hb => ⟨0, by omega, by rw [fullS_at]; simp; omega⟩⟩
theorem less_first (n i : Nat) (h : i < n) : FirstIs (lessS n i) n 1 i true :=
  .inl ⟨rfl, by omega, fun k hk => by obtain rfl : k = 0 := by omega
                                      rw [lessS_at]; simp [h], fun b hb => ⟨0, by omega, by rw [lessS_at]; simp; omega⟩⟩
theorem less_two (n i : Nat) : FirstIs (lessS n i) n 2 0 false :=
  .inr ⟨rfl, rfl, fun b hb => by
    by_cases e : b = i
    · exact ⟨1, by omega, by rw [lessS_at]; simp; omega⟩
    · exact ⟨0, by omega, by rw [lessS_at]; simp; omega⟩⟩
theorem full_cnt (n : Nat) : cnt (fullS n) 0 n = n := cnt_all fun k hk => by rw [fullS_at]; simpa using hk
theorem less_cnt (n i : Nat) (h : i < n) : cnt (lessS n i) 0 n = n - 1 := by
  obtain ⟨r, rfl⟩ : ∃ r, n = i + (1 + r) := ⟨n - i - 1, by omega⟩
  rw [cnt_add, cnt_add, cnt_all (c := i) (fun k hk => by rw [lessS_at]; simp; omega), cnt_all (c := r) (fun k hk => by rw [lessS_at]; simp; omega), cnt_none (c := 1) (fun k hk => by rw [lessS_at]; simp; omega)]
  omega

set_option maxHeartbeats 2000000 in
theorem walk2 (w : World) (hT : Tab w) (h0 : 0 < w.heap.size) (a b : Nat) (ha : a ≤ 255) (hb : b ≤ 255) :
    Calls Tryd.prog 6 #[.int .u8 a, .int .u8 b] w fun e w' => e = .returned (.bool true) ∧ Below w.heap.size w w' := by
  obtain ⟨n, hn⟩ : ∃ n, 1 + a = n := ⟨_, rfl⟩
  obtain ⟨i, hi⟩ : ∃ i, b % n = i := ⟨_, rfl⟩
  have hin : i < n := by rw [← hi]; exact Nat.mod_lt _ (by omega)
  have e1 : (1 : Int) + a = n := by omega
  have e2 : (b : Int) % n = i := by omega
  have HN := Lib.hid (new_yes n w (by omega))
  have HT := Lib.hid hT
  have hn1 : 1 ≤ n := by omega
  have hn2 : n ≤ 256 := by omega
  clear hT hn hi
  obtain ⟨m, hm⟩ : ∃ m, w.heap.size + 1 = m := ⟨_, rfl⟩
  obtain ⟨x, hx⟩ : ∃ x, w.heap.size = x := ⟨_, rfl⟩
  have HX := Lib.hid hx
  rw [hm, hx] at HN
  clear hm hx
  go_enter Tryd.func6, Tryd.ntmps6
  go_wp2_with fail
  refine HN.out.mono ?_
  rintro e w1 ⟨rfl, m1, b1⟩
  have M1 := Lib.hid m1
  have B1 := Lib.hid (show Below x w w1 from b1)
  clear m1 b1 HN
  go_wp2_with fail
  refine (show Calls Tryd.prog 14 #[.pointer (some ⟨m, 0, none⟩), .int .i64 0, .int .i64 n] w1 _ from take_yes m x n _ 0 n w1 M1.out hn1 (by omega) (cnt_none fun _ _ => rfl)).mono ?_
  rintro e w2 ⟨rfl, m2, b2⟩
  have M2 : Hid (MapAt w2 m x n (fullS n)) := m2
  have B2 := Lib.hid b2
  have T2 : Hid (Tab w2) := by
    have hx1 := HX.out
    have hs := B1.out.size
    exact (HT.out.below B1.out (by omega)).but b2 (by omega) (by omega)
  clear m2 b2
  go_wp2_with fail
  refine (taken_any m x n (fullS n) _ ?c1).mono ?_
  case c1 => exact M2.out
  rw [full_cnt]
  rintro e w3 ⟨rfl, d3, rfl⟩
  go_wp2_with fail
  refine (show Calls Tryd.prog 13 #[.pointer (some ⟨m, 0, none⟩), .int .i64 1] _ _ from first_some m x _ ?c2 ?c3 (by decide) (by decide) (full_first n)).mono ?_
  case c2 => exact M2.out.heap rfl
  case c3 => exact T2.out
  rintro e w4 ⟨rfl, d4, rfl⟩
  go_wp2_with fail
  refine (show Calls Tryd.prog 15 #[.pointer (some ⟨m, 0, none⟩), .int .i64 i, .int .i64 1] _ _ from free_yes m x n (fullS n) i 1 _ ?c4 (by decide) (by omega) (cnt_all fun k hk => by rw [fullS_at]; simp; omega)).mono ?_
  case c4 => exact M2.out.heap rfl
  rintro e w5 ⟨rfl, m5, b5⟩
  have M5 : Hid (MapAt w5 m x n (lessS n i)) := m5
  have B5 : Hid (But x w2 w5) := ⟨b5.os, b5.tape, b5.output, b5.size, b5.block⟩
  have T5 : Hid (Tab w5) := by
    have hx1 := HX.out
    have hs := M2.out.mlt
    exact T2.out.but B5.out (by omega) (by omega)
  clear m5 b5
  go_wp2_with fail
  refine (show Calls Tryd.prog 13 #[.pointer (some ⟨m, 0, none⟩), .int .i64 1] _ _ from first_some m x _ M5.out T5.out (by decide) (by decide) (less_first n i hin)).mono ?_
  rintro e w6 ⟨rfl, d6, rfl⟩
  go_wp2_with fail
  refine (show Calls Tryd.prog 13 #[.pointer (some ⟨m, 0, none⟩), .int .i64 2] _ _ from first_some m x _ ?c5 ?c6 (by decide) (by decide) (less_two n i)).mono ?_
  case c5 => exact M5.out.heap rfl
  case c6 => exact T5.out
  rintro e w7 ⟨rfl, d7, rfl⟩
  go_wp2_with fail
  refine (taken_any m x n (lessS n i) _ ?c7).mono ?_
  case c7 => exact M5.out.heap rfl
  rw [less_cnt n i hin, show ((n - 1 : Nat) : Int) = (n : Int) - 1 by omega]
  rintro e w8 ⟨rfl, d8, rfl⟩
  go_wp2_with fail
  refine (known_true _ ?c8 ?c9).mono ?_
  case c8 => exact T5.out
  case c9 => exact (show 0 < w5.heap.size by have := M5.out.mlt; omega)
  rintro e w9 ⟨rfl, hb9⟩
  have B9 : Hid (Below w5.heap.size w5 w9) := ⟨hb9.os, hb9.tape, hb9.output, hb9.size, hb9.block⟩
  clear hb9
  go_wp2_with fail
  go_ret
  refine ⟨rfl, ?_⟩
  have hx := HX.out
  subst hx
  have h5 := B1.out.trans ((B2.out.trans B5.out).below (Nat.le_refl _) B1.out.size)
  exact h5.trans (B9.out.mono h5.size)

theorem walk (w : World) (hT : Tab w) (h0 : 0 < w.heap.size) (a : Int) (wa : (Lit.int .u8 a).wf = true) (b : Int) (wb : (Lit.int .u8 b).wf = true) :
    Calls Tryd.prog 6 #[.int .u8 a, .int .u8 b] w fun e w' => e = .returned (.bool true) ∧ Below w.heap.size w w' := by
  have h1 := wf_u8 wa
  have h2 := wf_u8 wb
  obtain ⟨a, rfl⟩ := Int.eq_ofNat_of_zero_le h1.1
  obtain ⟨b, rfl⟩ := Int.eq_ofNat_of_zero_le h2.1
  exact walk2 w hT h0 a b (by omega) (by omega)


set_option maxRecDepth 100000 in
theorem lifted (os : Os) (started : os.Started) (H : Type) (enc : TypeId × Value → H) :
    ReturnsInHanded {} Tryd.checked os 6 .any (fun w args => (Rows.bitsFullSpec.pre enc Tryd.prog Tryd.f6 [] false w args ∧ laidMetH Tryd.prog theLaid w) ∧ sizedMet enc Tryd.prog Tryd.f6 (OpenSpec.ofChange Rows.bitsFullSpec) false w args)
      (Rows.bitsFullSpec.post enc Tryd.prog Tryd.f6 false true false false) := by
  refine returnsInHanded_of_change_and (C := Tryd.checked) (X := fun w _ => laidMetH Tryd.prog theLaid w) (fun _ _ _ hh h => h.of_heap hh) Tryd.own started (by kernel_rfl) Tryd.func6
    (ChangeSpec.witness_shaped (enc := enc) (C := Tryd.checked) (os := os) (X := fun w _ => laidMetH Tryd.prog theLaid w) false (World.doorLaid Tryd.prog 400 os) #[.int .u8 0, .int .u8 0] 8 rfl (World.shaped_of_RefB (by kernel_rfl) (by kernel_rfl)) (by kernel_rfl) (by kernel_rfl) (by kernel_rfl) (door_met os _)) ?_
  intro W base args ds gs before hval0 hW _ _ hL _
  have hval : ∀ (j : Nat) t v, Tryd.f6.params[j]? = some t → args[j]? = some v → Value.okWide Tryd.prog W .any base t v := hval0
  have hW' := hW
  obtain ⟨p, q, hA0, hV, rfl, _, _⟩ := hW
  have hA : DataW.TrodAll enc Tryd.prog W 0 (fun _ => true) true Tryd.f6.params.toList args.toList ds p := hA0
  rw [Tryd.params6] at hA hval
  obtain ⟨v0, vs0, d0, ds0, p0, q0, hargs, rfl, rfl, h0, r0⟩ := trodAll_cons hA
  obtain ⟨v1, vs1, d1, ds1, p1, q1, rfl, rfl, rfl, h1, r1⟩ := trodAll_cons r0
  obtain ⟨rfl, rfl, rfl⟩ := trodAll_nil r1
  obtain rfl : args = #[v0, v1] := by cases args; simp_all
  obtain ⟨rfl, rfl⟩ := trodVars_none hV
  obtain ⟨a0, rfl, rfl, rfl, w0⟩ := open_int Tryd.underlying5 (hval 0 5 v0 rfl rfl) h0
  obtain ⟨a1, rfl, rfl, rfl, w1⟩ := open_int Tryd.underlying5 (hval 1 5 v1 rfl rfl) h1
  clear hA0 hval0
  simp only [List.append_nil] at hW'
  obtain ⟨hT, h00⟩ := tab_of_laid hL
  refine (walk W hT h00 a0 w0 a1 w1).mono fun e W' ⟨he, hg⟩ => ?_
  subst he
  exact ⟨_, rfl, _, _, _, [], _, [], hW', (trodAll_cons_mk (shut_bool Tryd.underlying4 _) trodAll_mk0), (trodAll_cons_mk (shut_int Tryd.underlying5 w0) (trodAll_cons_mk (shut_int Tryd.underlying5 w1) trodAll_mk0)), rfl, hg.frame _, fun h => by cases h⟩

theorem over : Rows.bitsFullRow.holds Tryd.pinned (OpenSpec.ofChange Rows.bitsFullSpec) :=
  OpenClaim.holds_of_wide 6 Tryd.f6 rfl rfl rfl rfl rfl rfl rfl ⟨rfl, rfl, rfl, rfl, rfl⟩ rfl rfl rfl rfl rfl (by kernel_rfl) Tryd.func6 (by kernel_rfl)
    (of_decide_eq_true (by kernel_rfl)) (by unfold Func.isWrapper; first | (rw [if_pos (by decide +kernel)]; kernel_rfl) | (rw [if_neg (by decide +kernel)]; exact ⟨rfl, rfl⟩))
    (fun os started H enc _ => lifted os started H enc)
end Go.Proofs.YtdhodglbhfjfaaaDoor.bitsFull
namespace Go.Proofs.YtdhodglbhfjfaaaDoor
open Go
theorem bitsFull_holds : Rows.BitsFullCardSaid :=
  Claim7.holds_tied_plain_at .later [] [.data] true (true, "5e291a71a13c3398cfc2698423a671421766ed3e1958b79b578a83f7829fa2b9") false
    bitsFull.over (fun _ h => by cases h) (by kernel_rfl) (fun _ h => by cases h) bitsFull_row_tie rfl ⟨rfl, rfl⟩ (by kernel_rfl) rfl
    (fun f fn hf hfn => by
      obtain rfl : f = 6 := Option.some.inj ((show Tryd.prog.funcNamed Rows.bitsFullRow.func = some 6 by kernel_rfl).symm.trans hf) |>.symm
      obtain rfl : fn = Tryd.f6 := (Option.some.inj (Tryd.func6.symm.trans hfn)).symm
      exact ⟨by kernel_rfl, fun j t ht => by
        rw [Tryd.params6] at ht
        have hm : t ∈ [5, 5] := by simpa using Array.mem_of_getElem? ht
        have hall : ([5, 5].all fun u => !Tryd.prog.wantsStandIn u) = true := by kernel_rfl
        exact (show Tryd.prog.wantsStandIn t = false by simpa using List.all_eq_true.1 hall t hm)⟩)
    (by kernel_rfl)
end Go.Proofs.YtdhodglbhfjfaaaDoor
