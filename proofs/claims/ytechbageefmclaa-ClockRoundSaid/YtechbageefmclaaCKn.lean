/- The laws' functions known and done; calls on a clock of a law's own. No condition but those that each statement names. -/
import Derived.Test.YtechbageefmclaaCNw
namespace Go.Proofs.Ytechbageefmclaa
set_option maxRecDepth 1000000
open Go.ChangeShapes Go.WideShapes Go.ChangeAt Go.RowKit

/-- A call on a clock of a law's own: what it tells, and the clock then. -/
def BPost (W0 : World) (u : Value) (c : Ck) (n : Nat) (E' : Nat → El) (h' : Nat) (e : Ending) (w' : World) : Prop := e = .returned u ∧ ClkB W0 w' c n E' h'
section
variable {W0 w w' : World} {c : Ck} {n h h' : Nat} {E E' : Nat → El} {u : Value}
theorem in_b (k : Nat) (on : Bool) (hk : k < n) (a : ClkB W0 w c n E h) : Calls Try.prog 14 #[.pointer (some ⟨c.t, 0, none⟩), .int .i64 k, .bool on] w (BPost W0 (.int .i64 0) c n (upd E k ⟨false, false, on⟩) h) :=
  (in_yes k on hk a.is).mono fun _ _ p => ⟨(a.post p).1, (a.post p).2.1⟩
theorem in_bn (i : Int) (on : Bool) (hi : i < 0 ∨ (n : Int) ≤ i) (a : ClkB W0 w c n E h) : Calls Try.prog 14 #[.pointer (some ⟨c.t, 0, none⟩), .int .i64 i, .bool on] w (BPost W0 (.int .i64 4) c n E h) :=
  (in_no i on hi a.is).mono fun _ _ p => ⟨(a.post p).1, (a.post p).2.1⟩
theorem pin_b (k : Nat) (on : Bool) (hk : k < n) (hi : (E k).i = true) (a : ClkB W0 w c n E h) : Calls Try.prog 16 #[.pointer (some ⟨c.t, 0, none⟩), .int .i64 k, .bool on] w (BPost W0 (.int .i64 0) c n (pnd E k on) h) :=
  (pin_yes k on a.is hk hi).mono fun _ _ p => ⟨(a.post p).1, (a.post p).2.1⟩
theorem pin_bn (i : Int) (on : Bool) (hi : (isOf n E i).i = false) (a : ClkB W0 w c n E h) : Calls Try.prog 16 #[.pointer (some ⟨c.t, 0, none⟩), .int .i64 i, .bool on] w (BPost W0 (.int .i64 4) c n E h) :=
  (pin_no i on a.is hi).mono fun _ _ p => ⟨(a.post p).1, (a.post p).2.1⟩
theorem touch_b (k : Nat) (hk : k < n) (hi : (E k).i = true) (a : ClkB W0 w c n E h) :
    Calls Try.prog 15 #[.pointer (some ⟨c.t, 0, none⟩), .slice (some ⟨w.heap.size, 0, none⟩) 1 1] (w.alloc (.cells #[.int .i64 (k : Int)] 3)) (BPost W0 (.int .i64 0) c n (tch E k) h) := by
  have a1 := a.fresh ((Below.refl w.heap.size w).alloc (Nat.le_refl _) (.cells #[.int .i64 (k : Int)] 3))
  have := touch_yes _ [(k : Int)] a1.is (one_ints w k) (fun b hb hC => by have := a.is.ltF b hC; omega) (by simp) (fun x hx => by rw [List.mem_singleton] at hx; rw [hx, is_in hk, hi])
  exact this.mono fun _ _ p => ⟨(a1.post p).1, (a1.post p).2.1⟩
theorem touch_bn (i : Int) (hi : (isOf n E i).i = false) (a : ClkB W0 w c n E h) :
    Calls Try.prog 15 #[.pointer (some ⟨c.t, 0, none⟩), .slice (some ⟨w.heap.size, 0, none⟩) 1 1] (w.alloc (.cells #[.int .i64 i] 3)) (BPost W0 (.int .i64 4) c n E h) := by
  have a1 := a.fresh ((Below.refl w.heap.size w).alloc (Nat.le_refl _) (.cells #[.int .i64 i] 3))
  exact (touch_no _ [i] a1.is (one_ints w i) (by simp) ⟨i, by simp, hi⟩).mono fun _ _ p => ⟨(a1.post p).1, (a1.post p).2.1⟩
theorem touch_bn2 (i k : Int) (hk : (isOf n E k).i = false) (a : ClkB W0 w c n E h) :
    Calls Try.prog 15 #[.pointer (some ⟨c.t, 0, none⟩), .slice (some ⟨w.heap.size, 0, none⟩) 2 2] (w.alloc (.cells #[.int .i64 i, .int .i64 k] 3)) (BPost W0 (.int .i64 4) c n E h) := by
  have a1 := a.fresh ((Below.refl w.heap.size w).alloc (Nat.le_refl _) (.cells #[.int .i64 i, .int .i64 k] 3))
  exact (touch_no _ [i, k] a1.is (two_ints w i k) (by simp) ⟨k, by simp, hk⟩).mono fun _ _ p => ⟨(a1.post p).1, (a1.post p).2.1⟩
theorem victim_b (r : Option Nat) (h' : Nat) (hv : vic n (2 * n) E h = (r, E', h')) (a : ClkB W0 w c n E h) : Calls Try.prog 13 #[.pointer (some ⟨c.t, 0, none⟩)] w (BPost W0 (vicV r) c n E' h') :=
  (victim_at r h' a.is hv).mono fun _ _ p => ⟨(a.post p).1, (a.post p).2.1⟩

/-! Whatever is asked. -/
/-- Some number is told, and there is a clock. -/
def Some1 (W0 : World) (c : Ck) (n : Nat) (e : Ending) (w' : World) : Prop := ∃ (t : Int) (E' : Nat → El) (h' : Nat), e = .returned (.int .i64 t) ∧ ClkB W0 w' c n E' h'
theorem in_any (i : Int) (on : Bool) (a : ClkB W0 w c n E h) : Calls Try.prog 14 #[.pointer (some ⟨c.t, 0, none⟩), .int .i64 i, .bool on] w (Some1 W0 c n) := by
  by_cases hi : i < 0 ∨ (n : Int) ≤ i
  · exact (in_bn i on hi a).mono fun _ _ p => ⟨_, _, _, p.1, p.2⟩
  · obtain ⟨k, rfl⟩ := Int.eq_ofNat_of_zero_le (by omega : 0 ≤ i)
    exact (in_b k on (by omega) a).mono fun _ _ p => ⟨_, _, _, p.1, p.2⟩
theorem pin_any (i : Int) (on : Bool) (a : ClkB W0 w c n E h) : Calls Try.prog 16 #[.pointer (some ⟨c.t, 0, none⟩), .int .i64 i, .bool on] w (Some1 W0 c n) := by
  cases hi : (isOf n E i).i with
  | false => exact (pin_bn i on hi a).mono fun _ _ p => ⟨_, _, _, p.1, p.2⟩
  | true =>
    obtain ⟨k, rfl, hk, hki⟩ := is_bound hi
    exact (pin_b k on hk hki a).mono fun _ _ p => ⟨_, _, _, p.1, p.2⟩
theorem touch_any (i : Int) (a : ClkB W0 w c n E h) : Calls Try.prog 15 #[.pointer (some ⟨c.t, 0, none⟩), .slice (some ⟨w.heap.size, 0, none⟩) 1 1] (w.alloc (.cells #[.int .i64 i] 3)) (Some1 W0 c n) := by
  cases hi : (isOf n E i).i with
  | false => exact (touch_bn i hi a).mono fun _ _ p => ⟨_, _, _, p.1, p.2⟩
  | true =>
    obtain ⟨k, rfl, hk, hki⟩ := is_bound hi
    exact (touch_b k hk hki a).mono fun _ _ p => ⟨_, _, _, p.1, p.2⟩
theorem victim_any (a : ClkB W0 w c n E h) : Calls Try.prog 13 #[.pointer (some ⟨c.t, 0, none⟩)] w fun e w' => ∃ (z : Int) (b : Bool) (E' : Nat → El) (h' : Nat), e = .returned (.tuple #[.int .i64 z, .bool b]) ∧ ClkB W0 w' c n E' h' := by
  obtain ⟨r, E', h', hv⟩ : ∃ r E' h', vic n (2 * n) E h = (r, E', h') := ⟨_, _, _, rfl⟩
  exact (victim_b r h' hv a).mono fun _ _ p => ⟨_, _, _, _, p.1, p.2⟩
/-- done, whatever is to be done. -/
def DonePost (W0 : World) (c : Ck) (n : Nat) (e : Ending) (w' : World) : Prop := ∃ (x : Int) (b : Bool) (t : Int) (E' : Nat → El) (h' : Nat), e = .returned (.tuple #[.int .i64 x, .bool b, .int .i64 t]) ∧ ClkB W0 w' c n E' h'
set_option maxHeartbeats 2000000 in
theorem done_any (q i : Int) (a : ClkB W0 w c n E h) : Calls Try.prog 10 #[.pointer (some ⟨c.t, 0, none⟩), .agg #[.int .i64 q, .int .i64 i]] w (DonePost W0 c n) := by
  have a1 := a.fresh ((Below.refl w.heap.size w).alloc (Nat.le_refl _) (.cells #[.int .i64 q, .int .i64 i] 31))
  have HI := Lib.hid (fun on => in_any i on a1)
  have HP := Lib.hid (fun on => pin_any i on a1)
  have hT := touch_any i a1
  rw [show (w.alloc (.cells #[.int .i64 q, .int .i64 i] 31)).heap.size = w.heap.size + 1 by simp] at hT
  have HT := Lib.hid hT
  have HV := Lib.hid (victim_any a1)
  clear a a1 hT
  by_cases h1 : q = 1
  · subst h1
    go_enter Try.func10, Try.ntmps10
    go_wp2_with fail
    refine (HI.out true).mono ?_
    rintro e w1 ⟨t, E1, h1, rfl, a2⟩
    have H2 := Lib.hid a2
    clear a2
    go_wp2_with fail
    go_ret3
    exact ⟨_, _, _, _, _, rfl, H2.out⟩
  have d1 : (q == 1) = false := by simpa using h1
  clear h1
  by_cases h2 : q = 2
  · subst h2
    go_enter Try.func10, Try.ntmps10
    go_wp2_with fail
    refine (HI.out false).mono ?_
    rintro e w1 ⟨t, E1, h1, rfl, a2⟩
    have H2 := Lib.hid a2
    clear a2
    go_wp2_with fail
    go_ret3
    exact ⟨_, _, _, _, _, rfl, H2.out⟩
  have d2 : (q == 2) = false := by simpa using h2
  clear h2
  by_cases h3 : q = 3
  · subst h3
    go_enter Try.func10, Try.ntmps10
    go_wp2_with fail
    refine HT.out.mono ?_
    rintro e w1 ⟨t, E1, h1, rfl, a2⟩
    have H2 := Lib.hid a2
    clear a2
    go_wp2_with fail
    go_ret3
    exact ⟨_, _, _, _, _, rfl, H2.out⟩
  have d3 : (q == 3) = false := by simpa using h3
  clear h3
  by_cases h4 : q = 4
  · subst h4
    go_enter Try.func10, Try.ntmps10
    go_wp2_with fail
    refine (HP.out true).mono ?_
    rintro e w1 ⟨t, E1, h1, rfl, a2⟩
    have H2 := Lib.hid a2
    clear a2
    go_wp2_with fail
    go_ret3
    exact ⟨_, _, _, _, _, rfl, H2.out⟩
  have d4 : (q == 4) = false := by simpa using h4
  clear h4
  by_cases h5 : q = 5
  · subst h5
    go_enter Try.func10, Try.ntmps10
    go_wp2_with fail
    refine (HP.out false).mono ?_
    rintro e w1 ⟨t, E1, h1, rfl, a2⟩
    have H2 := Lib.hid a2
    clear a2
    go_wp2_with fail
    go_ret3
    exact ⟨_, _, _, _, _, rfl, H2.out⟩
  have d5 : (q == 5) = false := by simpa using h5
  clear h5
  go_enter Try.func10, Try.ntmps10
  go_wp2_with fail
  refine HV.out.mono ?_
  rintro e w1 ⟨z, b, E1, h1, rfl, a2⟩
  have H2 := Lib.hid a2
  clear a2
  go_wp2_with fail
  go_ret3
  exact ⟨_, _, _, _, _, rfl, H2.out⟩
end

/-! The example. -/
/-- The first i are present. -/
def inI (i : Nat) : Nat → El := fun j => ⟨false, false, decide (j < i)⟩
theorem inI_zero : inI 0 = E0 := by funext j; unfold inI E0; rw [decide_eq_false (by omega)]
theorem inI_succ (i : Nat) : upd (inI i) i ⟨false, false, true⟩ = inI (i + 1) := by
  funext j
  by_cases hj : j = i
  · subst hj; rw [upd_at]; unfold inI; rw [decide_eq_true (by omega)]
  · rw [upd_ne _ _ hj]; unfold inI
    congr 1
    exact decide_eq_decide.2 (by omega)
theorem inI_in {i j : Nat} (h : j < i) : inI i j = ⟨false, false, true⟩ := by unfold inI; rw [decide_eq_true h]
/-- One more is present. -/
theorem in_next {W0 w : World} {c : Ck} {n h i : Nat} (hi : i < n) (a : ClkB W0 w c n (inI i) h) : Calls Try.prog 14 #[.pointer (some ⟨c.t, 0, none⟩), .int .i64 i, .bool true] w (BPost W0 (.int .i64 0) c n (inI (i + 1)) h) := by
  have := in_b i true hi a
  rwa [inI_succ] at this
def kA : Nat → El := tch (inI 3) 0
def kB : Nat → El := look kA 0
theorem k1 : vic 3 (2 * 3) kA 0 = (some 1, kB, 2) := rfl
theorem k2 : vic 3 (2 * 3) kB 2 = (some 2, kB, 0) := rfl
theorem k3 : vic 3 (2 * 3) kB 0 = (some 0, kB, 1) := rfl
set_option maxHeartbeats 2000000 in
theorem known_any (w : World) : Calls Try.prog 8 #[] w fun e w' => e = .returned (.bool true) ∧ Below w.heap.size w w' := by
  have HN : Hid (Calls Try.prog 9 #[.int .i64 3] w (NewPost 3 w)) := Lib.hid (new_yes 3 w (by omega))
  have HI : Hid (∀ (c : Ck) (w1 : World) (i : Nat), i < 3 → ClkB w w1 c 3 (inI i) 0 → Calls Try.prog 14 #[.pointer (some ⟨c.t, 0, none⟩), .int .i64 i, .bool true] w1 (BPost w (.int .i64 0) c 3 (inI (i + 1)) 0)) := Lib.hid fun c w1 i hi a => in_next hi a
  have HT : Hid (∀ (c : Ck) (w1 : World), ClkB w w1 c 3 (inI 3) 0 → Calls Try.prog 15 #[.pointer (some ⟨c.t, 0, none⟩), .slice (some ⟨w1.heap.size, 0, none⟩) 1 1] (w1.alloc (.cells #[.int .i64 0] 3)) (BPost w (.int .i64 0) c 3 kA 0)) := Lib.hid fun c w1 a => touch_b 0 (by omega) rfl a
  have HV1 : Hid (∀ (c : Ck) (w1 : World), ClkB w w1 c 3 kA 0 → Calls Try.prog 13 #[.pointer (some ⟨c.t, 0, none⟩)] w1 (BPost w (.tuple #[.int .i64 1, .bool true]) c 3 kB 2)) := Lib.hid fun c w1 a => victim_b _ _ k1 a
  have HV2 : Hid (∀ (c : Ck) (w1 : World), ClkB w w1 c 3 kB 2 → Calls Try.prog 13 #[.pointer (some ⟨c.t, 0, none⟩)] w1 (BPost w (.tuple #[.int .i64 2, .bool true]) c 3 kB 0)) := Lib.hid fun c w1 a => victim_b _ _ k2 a
  have HV3 : Hid (∀ (c : Ck) (w1 : World), ClkB w w1 c 3 kB 0 → Calls Try.prog 13 #[.pointer (some ⟨c.t, 0, none⟩)] w1 (BPost w (.tuple #[.int .i64 0, .bool true]) c 3 kB 1)) := Lib.hid fun c w1 a => victim_b _ _ k3 a
  have HP : Hid (∀ w1, Calls Try.prog 16 #[.pointer none, .int .i64 0, .bool true] w1 fun e w' => e = .returned (.int .i64 1) ∧ Below w1.heap.size w1 w') := Lib.hid fun w1 => pin_nil 0 true w1
  have HT2 : Hid (∀ (c : Ck) (w1 : World), ClkB w w1 c 3 kB 1 → Calls Try.prog 15 #[.pointer (some ⟨c.t, 0, none⟩), .slice (some ⟨w1.heap.size, 0, none⟩) 2 2] (w1.alloc (.cells #[.int .i64 0, .int .i64 3] 3)) (BPost w (.int .i64 4) c 3 kB 1)) := Lib.hid fun c w1 a => touch_bn2 0 3 rfl a
  go_enter Try.func8, Try.ntmps8
  go_wp2_with fail
  refine HN.out.mono ?_
  rintro e w1 ⟨c, rfl, a1⟩
  have H1 : Hid (ClkB w w1 c 3 (inI 0) 0) := by rw [inI_zero]; exact a1
  clear a1 HN
  go_wp2_with fail
  go_loopw [3] (fun s3 wr => ∃ i : Nat, i ≤ 3 ∧ s3 = .int .i64 i ∧ Hid (ClkB w wr c 3 (inI i) 0)) (fun s3 _ => 3 - (intOf s3).toNat)
  case atStart => exact ⟨0, by omega, rfl, H1⟩
  case round =>
    clear H1
    obtain ⟨i, hi, rfl, H1⟩ := hrel
    by_cases hlt : i < 3
    · have hlt' : (i : Int) < 3 := by omega
      go_wp2_with fail
      refine (HI.out c wr i hlt H1.out).mono ?_
      rintro e w2 ⟨rfl, a2⟩
      have H2 := Lib.hid a2
      clear a2 H1
      go_wp2_with fail
      go_roundw
      case rel => exact ⟨i + 1, by omega, by go_num, H2⟩
      case measure => simp [intOf]; omega
    · obtain rfl : i = 3 := by omega
      go_wp2_with fail
      refine (HT.out c wr H1.out).mono ?_
      rintro e w2 ⟨rfl, a2⟩
      have H2 := Lib.hid a2
      clear a2 H1
      go_wp2_with fail
      refine (HV1.out c w2 H2.out).mono ?_
      rintro e w3 ⟨rfl, a3⟩
      have H3 := Lib.hid a3
      clear a3 H2
      go_wp2_with fail
      refine (HV2.out c w3 H3.out).mono ?_
      rintro e w4 ⟨rfl, a4⟩
      have H4 := Lib.hid a4
      clear a4 H3
      go_wp2_with fail
      refine (HV3.out c w4 H4.out).mono ?_
      rintro e w5 ⟨rfl, a5⟩
      have H5 := Lib.hid a5
      clear a5 H4
      go_wp2_with fail
      refine (HP.out _).mono ?_
      rintro e w6 ⟨rfl, b6⟩
      have H6 := Lib.hid (H5.out.fresh b6)
      clear b6 H5
      go_wp2_with fail
      refine (HT2.out c w6 H6.out).mono ?_
      rintro e w7 ⟨rfl, a7⟩
      have H7 := Lib.hid a7
      clear a7 H6
      go_wp2_with fail
      go_ret
      exact ⟨rfl, H7.out.bl⟩
end Go.Proofs.Ytechbageefmclaa
