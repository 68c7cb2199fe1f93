/- What the functions Touch, Pin, Victim of package clock do. No condition but those that each statement names. -/
import Derived.Test.YtechbageefmclaaCOp
namespace Go.Proofs.Ytechbageefmclaa
set_option maxRecDepth 1000000
open Go.ChangeShapes Go.WideShapes Go.ChangeAt Go.RowKit

theorem one_ints (w : World) (i : Int) : Ints (· = w.heap.size) (w.alloc (.cells #[.int .i64 i] 3)) (.slice (some ⟨w.heap.size, 0, none⟩) 1 1) [i] := by
  refine ⟨_, 1, rfl, by simp, .inr ⟨w.heap.size, 0, rfl, rfl, fun j u hu => ?_⟩⟩
  match j, hu with
  | 0, hu => simp at hu; subst hu; rw [World.cell?_alloc_at _ _ _ _ rfl]; rfl
  | j + 1, hu => simp at hu
theorem two_ints (w : World) (i k : Int) : Ints (· = w.heap.size) (w.alloc (.cells #[.int .i64 i, .int .i64 k] 3)) (.slice (some ⟨w.heap.size, 0, none⟩) 2 2) [i, k] := by
  refine ⟨_, 2, rfl, by simp, .inr ⟨w.heap.size, 0, rfl, rfl, fun j u hu => ?_⟩⟩
  match j, hu with
  | 0, hu => simp at hu; subst hu; rw [World.cell?_alloc_at _ _ _ _ rfl]; rfl
  | 1, hu => simp at hu; subst hu; rw [World.cell?_alloc_at _ _ _ _ rfl]; rfl
  | j + 2, hu => simp at hu
/-- The elements with the numbers l, touched. -/
def tchs (E : Nat → El) (l : List Int) (k : Nat) : Nat → El := (l.take k).foldl (fun E x => tch E x.toNat) E
theorem tchs_zero (E : Nat → El) (l : List Int) : tchs E l 0 = E := rfl
theorem tchs_succ (E : Nat → El) (l : List Int) {k : Nat} (hk : k < l.length) : tchs E l (k + 1) = tch (tchs E l k) (l.getD k 0).toNat := by
  unfold tchs
  rw [List.take_add_one, List.getElem?_eq_getElem hk, List.foldl_append, List.getD, List.getElem?_eq_getElem hk]; rfl
section
variable {w w' : World} {c : Ck} {n h : Nat} {E E' : Nat → El} {F N : Nat → Prop}
set_option maxHeartbeats 2000000 in
theorem touch_yes (v : Value) (l : List Int) (a : ClkAt w c n E h) (hv : Ints N w v l) (hN : ∀ b, N b → ¬ CF c b) (hl : l.length ≤ 3000000000000) (hy : ∀ x ∈ l, (isOf n E x).i = true) :
    Calls Try.prog 15 #[.pointer (some ⟨c.t, 0, none⟩), v] w (ClkPost (.int .i64 0) c n (tchs E l l.length) h w) := by
  have HC := Lib.hid (check_yes v l a hv hl hy)
  obtain ⟨p, q, rfl, hc, _⟩ := ints_form hv
  have HV := Lib.hid hv
  have HA := Lib.hid a
  have HN := Lib.hid hN
  have HY : Hid (∀ k, k < l.length → ∃ j : Nat, l.getD k 0 = (j : Int) ∧ j < n ∧ (E j).i = true) := Lib.hid fun k hk => is_bound (hy _ (getD_mem hk))
  clear a hv hy hN
  go_enter Try.func15, Try.ntmps15
  go_wp2_with fail
  refine HC.out.mono ?_
  rintro e w1 ⟨rfl, rfl⟩
  go_wp2_with fail
  go_loopw [16] (fun s16 wr => ∃ k : Nat, k ≤ l.length ∧ s16 = .int .i64 k ∧ Hid (ClkAt wr c n (tchs E l k) h ∧ Only (CF c) w wr)) (fun s16 _ => l.length - (intOf s16).toNat)
  case atStart => exact ⟨0, Nat.zero_le _, rfl, Lib.hid ⟨HA.out, Only.refl _ _⟩⟩
  case round =>
    obtain ⟨k, hk, rfl, HK⟩ := hrel
    by_cases hlt : k < l.length
    · obtain ⟨p', q', he, _, hvk⟩ := ints_form (Ints.only HV.out HK.out.2 HN.out)
      obtain ⟨b, off, hp, cx⟩ := hvk k hlt
      obtain ⟨j, hj, hjn, hji⟩ := HY.out k hlt
      simp only [Value.slice.injEq] at he
      obtain ⟨rfl, _, rfl⟩ := he
      subst hp
      have HS := Lib.hid (tchs_succ E l hlt)
      rw [hj] at cx HS
      have hf := find_any (j : Int) HK.out.1
      rw [place_in hjn] at hf
      have HF := Lib.hid hf
      have HT := Lib.hid (touch_one j hjn HK.out.1)
      have hlt' : (k : Int) < l.length := by omega
      have HO := Lib.hid HK.out.2
      clear hf hj hji HK
      go_wp2_with fail
      refine HF.out.mono ?_
      rintro e w1 ⟨rfl, rfl⟩
      go_wp2_with fail
      refine HT.out.mono ?_
      rintro e w2 ⟨rfl, a2, o2⟩
      have HK2 : Hid (ClkAt w2 c n (tchs E l (k + 1)) h ∧ Only (CF c) w w2) := ⟨by rw [HS.out]; exact a2, HO.out.trans o2⟩
      clear a2 o2
      go_wp2_with fail
      go_roundw
      case rel => exact ⟨k + 1, by omega, by go_num, HK2⟩
      case measure => simp [intOf]; omega
    · obtain rfl : k = l.length := by omega
      go_wp2_with fail
      go_ret
      exact ⟨rfl, HK.out.1, HK.out.2⟩
theorem touch_no (v : Value) (l : List Int) (a : ClkAt w c n E h) (hv : Ints N w v l) (hl : l.length ≤ 3000000000000) (hy : ∃ x ∈ l, (isOf n E x).i = false) :
    Calls Try.prog 15 #[.pointer (some ⟨c.t, 0, none⟩), v] w (ClkPost (.int .i64 4) c n E h w) := by
  have HC := Lib.hid (check_no v l a hv hl hy)
  have HA := Lib.hid a
  obtain ⟨p, q, rfl, hc, _⟩ := ints_form hv
  clear a hv hy
  go_enter Try.func15, Try.ntmps15
  go_wp2_with fail
  refine HC.out.mono ?_
  rintro e w1 ⟨rfl, rfl⟩
  go_wp2_with fail
  go_ret
  exact ⟨rfl, HA.out, Only.refl _ _⟩
/-- Pin, of an element that is present. -/
theorem pin_yes (k : Nat) (on : Bool) (a : ClkAt w c n E h) (hk : k < n) (hi : (E k).i = true) : Calls Try.prog 16 #[.pointer (some ⟨c.t, 0, none⟩), .int .i64 k, .bool on] w (ClkPost (.int .i64 0) c n (pnd E k on) h w) := by
  have b1 := (Below.refl w.heap.size w).alloc (Nat.le_refl _) (.cells #[.int .i64 (k : Int)] 3)
  have a1 := a.fresh b1
  have HC : Hid (Calls Try.prog 20 #[.pointer (some ⟨c.t, 0, none⟩), .slice (some ⟨w.heap.size, 0, none⟩) 1 1] (w.alloc (.cells #[.int .i64 (k : Int)] 3)) (Told (.int .i64 0) (w.alloc (.cells #[.int .i64 (k : Int)] 3)))) :=
    Lib.hid (check_yes _ [(k : Int)] a1 (one_ints w k) (by simp) (fun x hx => by rw [List.mem_singleton] at hx; rw [hx, is_in hk, hi]))
  have hf := find_any (k : Int) a1
  rw [place_in hk] at hf
  have HF := Lib.hid hf
  have HP := Lib.hid (pin_one k on hk a1)
  have HB : Hid (Only (CF c) w (w.alloc (.cells #[.int .i64 (k : Int)] 3))) := Lib.hid (Only.of_below b1)
  clear hf a a1 b1 hk hi
  go_enter Try.func16, Try.ntmps16
  go_wp2_with fail
  refine HC.out.mono ?_
  rintro e w1 ⟨rfl, rfl⟩
  go_wp2_with fail
  refine HF.out.mono ?_
  rintro e w1 ⟨rfl, rfl⟩
  go_wp2_with fail
  refine HP.out.mono ?_
  rintro e w2 ⟨rfl, a2, o2⟩
  have H2 : Hid (ClkAt w2 c n (pnd E k on) h ∧ Only (CF c) w w2) := ⟨a2, HB.out.trans o2⟩
  clear a2 o2
  go_wp2_with fail
  go_ret
  exact ⟨rfl, H2.out.1, H2.out.2⟩
theorem pin_no (i : Int) (on : Bool) (a : ClkAt w c n E h) (hi : (isOf n E i).i = false) : Calls Try.prog 16 #[.pointer (some ⟨c.t, 0, none⟩), .int .i64 i, .bool on] w (ClkPost (.int .i64 4) c n E h w) := by
  have b1 := (Below.refl w.heap.size w).alloc (Nat.le_refl _) (.cells #[.int .i64 i] 3)
  have a1 := a.fresh b1
  have HC : Hid (Calls Try.prog 20 #[.pointer (some ⟨c.t, 0, none⟩), .slice (some ⟨w.heap.size, 0, none⟩) 1 1] (w.alloc (.cells #[.int .i64 i] 3)) (Told (.int .i64 4) (w.alloc (.cells #[.int .i64 i] 3)))) :=
    Lib.hid (check_no _ [i] a1 (one_ints w i) (by simp) ⟨i, by simp, hi⟩)
  have HB : Hid (Only (CF c) w (w.alloc (.cells #[.int .i64 i] 3))) := Lib.hid (Only.of_below b1)
  have HA := Lib.hid a1
  clear a a1 b1 hi
  go_enter Try.func16, Try.ntmps16
  go_wp2_with fail
  refine HC.out.mono ?_
  rintro e w1 ⟨rfl, rfl⟩
  go_wp2_with fail
  go_ret
  exact ⟨rfl, HA.out, HB.out⟩
theorem pin_nil (i : Int) (on : Bool) (w : World) : Calls Try.prog 16 #[.pointer none, .int .i64 i, .bool on] w fun e w' => e = .returned (.int .i64 1) ∧ Below w.heap.size w w' := by
  have HC := Lib.hid (fun v w1 => check_nil v w1)
  have HB := Lib.hid ((Below.refl w.heap.size w).alloc (Nat.le_refl _) (.cells #[.int .i64 i] 3))
  go_enter Try.func16, Try.ntmps16
  go_wp2_with fail
  refine (HC.out _ _).mono ?_
  rintro e w1 ⟨rfl, rfl⟩
  go_wp2_with fail
  go_ret
  exact ⟨rfl, HB.out⟩
end
end Go.Proofs.Ytechbageefmclaa
