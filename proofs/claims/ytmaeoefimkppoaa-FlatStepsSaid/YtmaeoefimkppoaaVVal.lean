/- Which words may stand in an object: the program's test and the chapter's, and the search for one that may not. -/
import Derived.Test.YtmaeoefimkppoaaVCp
namespace Go.Proofs.Ytmaeoefimkppoaa.Wd
open Go.ChangeShapes Go.WideShapes Go.ChangeAt Go.RowKit
set_option maxRecDepth 1000000

theorem ret_b {x y : Bool} (h : x = y) : Ending.returned (.bool x) = .returned (.bool y) := by rw [h]
set_option maxHeartbeats 400000 in
theorem valid_any (v : Int) (w : World) (h1 : -9223372036854775808 ≤ v) (h2 : v ≤ 9223372036854775807) :
    Calls Try.prog 71 #[.int .i64 v] w fun e w' => e = .returned (.bool (valB v)) ∧ w = w' := by
  have e : valB v = (numB v || namB v) := rfl
  rw [e]
  have HA := Lib.hid (number_any v · h1 h2)
  have HB := Lib.hid (named_any v · h1 h2)
  generalize numB v = p at HA
  generalize namB v = q at HB
  generalize numV v = x at HA
  generalize namV v = y at HB
  clear e
  go_enter Try.func71, Try.ntmps71
  go_wp2_with fail
  refine (HA.out _).mono ?_
  rintro e w1 ⟨rfl, rfl⟩
  go_wp2_with fail
  refine (HB.out _).mono ?_
  rintro e w1 ⟨rfl, rfl⟩
  cases p
  · go_wp2
    go_ret
    exact ⟨rfl, rfl⟩
  · go_wp2
    go_ret
    exact ⟨rfl, rfl⟩

theorem check1_any (v : Int) (w : World) (h1 : -9223372036854775808 ≤ v) (h2 : v ≤ 9223372036854775807) :
    Calls Try.prog 70 #[.int .i64 v] w fun e w' => e = .returned (.bool (!valB v)) ∧ w = w' := by
  have HA := Lib.hid (valid_any v · h1 h2)
  generalize valB v = p at HA
  go_enter Try.func70, Try.ntmps70
  go_wp2_with fail
  refine (HA.out _).mono ?_
  rintro e w1 ⟨rfl, rfl⟩
  go_wp2
  go_ret
  exact ⟨rfl, rfl⟩

theorem take_all {xs : List Int} {k : Nat} (hk : k < xs.length) (h : (xs.take k).all valB = true) (g : valB (xs.getD k 0) = true) : (xs.take (k + 1)).all valB = true := by
  rw [List.take_succ_eq_append_getElem hk, List.all_append, h]
  simp only [List.getD, List.getElem?_eq_getElem hk, Option.getD_some] at g
  simp [g]
theorem not_all {xs : List Int} {k : Nat} (hk : k < xs.length) (g : valB (xs.getD k 0) = false) : xs.all valB = false := by
  simp only [List.getD, List.getElem?_eq_getElem hk, Option.getD_some] at g
  rw [List.all_eq_false]
  exact ⟨_, List.getElem_mem hk, by simp [g]⟩
theorem I64.at_ {xs : List Int} (h : I64 xs) (k : Nat) : -9223372036854775808 ≤ xs.getD k 0 ∧ xs.getD k 0 ≤ 9223372036854775807 := by
  by_cases hk : k < xs.length
  · simp only [List.getD, List.getElem?_eq_getElem hk, Option.getD_some]; exact h _ (List.getElem_mem hk)
  · simp only [List.getD, List.getElem?_eq_none (Nat.le_of_not_lt hk), Option.getD_none]; omega

abbrev pv : Value := .func (.func 70) #[] #[]
def Idx (b : Bool) (w : World) (e : Ending) (w' : World) : Prop := ∃ i : Int, e = .returned (.int .i64 i) ∧ decide (0 ≤ i) = b ∧ -1 ≤ i ∧ w = w'

set_option maxHeartbeats 1000000 in
theorem idx_any (v : Value) (xs : List Int) (w : World) (hv : Ints w v xs) (h6 : I64 xs) (hl : xs.length ≤ 1000000) :
    Calls Try.prog 80 #[v, pv] w (Idx (!xs.all valB) w) := by
  obtain ⟨a, c, rfl, h⟩ := hv
  have H := Lib.hid h
  have H6 := Lib.hid h6
  clear h h6
  go_enter Try.func80, Try.ntmps80
  go_wp2
  go_loop [8] (fun i => ∃ k : Nat, k ≤ xs.length ∧ i = .int .i64 k ∧ (xs.take k).all valB = true) (fun i => xs.length - (intOf i).toNat)
  case atStart => exact ⟨0, by omega, rfl, rfl⟩
  case round =>
    obtain ⟨k, hk, rfl, ht⟩ := hrel
    have HT := Lib.hid ht
    clear ht
    by_cases hlt : k < xs.length
    · have hn1 : xs ≠ [] := fun e => by subst e; simp at hlt
      obtain ⟨b1, o1, rfl, q1⟩ := H.out.resolve_left hn1
      have r1 := q1 k hlt
      clear q1 hn1
      have HI := Lib.hid (H6.out.at_ k)
      cases hg : valB (xs.getD k 0) with
      | true =>
        have HG := Lib.hid hg
        have HC := Lib.hid (fun w => check1_any (xs.getD k 0) w HI.out.1 HI.out.2)
        rw [hg] at HC
        clear hg
        generalize xs.getD k 0 = z at r1 HC
        go_wp2_with fail
        refine (HC.out _).mono ?_
        rintro e w1 ⟨rfl, rfl⟩
        go_wp2
        refine ⟨⟨k + 1, by omega, by go_num, take_all hlt HT.out HG.out⟩, by simp [intOf]; omega⟩
      | false =>
        have HG := Lib.hid hg
        have HC := Lib.hid (fun w => check1_any (xs.getD k 0) w HI.out.1 HI.out.2)
        rw [hg] at HC
        clear hg
        generalize xs.getD k 0 = z at r1 HC
        go_wp2_with fail
        refine (HC.out _).mono ?_
        rintro e w1 ⟨rfl, rfl⟩
        go_wp2
        go_ret
        refine ⟨k, rfl, ?_, by omega, rfl⟩
        rw [not_all hlt HG.out]
        simp
    · obtain rfl : k = xs.length := by omega
      go_wp2
      go_ret
      refine ⟨-1, rfl, ?_, by omega, rfl⟩
      have := HT.out
      rw [List.take_length] at this
      rw [this]; rfl

set_option maxHeartbeats 400000 in
theorem contains_any (v : Value) (xs : List Int) (w : World) (hv : Ints w v xs) (h6 : I64 xs) (hl : xs.length ≤ 1000000) :
    Calls Try.prog 69 #[v, pv] w fun e w' => e = .returned (.bool (!xs.all valB)) ∧ w = w' := by
  have HC := Lib.hid (fun w hv => idx_any v xs w hv h6 hl)
  have HV := Lib.hid hv
  obtain ⟨a, c, rfl, _⟩ := hv
  generalize (!xs.all valB) = q at HC
  go_enter Try.func69, Try.ntmps69
  go_wp2_with fail
  refine (HC.out _ HV.out).mono ?_
  rintro e w1 ⟨i, rfl, hq, hi, rfl⟩
  have HQ := Lib.hid hq
  clear hq
  go_wp2
  go_ret
  exact ⟨ret_b HQ.out, rfl⟩

set_option maxHeartbeats 400000 in
theorem ref_any (v : Int) (w : World) (h1 : -9223372036854775808 ≤ v) (h2 : v ≤ 9223372036854775807) :
    Calls Try.prog 33 #[.int .i64 v] w fun e w' => e = .returned (.bool (valB v)) ∧ w = w' := by
  by_cases hp : v % 2 = 0
  · have ht := tmod2_even hp
    have hv : ∀ b : Bool, (b = true ↔ 0 < v ∧ v < 2147483648) → b = valB v := fun b hb => by
      rw [Bool.eq_iff_iff, hb]
      simp only [valB, numB, namB, Bool.or_eq_true, decide_eq_true_eq]
      omega
    have HV := Lib.hid hv
    clear hv
    go_enter Try.func33, Try.ntmps33
    go_wp2
    all_goals go_ret
    all_goals exact ⟨ret_b (HV.out _ (by simp <;> omega)), rfl⟩
  · have ht := tmod2_neq (o := v) (by omega)
    have ht2 := tmod2_odd (o := v) (by omega)
    have hv : ∀ b : Bool, (b = true ↔ -2147483647 ≤ v ∧ v ≤ 2147483647) → b = valB v := fun b hb => by
      rw [Bool.eq_iff_iff, hb]
      simp only [valB, numB, namB, Bool.or_eq_true, decide_eq_true_eq]
      omega
    have HV := Lib.hid hv
    clear hv
    go_enter Try.func33, Try.ntmps33
    go_wp2
    all_goals go_ret
    all_goals exact ⟨ret_b (HV.out _ (by simp <;> omega)), rfl⟩
end Go.Proofs.Ytmaeoefimkppoaa.Wd
