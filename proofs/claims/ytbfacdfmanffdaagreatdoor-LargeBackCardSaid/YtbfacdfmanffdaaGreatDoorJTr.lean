/- Package large's trim and Right: noughts at the end; is it one. -/
import Derived.Test.YtbfacdfmanffdaaGreatDoorJPa
namespace Go.Proofs.YtbfacdfmanffdaaGreatDoor
set_option maxRecDepth 1000000
open Go.ChangeShapes Go.WideShapes Go.ChangeAt Go.RowKit

set_option maxHeartbeats 4000000 in
theorem trim_code {N : Nat → Prop} (v : Value) (bs : List Int) (w : World) (hv : Bts N w v bs) (hb : Bytes bs) (hl : bs.length ≤ 1000000000000) :
    Calls Tryz.prog 38 #[v] w fun e w' => ∃ a k c, v = .slice a bs.length c ∧ e = .returned (.slice a k c) ∧ k ≤ bs.length ∧ bs.take k = dig (val bs).toNat ∧ w = w' := by
  have HB := Lib.hid hb
  have HV := Lib.hid hv
  obtain ⟨ln, hln⟩ : ∃ n, bs.length = n := ⟨_, rfl⟩
  have HL := Lib.hid hln
  obtain ⟨va, c, rfl, hc⟩ := Bts.form hv
  have HC : Hid (0 < ln → ∃ b off, va = some ⟨b, off, none⟩ ∧ ∀ i, i < ln → w.cell? ⟨b, off + i, none⟩ = some (.int .u8 (dgt bs i))) := Lib.hid fun h => by
    obtain ⟨b, off, c', he, _, _, _, h'⟩ := bts_cells hv (by omega)
    injection he with e1 _ _
    exact ⟨b, off, e1, fun i hi => h' i (by omega)⟩
  rw [hln] at hl hc ⊢
  clear hv hb hln HV
  go_enter Tryz.func38, Tryz.ntmps38
  go_wp2_with fail
  go_step3
  go_wp2_with fail
  go_step3
  go_wp2_with fail
  go_loopw [3] (fun s3 wr => ∃ k : Nat, k ≤ ln ∧ s3 = .int .i64 k ∧ Hid (val (bs.take k) = val bs) ∧ wr = w) (fun s3 _ => (RowKit.intOf s3).toNat)
  case atStart => exact ⟨ln, Nat.le_refl _, rfl, Lib.hid (by rw [List.take_of_length_le (by rw [HL.out]; exact Nat.le_refl _)]), rfl⟩
  case round =>
    obtain ⟨k, hk, rfl, HK, hwr⟩ := hrel
    subst hwr
    cases k with
    | zero =>
      have HF : Hid (bs.take 0 = dig (val bs).toNat) := Lib.hid (by
        have := HK.out
        rw [← this]
        show [] = dig (0 : Int).toNat
        simp [dig_zero])
      clear HK HC
      go_wp2_with fail
      (try rw [Exit.noGoto_ret])
      go_ret
      exact ⟨va, 0, c, rfl, rfl, Nat.zero_le _, HF.out, rfl⟩
    | succ j =>
      obtain ⟨b, off, rfl, hcell⟩ := HC.out (by omega)
      have q := hcell j (by omega)
      have hlt : j < bs.length := by rw [HL.out]; omega
      have hcj : j + 1 ≤ c := by omega
      by_cases h0 : dgt bs j = 0
      · rw [h0] at q
        have HK' : Hid (val (bs.take j) = val bs) := Lib.hid ((val_take_less hlt h0).trans HK.out)
        clear HK HC hcell hlt h0
        go_wp2_with fail
        exact ⟨⟨j, by omega, rfl, HK', by trivial⟩, by simp [RowKit.intOf] <;> omega⟩
      · have f1 : (dgt bs j == 0) = false := by simpa using h0
        have HF : Hid (bs.take (j + 1) = dig (val bs).toNat) := Lib.hid (by
          rw [← HK.out]
          exact (dig_val (take_bytes HB.out _) (bare_take HB.out hlt h0)).symm)
        clear HK HC hcell hlt h0
        go_wp2_with fail
        (try rw [Exit.noGoto_ret])
        go_ret
        exact ⟨_, j + 1, c, rfl, rfl, hk, HF.out, rfl⟩
set_option maxHeartbeats 2000000 in
theorem right_is {N : Nat → Prop} (v : Value) (bs : List Int) (w : World) (hv : Bts N w v bs) (hl : bs.length ≤ 1000000000000) :
    Calls Tryz.prog 16 #[v] w fun e w' => e = .returned (.bool (rightB bs)) ∧ w = w' := by
  have HV := Lib.hid hv
  obtain ⟨va, c, rfl, hc⟩ := Bts.form hv
  unfold rightB
  cases hbs : bs with
  | nil =>
    subst hbs
    clear hv HV
    go_enter Tryz.func16, Tryz.ntmps16
    go_wp2_with fail
    go_ret
    exact ⟨rfl, rfl⟩
  | cons x xs =>
    obtain ⟨ln, hln⟩ : ∃ n, bs.length = n := ⟨_, rfl⟩
    have h0 : 0 < ln := by rw [← hln, hbs]; simp
    obtain ⟨b, off, c', he, _, _, _, hcell⟩ := bts_cells hv (by omega)
    injection he with e1 _ _
    subst e1
    have q := hcell (ln - 1) (by omega)
    rw [← hbs, hln]
    rw [hln] at hl hc
    obtain ⟨z, hz⟩ : ∃ z, dgt bs (ln - 1) = z := ⟨_, rfl⟩
    rw [hz] at q ⊢
    have hne : bs ≠ [] := by rw [hbs]; simp
    clear hv HV hcell hbs
    have f0 : ((ln : Int) == 0) = false := by rw [beq_eq_false_iff_ne]; omega
    obtain ⟨r, hr⟩ : ∃ r : Bool, decide (bs = [] ∨ (ln ≤ 400 ∧ z ≠ 0)) = r := ⟨_, rfl⟩
    rw [hr]
    have hq : ((ln : Int) - 1) = ((ln - 1 : Nat) : Int) := by omega
    by_cases h4 : ln ≤ 400
    · have d1 : decide ((ln : Int) ≤ 400) = true := by simp; omega
      have d2 : decide (ln ≤ 400) = true := by simpa using h4
      by_cases hz0 : z = 0
      · have e : r = false := by rw [← hr]; simp [hz0, hne]
        subst e
        have f1 : (z == 0) = true := by simpa using hz0
        have f2 : (z != 0) = false := by simp [hz0]
        clear hr hne hln
        go_enter Tryz.func16, Tryz.ntmps16
        go_wp2_with fail
        go_ret
        exact ⟨rfl, rfl⟩
      · have e : r = true := by rw [← hr]; simp [hz0, h4]
        subst e
        have f1 : (z == 0) = false := by simpa using hz0
        have f2 : (z != 0) = true := by simpa using hz0
        clear hr hne hln
        go_enter Tryz.func16, Tryz.ntmps16
        go_wp2_with fail
        go_ret
        exact ⟨rfl, rfl⟩
    · have d1 : decide ((ln : Int) ≤ 400) = false := by simp; omega
      have d2 : decide (ln ≤ 400) = false := by simpa using h4
      have e : r = false := by rw [← hr]; simp [h4, hne]
      subst e
      clear hr hne hln
      go_enter Tryz.func16, Tryz.ntmps16
      go_wp2_with fail
      go_ret
      exact ⟨rfl, rfl⟩
theorem right_code {N : Nat → Prop} (v : Value) (A : List Int) (w : World) (h1 : Bts N w v A) (_ : Bytes A) (l1 : A.length ≤ 1000000000000) : Calls Tryz.prog 16 #[v] w (ValB (.bool (rightB A)) w) := by
  refine (right_is v A w h1 l1).mono ?_
  rintro e w' ⟨rfl, rfl⟩
  exact ⟨rfl, Below.refl _ _⟩
end Go.Proofs.YtbfacdfmanffdaaGreatDoor
