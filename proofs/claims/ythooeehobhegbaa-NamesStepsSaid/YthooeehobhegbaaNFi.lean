/- What the function find of package names does. No condition but those that each statement names. -/
import Derived.Test.YthooeehobhegbaaNAt
namespace Go.Proofs.Ythooeehobhegbaa
set_option maxRecDepth 1000000
open Go.ChangeShapes Go.WideShapes Go.ChangeAt Go.RowKit

/-- The search tells where it ends. -/
def FindPost (n : Nat) (I : Nat → Int) (E : Nat → Nat) (id : Int) (w : World) (e : Ending) (w' : World) : Prop :=
  ∃ (a : Nat) (ok : Bool), e = .returned (.tuple #[.int .i64 a, .bool ok]) ∧ FindIs n (homeN (2 * n)) I E id a ok ∧ w = w'
section
variable {w : World} {c : Tb} {n bd low : Nat} {I : Nat → Int} {E : Nat → Nat}
set_option maxHeartbeats 2000000 in
theorem find_any (id : Int) (hn : 0 < n) (h : TabM w c n I E bd low) (hh : Hash n (homeN (2 * n)) I E) : Calls Try.prog 23 #[.pointer (some ⟨c.t, 0, none⟩), .int .i64 id] w (FindPost n I E id w) := by
  have h0 := h.c0
  have h1 := h.c1
  have hs := h.small
  have HRA := Lib.hid h.ra
  have HRE := Lib.hid h.re
  have HHash := Lib.hid hh
  obtain ⟨z, hz, hz0⟩ := hh.room hn
  have HL : Hid (∀ id, homeN (2 * n) id < 2 * n) := Lib.hid (fun id => homeN_lt (by omega) id)
  have HH := Lib.hid (home_any id h)
  have HA : Hid (∀ a, a < 2 * n → Calls Try.prog 27 #[.pointer (some ⟨c.t, 0, none⟩), .int .i64 a] w fun e w' => e = .returned (.int .i64 (nx (2 * n) a)) ∧ w = w') := Lib.hid (fun a ha => after_any a ha h)
  have HS : Hid (FindAt n (homeN (2 * n)) I E id z (homeN (2 * n) id)) := Lib.hid (find_start (HL.out id) hz hz0)
  unfold FindPost
  generalize homeN (2 * n) = H at HHash HL HH HS ⊢
  clear h hh hz hz0
  go_enter Try.func23, Try.ntmps23
  go_wp2
  go_step3
  go_wp2_with fail
  refine HH.out.mono ?_
  rintro e w1 ⟨rfl, rfl⟩
  go_wp2_with fail
  go_step3
  go_wp2_with fail
  go_loopg [6, 7] (2 * n) (fun g s6 s7 wx => ∃ a : Nat, s6 = .int .i64 a ∧ s7 = .bool false ∧ Hid (FindAt n H I E id z a) ∧ dst (2 * n) a z < g ∧ w = wx)
  case atStart => exact ⟨_, rfl, rfl, HS, dst_lt HS.out.lt HS.out.zl, rfl⟩
  case round =>
    obtain ⟨a, rfl, rfl, HF, hg, rfl⟩ := hrel
    have ha := HF.out.lt
    have c1 : w.cell? ⟨c.e, a, none⟩ = some (.int .i64 ((E a : Nat) : Int)) := (HRE.out a ha).1
    by_cases he : E a = 0
    · rw [he] at c1
      have HE := Lib.hid he
      clear he
      go_wp2
      (try rw [Exit.noGoto_ret])
      go_ret2
      exact ⟨a, false, rfl, HF.out.none HHash.out (HL.out id) HE.out, rfl⟩
    · have hel := HHash.out.rng a ha
      obtain ⟨i, hi⟩ : ∃ i, E a = i + 1 := ⟨E a - 1, by omega⟩
      rw [hi] at c1 hel
      have c2 := (HRA.out i (by omega)).1
      have hin : i < n := by omega
      have HE : Hid (E a = i + 1) := hi
      have hd : (((i + 1 : Nat) : Int) == 0) = false := by simp; omega
      clear he hi
      by_cases hv : I i = id
      · rw [hv] at c2
        have HV := Lib.hid hv
        clear hv
        go_wp2
        (try rw [Exit.noGoto_ret])
        go_ret2
        exact ⟨a, true, rfl, HF.out.found HHash.out (by rw [HE.out]; omega) (by rw [HE.out]; exact HV.out), rfl⟩
      · have HV := Lib.hid hv
        generalize hu : I i = u at c2 hv
        have hne : (u == id) = false := by simpa using hv
        have HU := Lib.hid hu
        have HV := Lib.hid hv
        clear hv hu
        go_wp2_with fail
        refine (HA.out a ha).mono ?_
        rintro e w1 ⟨rfl, rfl⟩
        go_wp2_with fail
        have hnx := HF.out.next (HL.out id) (by rw [HE.out]; omega) (by rw [HE.out]; show I i ≠ id; rw [HU.out]; exact HV.out)
        go_roundg (dst (2 * n) a z)
        case rel => exact ⟨nx (2 * n) a, rfl, rfl, Lib.hid hnx.1, by omega, rfl⟩
        case measure => omega
end
end Go.Proofs.Ythooeehobhegbaa
