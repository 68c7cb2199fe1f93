/- What the functions release, lowest, Bind of package names do. No condition but those that each statement names. -/
import Derived.Test.YthooeehobhegbaaNOp
namespace Go.Proofs.Ythooeehobhegbaa
set_option maxRecDepth 1000000
open Go.ChangeShapes Go.WideShapes Go.ChangeAt Go.RowKit

theorem IdsOk.free {n : Nat} {I : Nat → Int} (h : IdsOk n I) (i : Nat) : IdsOk n (upd I i 0) := by
  refine ⟨fun j hj => ?_, fun j k hj hk hne he => ?_⟩
  · unfold upd; split
    · omega
    · exact h.nn j hj
  · by_cases hji : j = i
    · rw [hji, upd_at] at hne; exact absurd rfl hne
    · rw [upd_ne _ _ hji] at hne he
      by_cases hki : k = i
      · rw [hki, upd_at] at he; exact absurd he hne
      · rw [upd_ne _ _ hki] at he; exact h.uniq j k hj hk hne he
theorem IdsOk.put {n : Nat} {I : Nat → Int} {id : Int} (h : IdsOk n I) (i : Nat) (h1 : 1 ≤ id) (h2 : id ≤ 9223372036854775807) (hno : ∀ j, j < n → I j ≠ id) : IdsOk n (upd I i id) := by
  refine ⟨fun j hj => ?_, fun j k hj hk hne he => ?_⟩
  · unfold upd; split
    · omega
    · exact h.nn j hj
  · by_cases hji : j = i
    · by_cases hki : k = i
      · rw [hji, hki]
      · rw [hji, upd_at, upd_ne _ _ hki] at he; exact absurd he.symm (hno k hk)
    · rw [upd_ne _ _ hji] at hne he
      by_cases hki : k = i
      · rw [hki, upd_at] at he; exact absurd he (hno j hj)
      · rw [upd_ne _ _ hki] at he; exact h.uniq j k hj hk hne he
section
variable {w w' : World} {c : Tb} {n bd low : Nat} {I : Nat → Int} {E : Nat → Nat} {F : Nat → Prop}
theorem TabM.released {w1 : World} {E' : Nat → Nat} (hm : TabM w1 c n I E' bd low) (hg : GoodT n I E bd low) {i : Nat} (hh : Hash n (homeN (2 * n)) (upd I i 0) E') (hin : i < n) (h0 : I i ≠ 0) (y : Nat) (hy : y = min low (i + 1)) :
    TabAt (((w1.setCell ⟨c.a, i, none⟩ (.int .i64 0)).setCell ⟨c.t, 2, none⟩ (.int .i64 ((bd - 1 : Nat) : Int))).setCell ⟨c.t, 3, none⟩ (.int .i64 (y : Int))) c n (upd I i 0) := by
  refine ⟨E', bd - 1, y, ((hm.idset hin 0).bdset (bd - 1)).lowset y, hg.ids.free i, hh, ?_, ?_, ?_, fun j hj => ?_⟩
  · have := cntI_upd (I := I) (i := i) (y := 0) (n := n) hin
    rw [if_neg h0, if_pos rfl, ← hg.bd] at this
    omega
  · have := hg.low.1; omega
  · have := hg.low.2.1; omega
  · rw [upd_ne _ _ (by omega)]
    exact hg.low.2.2 j (by omega)
set_option maxHeartbeats 4000000 in
theorem release_any (i : Nat) (h : TabAt w c n I) (hin : i < n) (h0 : I i ≠ 0) : Calls Try.prog 25 #[.pointer (some ⟨c.t, 0, none⟩), .int .i64 ((i : Int) + 1)] w (TabPost (.tuple #[]) c n (upd I i 0) w) := by
  obtain ⟨E, bd, low, hm, hg⟩ := h.ex
  have hsm := hm.small
  have hcnt : 1 ≤ bd := by
    rw [hg.bd]
    rcases Nat.eq_zero_or_pos (cntI I n) with h1 | h1
    · exact absurd (cntI_none h1 i hin) h0
    · exact h1
  have hbd := cntI_le I n
  rw [← hg.bd] at hbd
  have hlow := hg.low.2.1
  obtain ⟨u, hu⟩ : ∃ u, I i = u := ⟨_, rfl⟩
  have HF := Lib.hid (find_any u (by omega) hm hg.hash)
  have HS : Hid (∀ a ok, FindIs n (homeN (2 * n)) I E u a ok → E a = i + 1) := Lib.hid (fun a ok hf => by
    have h1 := hf.slot hg.hash
    exact h1.1.eq hg.ids (.inl ⟨by omega, by omega, by rw [← hu]; exact h0, hu⟩))
  have HM := Lib.hid hm
  have HG := Lib.hid hg
  have HU : Hid (I i ≠ 0) := h0
  have c0 := hm.c0
  have ci := (hm.ra i hin).1
  rw [hu] at ci
  clear h hm hg h0 hu
  go_enter Try.func25, Try.ntmps25
  go_wp2_with fail
  refine HF.out.mono ?_
  rintro e w1 ⟨a, ok, rfl, hf, rfl⟩
  have ha := hf.1
  have e1 := HS.out a ok hf
  have HR := Lib.hid (remove_any a (i + 1) HM.out HG.out.hash ha e1 (by omega))
  clear hf e1 HF HS c0 ci
  go_wp2_with fail
  refine HR.out.mono ?_
  rintro e w1 ⟨rfl, E', hm1, hh1, o1⟩
  have HM1 := Lib.hid hm1
  have HH1 : Hid (Hash n (homeN (2 * n)) (upd I i 0) E') := hh1
  have HO1 : Hid (Only (TF c) w w1) := Only.mono o1 (fun k _ hk => .inr (.inl hk))
  have c0 := hm1.c0
  have ci := (hm1.ra i hin).1
  have cf := (hm1.ra i hin).2
  have c2 := hm1.c2
  have f2 := hm1.fz 2
  have c3 := hm1.c3
  have f3 := hm1.fz 3
  have hne := hm1.ord.2.1
  have hne' : ¬ c.t = c.a := fun e => hne e.symm
  generalize I i = v at ci
  clear hm1 hh1 o1 HR
  have ewb : (bd : Int) - 1 = ((bd - 1 : Nat) : Int) := by omega
  have HM2 := Lib.hid (HM1.out.idset hin 0)
  have HO2 := Lib.hid (HO1.out.setCell ⟨c.a, i, none⟩ (.inl (.inl rfl)) (.int .i64 0))
  have g2 := HM2.out.c2
  have g3 := HM2.out.c3
  have gf2 := HM2.out.fz 2
  have gf3 := HM2.out.fz 3
  have HO3 : Hid (∀ y : Nat, Only (TF c) w (((w1.setCell ⟨c.a, i, none⟩ (.int .i64 0)).setCell ⟨c.t, 2, none⟩ (.int .i64 ((bd - 1 : Nat) : Int))).setCell ⟨c.t, 3, none⟩ (.int .i64 (y : Int)))) := Lib.hid (fun y => (HO2.out.setCell ⟨c.t, 2, none⟩ (.inl (.inr (.inr rfl))) _).setCell ⟨c.t, 3, none⟩ (.inl (.inr (.inr rfl))) _)
  have HT3 : Hid (∀ y : Nat, y = min low (i + 1) → TabAt (((w1.setCell ⟨c.a, i, none⟩ (.int .i64 0)).setCell ⟨c.t, 2, none⟩ (.int .i64 ((bd - 1 : Nat) : Int))).setCell ⟨c.t, 3, none⟩ (.int .i64 (y : Int))) c n (upd I i 0)) := Lib.hid (fun y hy => HM1.out.released HG.out HH1.out hin HU.out y hy)
  clear HM1 HM2 HO1 HO2 HG HH1 HU HM
  go_wp2_with fail
  · go_end0
    exact ⟨rfl, HT3.out (i + 1) (by omega), HO3.out (i + 1)⟩
  · go_end0
    exact ⟨rfl, HT3.out low (by omega), HO3.out low⟩
end
end Go.Proofs.Ythooeehobhegbaa
