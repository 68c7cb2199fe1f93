/- What the functions In, check, Touch, Pin of package clock do. No condition but those that each statement names. -/
import Derived.Test.YtechbageefmclaaCWr
namespace Go.Proofs.Ytechbageefmclaa
set_option maxRecDepth 1000000
open Go.ChangeShapes Go.WideShapes Go.ChangeAt Go.RowKit

section
variable {w w' : World} {c : Ck} {n h : Nat} {E E' : Nat → El} {F N : Nat → Prop}
theorem ClkAt.three (a : ClkAt w c n E h) {k : Nat} (hk : k < n) (on : Bool) :
    ClkAt (((w.setCell ⟨c.e, k * 3, none⟩ (.bool false)).setCell ⟨c.e, k * 3 + 1, none⟩ (.bool false)).setCell ⟨c.e, k * 3 + 2, none⟩ (.bool on)) c n (upd E k ⟨false, false, on⟩) h := by
  have a1 := a.el_put (E' := upd E k ⟨false, (E k).p, (E k).i⟩) hk 0 false (by omega) (fun j hj => upd_ne _ _ hj) (by rw [upd_at]; rfl)
  have a2 := a1.el_put (E' := upd E k ⟨false, false, (E k).i⟩) hk 1 false (by omega) (fun j hj => by rw [upd_ne _ _ hj, upd_ne _ _ hj]) (by rw [upd_at, upd_at]; rfl)
  exact a2.el_put (E' := upd E k ⟨false, false, on⟩) hk 2 on (by omega) (fun j hj => by rw [upd_ne _ _ hj, upd_ne _ _ hj]) (by rw [upd_at, upd_at]; rfl)
theorem only3 (w : World) (c : Ck) (k : Nat) (on : Bool) : Only (CF c) w (((w.setCell ⟨c.e, k * 3, none⟩ (.bool false)).setCell ⟨c.e, k * 3 + 1, none⟩ (.bool false)).setCell ⟨c.e, k * 3 + 2, none⟩ (.bool on)) :=
  (((Only.refl (CF c) w).setCell ⟨c.e, k * 3, none⟩ (.inl (.inl rfl)) _).setCell ⟨c.e, k * 3 + 1, none⟩ (.inl (.inl rfl)) _).setCell ⟨c.e, k * 3 + 2, none⟩ (.inl (.inl rfl)) _
set_option maxHeartbeats 1000000 in
theorem in_yes (k : Nat) (on : Bool) (hk : k < n) (a : ClkAt w c n E h) : Calls Try.prog 14 #[.pointer (some ⟨c.t, 0, none⟩), .int .i64 k, .bool on] w (ClkPost (.int .i64 0) c n (upd E k ⟨false, false, on⟩) h w) := by
  have HF := Lib.hid (find_any (k : Int) a)
  rw [place_in hk] at HF
  have HA := Lib.hid (a.three hk on)
  have HO := Lib.hid (only3 w c k on)
  obtain ⟨e0, e1, e2⟩ := a.el k hk
  have f0 := a.fe (k * 3)
  have f1 := a.fe (k * 3 + 1)
  have f2 := a.fe (k * 3 + 2)
  clear a
  generalize (E k).t = bt at e0
  generalize (E k).p = bp at e1
  generalize (E k).i = bi at e2
  go_enter Try.func14, Try.ntmps14
  go_wp2_with fail
  refine HF.out.mono ?_
  rintro e w1 ⟨rfl, rfl⟩
  go_wp2_with fail
  go_ret
  exact ⟨rfl, HA.out, HO.out⟩
theorem in_no (i : Int) (on : Bool) (hi : i < 0 ∨ (n : Int) ≤ i) (a : ClkAt w c n E h) : Calls Try.prog 14 #[.pointer (some ⟨c.t, 0, none⟩), .int .i64 i, .bool on] w (ClkPost (.int .i64 4) c n E h w) := by
  have HF := Lib.hid (find_any i a)
  rw [place_out hi] at HF
  have HA := Lib.hid a
  clear a hi
  go_enter Try.func14, Try.ntmps14
  go_wp2_with fail
  refine HF.out.mono ?_
  rintro e w1 ⟨rfl, rfl⟩
  go_wp2_with fail
  go_ret
  exact ⟨rfl, HA.out, Only.refl _ _⟩

/-! check. -/
theorem is_bound {i : Int} (hi : (isOf n E i).i = true) : ∃ k : Nat, i = (k : Int) ∧ k < n ∧ (E k).i = true := by
  unfold isOf at hi
  split at hi
  · rename_i hh
    exact ⟨i.toNat, by omega, by omega, hi⟩
  · cases hi
theorem ints_form {w : World} {v : Value} {l : List Int} (h : Ints N w v l) : ∃ a c, v = .slice a l.length c ∧ l.length ≤ c ∧ ∀ k, k < l.length → ∃ b off, a = some ⟨b, off, none⟩ ∧ w.cell? ⟨b, off + k, none⟩ = some (.int .i64 (l.getD k 0)) := by
  obtain ⟨a, c, rfl, hc, h⟩ := h
  rw [List.length_map] at hc
  refine ⟨a, c, by rw [List.length_map], hc, fun k hk => ?_⟩
  rcases h with h | ⟨b, off, rfl, _, h⟩
  · have := congrArg List.length h
    rw [List.length_map, List.length_nil] at this
    omega
  · refine ⟨b, off, rfl, h k _ ?_⟩
    rw [List.getElem?_map, List.getElem?_eq_getElem hk, List.getD, List.getElem?_eq_getElem hk]; rfl
theorem getD_mem {l : List Int} {k : Nat} (hk : k < l.length) : l.getD k 0 ∈ l := by
  rw [List.getD, List.getElem?_eq_getElem hk]; exact List.getElem_mem hk
theorem all_getD {l : List Int} {P : Int → Prop} (h : ∀ j, j < l.length → P (l.getD j 0)) : ∀ x ∈ l, P x := fun x hx => by
  obtain ⟨j, hj, rfl⟩ := List.mem_iff_getElem.1 hx
  have := h j hj
  rwa [List.getD, List.getElem?_eq_getElem hj] at this
set_option maxHeartbeats 2000000 in
theorem check_yes (v : Value) (l : List Int) (a : ClkAt w c n E h) (hv : Ints N w v l) (hl : l.length ≤ 3000000000000) (hy : ∀ x ∈ l, (isOf n E x).i = true) : Calls Try.prog 20 #[.pointer (some ⟨c.t, 0, none⟩), v] w (Told (.int .i64 0) w) := by
  obtain ⟨p, q, rfl, hc, hv⟩ := ints_form hv
  have HV := Lib.hid hv
  have HF := Lib.hid (fun i => find_any i a)
  have HE := Lib.hid a.el
  have HY : Hid (∀ k, k < l.length → ∃ j : Nat, l.getD k 0 = (j : Int) ∧ j < n ∧ (E j).i = true) := Lib.hid fun k hk => is_bound (hy _ (getD_mem hk))
  clear a hv hy
  go_enter Try.func20, Try.ntmps20
  go_wp2_with fail
  go_loop [12] (fun s12 => ∃ k : Nat, k ≤ l.length ∧ s12 = .int .i64 k) (fun s12 => l.length - (intOf s12).toNat)
  case atStart => exact ⟨0, Nat.zero_le _, rfl⟩
  case round =>
    obtain ⟨k, hk, rfl⟩ := hrel
    by_cases hlt : k < l.length
    · obtain ⟨b, off, rfl, cx⟩ := HV.out k hlt
      obtain ⟨j, hj, hjn, hji⟩ := HY.out k hlt
      rw [hj] at cx
      have hf := HF.out (j : Int)
      rw [place_in hjn] at hf
      have HG := Lib.hid hf
      have e2 := (HE.out j hjn).2.2
      rw [hji] at e2
      have hlt' : (k : Int) < l.length := by omega
      clear hf hj hji
      go_wp2_with fail
      refine HG.out.mono ?_
      rintro e w1 ⟨rfl, rfl⟩
      go_wp2_with fail
      go_round
      case rel => exact ⟨k + 1, by omega, by go_num⟩
      case measure => simp [intOf]; omega
    · go_wp2_with fail
      go_ret
      exact ⟨rfl, rfl⟩
set_option maxHeartbeats 2000000 in
theorem check_no (v : Value) (l : List Int) (a : ClkAt w c n E h) (hv : Ints N w v l) (hl : l.length ≤ 3000000000000) (hy : ∃ x ∈ l, (isOf n E x).i = false) : Calls Try.prog 20 #[.pointer (some ⟨c.t, 0, none⟩), v] w (Told (.int .i64 4) w) := by
  obtain ⟨p, q, rfl, hc, hv⟩ := ints_form hv
  have HV := Lib.hid hv
  have HF := Lib.hid (fun i => find_any i a)
  have HE := Lib.hid a.el
  have HY : Hid (¬ ∀ k, k < l.length → (isOf n E (l.getD k 0)).i = true) := Lib.hid fun hx => by
    obtain ⟨x, hx1, hx2⟩ := hy
    rw [all_getD (P := fun x => (isOf n E x).i = true) hx x hx1] at hx2
    cases hx2
  clear a hv hy
  go_enter Try.func20, Try.ntmps20
  go_wp2_with fail
  go_loop [12] (fun s12 => ∃ k : Nat, k ≤ l.length ∧ s12 = .int .i64 k ∧ Hid (∀ j, j < k → (isOf n E (l.getD j 0)).i = true)) (fun s12 => l.length - (intOf s12).toNat)
  case atStart => exact ⟨0, Nat.zero_le _, rfl, Lib.hid fun j hj => by omega⟩
  case round =>
    obtain ⟨k, hk, rfl, HK⟩ := hrel
    by_cases hlt : k < l.length
    · obtain ⟨b, off, rfl, cx⟩ := HV.out k hlt
      have hlt' : (k : Int) < l.length := by omega
      obtain ⟨x, hx⟩ : ∃ x, l.getD k 0 = x := ⟨_, rfl⟩
      rw [hx] at cx
      have HX := Lib.hid hx
      have hf := HF.out x
      clear hx
      by_cases hout : x < 0 ∨ (n : Int) ≤ x
      · rw [place_out hout] at hf
        have HG := Lib.hid hf
        clear hf hout
        go_wp2_with fail
        refine HG.out.mono ?_
        rintro e w1 ⟨rfl, rfl⟩
        go_wp2_with fail
        (try rw [Exit.noGoto_ret])
        go_ret
        exact ⟨rfl, rfl⟩
      · obtain ⟨j, rfl⟩ := Int.eq_ofNat_of_zero_le (by omega : 0 ≤ x)
        have hjn : j < n := by omega
        rw [place_in hjn] at hf
        have HG := Lib.hid hf
        have e2 := (HE.out j hjn).2.2
        cases hb : (E j).i with
        | false =>
          rw [hb] at e2
          clear hf hout hb
          go_wp2_with fail
          refine HG.out.mono ?_
          rintro e w1 ⟨rfl, rfl⟩
          go_wp2_with fail
          (try rw [Exit.noGoto_ret])
          go_ret
          exact ⟨rfl, rfl⟩
        | true =>
          rw [hb] at e2
          have HK' : Hid (∀ j, j < k + 1 → (isOf n E (l.getD j 0)).i = true) := Lib.hid fun i hi => by
            by_cases hik : i = k
            · rw [hik, HX.out, is_in hjn, hb]
            · exact HK.out i (by omega)
          clear hf hout hb HK
          go_wp2_with fail
          refine HG.out.mono ?_
          rintro e w1 ⟨rfl, rfl⟩
          go_wp2_with fail
          go_round
          case rel => exact ⟨k + 1, by omega, by go_num, HK'⟩
          case measure => simp [intOf]; omega
    · exact absurd (fun j hj => HK.out j (by omega)) HY.out
theorem check_nil (v : Value) (w : World) : Calls Try.prog 20 #[.pointer none, v] w (Told (.int .i64 1) w) := by
  go_enter Try.func20, Try.ntmps20
  go_wp2_with fail
  go_ret
  exact ⟨rfl, rfl⟩
end
end Go.Proofs.Ytechbageefmclaa
