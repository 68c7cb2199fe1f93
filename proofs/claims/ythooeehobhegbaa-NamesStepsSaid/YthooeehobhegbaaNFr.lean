/- What the function Free of package names does. No condition but those that each statement names. -/
import Derived.Test.YthooeehobhegbaaNNw
import Derived.Test.YthooeehobhegbaaNTw
namespace Go.Proofs.Ythooeehobhegbaa
set_option maxRecDepth 1000000
open Go.ChangeShapes Go.WideShapes Go.ChangeAt Go.RowKit

/-- The ids, where the slots xs are free. -/
def clr (I : Nat → Int) (xs : List Int) : Nat → Int := fun i => if (i : Int) + 1 ∈ xs then 0 else I i
theorem clr_nil (I : Nat → Int) : clr I [] = I := by funext i; simp [clr]
theorem clr_snoc (I : Nat → Int) (xs : List Int) (i : Nat) : upd (clr I xs) i 0 = clr I (xs ++ [(i : Int) + 1]) := by
  funext j
  unfold upd clr
  by_cases hj : j = i
  · subst hj; simp
  · have : ¬ (j : Int) + 1 = (i : Int) + 1 := by omega
    simp [hj, this]
/-- What Free tells, and the ids then. -/
def FreeIs (n : Nat) (I : Nat → Int) (xs : List Int) (t : Int) (I' : Nat → Int) : Prop :=
  ((∀ x ∈ xs, idOf n I x ≠ 0) ∧ xs.Nodup ∧ t = 0 ∧ I' = clr I xs) ∨ (¬ ((∀ x ∈ xs, idOf n I x ≠ 0) ∧ xs.Nodup) ∧ t = 4 ∧ I' = I)
theorem free_ex (n : Nat) (I : Nat → Int) (xs : List Int) : ∃ t I', FreeIs n I xs t I' := by
  by_cases h : (∀ x ∈ xs, idOf n I x ≠ 0) ∧ xs.Nodup
  · exact ⟨0, _, .inl ⟨h.1, h.2, rfl, rfl⟩⟩
  · exact ⟨4, _, .inr ⟨h, rfl, rfl⟩⟩
theorem FreeIs.eq {n : Nat} {I : Nat → Int} {xs : List Int} {t u : Int} {I' I'' : Nat → Int} (h : FreeIs n I xs t I') (k : FreeIs n I xs u I'') : t = u ∧ I' = I'' := by
  rcases h with ⟨h1, h2, rfl, rfl⟩ | ⟨h, rfl, rfl⟩
  · rcases k with ⟨_, _, rfl, rfl⟩ | ⟨k, _⟩
    · exact ⟨rfl, rfl⟩
    · exact absurd ⟨h1, h2⟩ k
  · rcases k with ⟨k1, k2, _⟩ | ⟨_, rfl, rfl⟩
    · exact absurd ⟨k1, k2⟩ h
    · exact ⟨rfl, rfl⟩
theorem idOf_in {n : Nat} {I : Nat → Int} {k : Int} (h : idOf n I k ≠ 0) : ∃ i : Nat, k = (i : Int) + 1 ∧ i < n ∧ I i ≠ 0 := by
  unfold idOf at h
  split at h
  · exact ⟨k.toNat - 1, by omega, by omega, h⟩
  · exact absurd rfl h
theorem idOf_at {n : Nat} {I : Nat → Int} {i : Nat} (h : i < n) : idOf n I ((i : Int) + 1) = I i := by
  rw [idOf, if_pos (by omega), show ((i : Int) + 1).toNat - 1 = i by omega]
def FreePost (c : Tb) (n : Nat) (I : Nat → Int) (xs : List Int) (w : World) (e : Ending) (w' : World) : Prop :=
  ∃ t I', FreeIs n I xs t I' ∧ e = .returned (.int .i64 t) ∧ TabAt w' c n I' ∧ Only (TF c) w w'
/-- In the second loop: k of them are free. -/
structure FrAt (c : Tb) (n : Nat) (I : Nat → Int) (xs : List Int) (w : World) (k : Nat) (wr : World) : Prop where
  tab : TabAt wr c n (clr I (xs.take k))
  on : Only (TF c) w wr
theorem getD_mem {xs : List Int} {k : Nat} (h : k < xs.length) : xs.getD k 0 ∈ xs := by
  rw [List.getD, List.getElem?_eq_getElem h]; exact List.getElem_mem h
theorem nodup_take {xs : List Int} (h : xs.Nodup) {k : Nat} (hk : k < xs.length) : xs.getD k 0 ∉ xs.take k := by
  intro hm
  obtain ⟨j, hj, he⟩ := List.mem_iff_getElem.1 hm
  rw [List.length_take] at hj
  rw [List.getElem_take, List.getD, List.getElem?_eq_getElem hk] at he
  have := (List.getElem_inj h).1 he
  omega
section
variable {w w' : World} {c : Tb} {n : Nat} {I : Nat → Int}
set_option maxHeartbeats 4000000 in
theorem free_any {N : Nat → Prop} (v : Value) (xs : List Int) (h : TabAt w c n I) (hv : Ints N w v xs) (hN : ∀ b, N b → ¬ TF c b) (hl : xs.length ≤ 4000000000000) : Calls Try.prog 12 #[.pointer (some ⟨c.t, 0, none⟩), v] w (FreePost c n I xs w) := by
  have hvv := hv
  obtain ⟨a, cap, rfl, hc, hcell⟩ := ints_form hv
  have HC : Hid (∀ wr, Only (TF c) w wr → ∀ k, k < xs.length → ∃ b off, a = some ⟨b, off, none⟩ ∧ wr.cell? ⟨b, off + k, none⟩ = some (.int .i64 (xs.getD k 0))) := Lib.hid (fun wr ho k hk => by
    obtain ⟨a', c', he, _, hx⟩ := ints_form (hvv.only ho hN)
    injection he with e1 _ _
    subst e1
    exact hx k hk)
  have HT := Lib.hid h
  have HTw := Lib.hid (twice_any (.slice a xs.length cap) xs w hvv hl)
  have HTn := Lib.hid (twc_eq xs)
  have HId : Hid (∀ x : Int, Calls Try.prog 17 #[.pointer (some ⟨c.t, 0, none⟩), .int .i64 x] w (Told (.tuple #[.int .i64 (idOf n I x), .bool (idOf n I x != 0)]) w)) := Lib.hid (fun x => id_at x h)
  clear h hv hvv hN hcell
  go_enter Try.func12, Try.ntmps12
  go_wp2_with fail
  go_loop [15] (fun s15 => ∃ k : Nat, s15 = .int .i64 k ∧ k ≤ xs.length ∧ Hid (∀ j, j < k → idOf n I (xs.getD j 0) ≠ 0)) (fun s15 => xs.length - (intOf s15).toNat)
  case atStart => exact ⟨0, rfl, Nat.zero_le _, Lib.hid (fun j hj => by omega)⟩
  case round =>
    obtain ⟨k, rfl, hk, HA⟩ := hrel
    by_cases hlt : k < xs.length
    · obtain ⟨b, off, rfl, c1⟩ := HC.out w (Only.refl _ _) k hlt
      have HI := Lib.hid (HId.out (xs.getD k 0))
      have HX : Hid (xs.getD k 0 ∈ xs) := getD_mem hlt
      obtain ⟨x, hx⟩ : ∃ x, xs.getD k 0 = x := ⟨_, rfl⟩
      have HXX := Lib.hid hx
      rw [hx] at c1 HI HX
      obtain ⟨u, hu⟩ : ∃ u, idOf n I x = u := ⟨_, rfl⟩
      have HU := Lib.hid hu
      rw [hu] at HI
      clear hx hu
      have hlt' : (k : Int) < xs.length := by omega
      by_cases h0 : u = 0
      · have hd : (u != 0) = false := by simp [h0]
        rw [hd] at HI
        have H0 := Lib.hid h0
        clear h0 hd
        go_wp2_with fail
        refine HI.out.mono ?_
        rintro e w1 ⟨rfl, rfl⟩
        go_wp2_with fail
        go_ret
        exact ⟨4, I, .inr ⟨fun hh => hh.1 x HX.out (by rw [HU.out]; exact H0.out), rfl, rfl⟩, rfl, HT.out, Only.refl _ _⟩
      · have hd : (u != 0) = true := by simp [h0]
        rw [hd] at HI
        have H0 := Lib.hid h0
        clear h0 hd
        go_wp2_with fail
        refine HI.out.mono ?_
        rintro e w1 ⟨rfl, rfl⟩
        go_wp2_with fail
        go_round
        case rel => exact ⟨k + 1, by go_num, by omega, Lib.hid (fun j hj => by
          by_cases hjk : j = k
          · rw [hjk, HXX.out, HU.out]; exact H0.out
          · exact HA.out j (by omega))⟩
        case measure => simp [intOf]; omega
    · obtain rfl : k = xs.length := by omega
      have HAll : Hid (∀ x ∈ xs, idOf n I x ≠ 0) := Lib.hid (fun x hx => by
        obtain ⟨j, hj, rfl⟩ := List.mem_iff_getElem.1 hx
        have := HA.out j hj
        rwa [List.getD, List.getElem?_eq_getElem hj] at this)
      clear HA
      cases htw : twc xs with
      | true =>
        rw [htw] at HTw
        have HN : Hid (¬ xs.Nodup) := (HTn.out).1 htw
        clear htw
        go_wp2_with fail
        refine HTw.out.mono ?_
        rintro e w1 ⟨rfl, b1⟩
        have HB1 := Lib.hid b1
        clear b1
        go_wp2_with fail
        go_ret
        exact ⟨4, I, .inr ⟨fun hh => HN.out hh.2, rfl, rfl⟩, rfl, HT.out.fresh HB1.out, Only.of_below HB1.out⟩
      | false =>
        rw [htw] at HTw
        have HN : Hid (xs.Nodup) := Classical.byContradiction fun hn => by
          have := (HTn.out).2 hn
          rw [htw] at this; cases this
        clear htw
        go_wp2_with fail
        refine HTw.out.mono ?_
        rintro e w1 ⟨rfl, b1⟩
        have HB1 := Lib.hid b1
        have HF : Hid (FrAt c n I xs w 0 w1) := ⟨by rw [List.take_zero, clr_nil]; exact HT.out.fresh b1, Only.of_below b1⟩
        clear b1
        go_wp2_with fail
        go_loopw [32] (fun s32 wr => ∃ k : Nat, s32 = .int .i64 k ∧ k ≤ xs.length ∧ Hid (FrAt c n I xs w k wr)) (fun s32 _ => xs.length - (intOf s32).toNat)
        case atStart => exact ⟨0, rfl, Nat.zero_le _, HF⟩
        case round =>
          clear HF HB1
          obtain ⟨k, rfl, hk, HF⟩ := hrel
          by_cases hlt : k < xs.length
          · obtain ⟨b, off, rfl, c1⟩ := HC.out wr HF.out.on k hlt
            obtain ⟨i, hi, hin, hI0⟩ := idOf_in (HAll.out _ (getD_mem hlt))
            have HTk : Hid (xs.take k ++ [(i : Int) + 1] = xs.take (k + 1)) := by show _ = _; rw [← hi]; exact take_next hlt
            have hni : ¬ (i : Int) + 1 ∈ xs.take k := by rw [← hi]; exact nodup_take HN.out hlt
            have HR := Lib.hid (release_any i HF.out.tab hin (by rw [clr, if_neg hni]; exact hI0))
            rw [hi] at c1
            clear hi hni hI0
            have hlt' : (k : Int) < xs.length := by omega
            go_wp2_with fail
            refine HR.out.mono ?_
            rintro e w2 ⟨rfl, h2, o2⟩
            have HF2 : Hid (FrAt c n I xs w (k + 1) w2) := ⟨by rw [← HTk.out, ← clr_snoc]; exact h2, HF.out.on.then_ o2 (fun _ _ h => h)⟩
            clear h2 o2
            go_wp2_with fail
            go_roundw
            case rel => exact ⟨k + 1, by go_num, by omega, HF2⟩
            case measure => simp [intOf]; omega
          · obtain rfl : k = xs.length := by omega
            go_wp2_with fail
            go_ret
            exact ⟨0, clr I xs, .inl ⟨HAll.out, HN.out, rfl, rfl⟩, rfl, by have := HF.out.tab; rwa [List.take_length] at this, HF.out.on⟩
theorem free_at {N : Nat → Prop} (v : Value) (xs : List Int) (t : Int) (I' : Nat → Int) (h : TabAt w c n I) (hv : Ints N w v xs) (hN : ∀ b, N b → ¬ TF c b) (hl : xs.length ≤ 4000000000000) (hf : FreeIs n I xs t I') : Calls Try.prog 12 #[.pointer (some ⟨c.t, 0, none⟩), v] w (TabPost (.int .i64 t) c n I' w) := by
  refine (free_any v xs h hv hN hl).mono ?_
  rintro e w1 ⟨t2, I2, hf2, rfl, h1, o1⟩
  obtain ⟨rfl, rfl⟩ := hf.eq hf2
  exact ⟨rfl, h1, o1⟩
theorem free_nil (v : Value) (w : World) : Calls Try.prog 12 #[.pointer none, v] w (Told (.int .i64 1) w) := by
  go_enter Try.func12, Try.ntmps12
  go_wp2
  go_ret
  exact ⟨rfl, rfl⟩
end
end Go.Proofs.Ythooeehobhegbaa
