/- NamesLeast's walk. -/
import Derived.Test.YthooeehobhegbaaNHl
import Derived.Test.YthooeehobhegbaaNLay
namespace Go.Proofs.Ythooeehobhegbaa
set_option maxRecDepth 1000000
open Go.ChangeShapes Go.WideShapes Go.ChangeAt Go.RowKit

/-- The first m slots are bound, and no others. -/
structure Pre (n : Nat) (I : Nat → Int) (m : Nat) : Prop where
  le : m ≤ n
  lo : ∀ i, i < m → I i ≠ 0
  hi : ∀ i, m ≤ i → i < n → I i = 0
section
variable {n m : Nat} {I I' : Nat → Int} {id t : Int} {s : Nat}
theorem pre_zero (n : Nat) : Pre n (fun _ => 0) 0 := ⟨Nat.zero_le _, fun i hi => by omega, fun _ _ _ => rfl⟩
theorem Pre.cnt (h : Pre n I m) : cntI I n = m := by
  have key : ∀ k, k ≤ n → cntI I k = min k m := by
    intro k
    induction k with
    | zero => intro _; simp [cntI]
    | succ k ih =>
      intro hk
      simp only [cntI]
      rw [ih (by omega)]
      by_cases hkm : k < m
      · rw [if_neg (h.lo k hkm)]; omega
      · rw [if_pos (h.hi k (by omega) (by omega))]; omega
  rw [key n (Nat.le_refl _)]
  have := h.le
  omega
theorem Pre.least (h : Pre n I m) (hs : LeastIs n I s) : s = m + 1 := by
  obtain ⟨h1, h2, h3, h4⟩ := hs
  rcases Nat.lt_trichotomy s (m + 1) with hl | hl | hl
  · exact absurd h3 (h.lo (s - 1) (by omega))
  · exact hl
  · exact absurd (h.hi m (Nat.le_refl _) (by omega)) (h4 m (by omega))
theorem Pre.bind (h : Pre n I m) (hm : m < n) (hb : BindIs n I id s t I') : ∃ m', Pre n I' m' ∧ ((id < 1 ∧ s = 0 ∧ t = 2 ∧ m' = m) ∨ (1 ≤ id ∧ t = 0 ∧ (m' = m ∨ (m' = m + 1 ∧ s = m + 1)))) := by
  rcases hb with ⟨h1, rfl, rfl, rfl⟩ | ⟨h1, hs, h0, rfl, rfl⟩ | ⟨h1, h0, hf, rfl, rfl, rfl⟩ | ⟨h1, h0, hl, rfl, rfl⟩
  · exact ⟨m, h, .inl ⟨h1, rfl, rfl, rfl⟩⟩
  · exact ⟨m, h, .inr ⟨h1, rfl, .inl rfl⟩⟩
  · exact absurd (h.hi m (Nat.le_refl _) hm) (hf m hm)
  · obtain rfl := h.least hl
    rw [show m + 1 - 1 = m by omega]
    refine ⟨m + 1, ⟨by omega, fun i hi => ?_, fun i h2 h3 => ?_⟩, .inr ⟨h1, rfl, .inr ⟨rfl, rfl⟩⟩⟩
    · by_cases him : i = m
      · rw [him, upd_at]; omega
      · rw [upd_ne _ _ him]; exact h.lo i (by omega)
    · rw [upd_ne _ _ (by omega)]; exact h.hi i (by omega) h3
/-- Who comes when one slot is free ahead of all others has that one. -/
theorem Pre.again {r : Nat} (h : Pre n I m) (hr : r < m) (h1 : 1 ≤ id) (h0 : SlotIs n I id 0) : BindIs n (upd I r 0) id (r + 1) 0 (upd (upd I r 0) r id) := by
  have hle := h.le
  refine .inr (.inr (.inr ⟨h1, .inr ⟨rfl, fun i hi he => ?_⟩, ⟨by omega, by omega, by rw [show r + 1 - 1 = r by omega, upd_at], fun j hj => ?_⟩, rfl, rfl⟩))
  · by_cases hir : i = r
    · rw [hir, upd_at] at he; exact he.symm
    · rw [upd_ne _ _ hir] at he
      rcases h0 with ⟨h2, _⟩ | ⟨_, h2⟩
      · omega
      · exact h2 i hi he
  · rw [upd_ne _ _ (by omega)]; exact h.lo j (by omega)
theorem Pre.back {r : Nat} (h : Pre n I m) (hr : r < m) (h1 : 1 ≤ id) : Pre n (upd (upd I r 0) r id) m := by
  refine ⟨h.le, fun i hi => ?_, fun i h2 h3 => ?_⟩
  · by_cases hir : i = r
    · rw [hir, upd_at]; omega
    · rw [upd_ne _ _ hir, upd_ne _ _ hir]; exact h.lo i hi
  · rw [upd_ne _ _ (by omega), upd_ne _ _ (by omega)]; exact h.hi i h2 h3
end
theorem len_pre {W0 w1 : World} {c : Tb} {n m : Nat} {I : Nat → Int} (h : TabB W0 w1 c n I) (p : Pre n I m) : Calls Try.prog 14 #[.pointer (some ⟨c.t, 0, none⟩)] w1 (Told (.int .i64 m) w1) := by
  have := len_at h.is
  rwa [p.cnt] at this
/-- In the loop: a table of 200 slots, m bound. -/
structure LeAt (W : World) (c : Tb) (m : Nat) (wr : World) : Prop where
  ex : ∃ I, TabB W wr c 200 I ∧ Pre 200 I m
set_option maxHeartbeats 8000000 in
theorem namesLeast_walk (W : World) (v : Value) (xs : List Int) (hv : ArgN .i64 W v xs) (a : Int) (ha : (Lit.int .u8 a).wf = true) (id : Int) (hid : (Lit.int .i64 id).wf = true) : Calls Try.prog 6 #[v, .int .u8 a, .int .i64 id] W fun e W' => e = .returned (.bool true) ∧ Below W.heap.size W W' := by
  obtain ⟨a0, a1⟩ := wf_u8 ha
  obtain ⟨a, rfl⟩ := Int.eq_ofNat_of_zero_le a0
  obtain ⟨_, id1⟩ := wf_i64 hid
  obtain ⟨hv1, hwf, hlen⟩ := hv
  have HK := Lib.hid (fun w => known_any w)
  obtain ⟨va, vc, rfl, hcap, hcell⟩ := ints_form (N := (· < W.heap.size)) hv1
  by_cases hbig : 100 < xs.length
  · have hd : decide ((100 : Int) < (xs.length : Int)) = true := decide_eq_true (by omega)
    clear hcell hv1 hwf ha hid
    go_enter Try.func6, Try.ntmps6
    go_wp2_with fail
    refine (HK.out W).mono ?_
    rintro e w1 ⟨rfl, b1⟩
    go_wp2_with fail
    go_ret
    exact ⟨rfl, b1⟩
  · have hd : decide ((100 : Int) < (xs.length : Int)) = false := decide_eq_false (by omega)
    have HC : Hid (∀ wr, Below W.heap.size W wr → ∀ k, k < xs.length → ∃ b off, va = some ⟨b, off, none⟩ ∧ wr.cell? ⟨b, off + k, none⟩ = some (.int .i64 (xs.getD k 0))) := Lib.hid (fun wr hb k hk => by
      obtain ⟨a', c', he, _, hx⟩ := ints_form (Ints.only (F := fun i => W.heap.size ≤ i) hv1 ⟨hb.os, hb.tape, hb.output, hb.size, fun i hi _ => hb.block i hi⟩ (fun b hb h => by omega))
      injection he with e1 _ _
      subst e1
      exact hx k hk)
    have HW : Hid (∀ k, k < xs.length → xs.getD k 0 ≤ 9223372036854775807) := Lib.hid (fun k hk => (wf_i64 (hwf _ (getD_mem hk))).2)
    have HN : Hid (Calls Try.prog 9 #[.int .i64 200] W (NewPost 200 W)) := Lib.hid (new_yes 200 W (by omega))
    clear hcell hv1 hwf ha hid
    go_enter Try.func6, Try.ntmps6
    go_wp2_with fail
    refine HN.out.mono ?_
    rintro e w1 p
    obtain ⟨c, rfl, h1⟩ := tabB_new p
    have H1 : Hid (LeAt W c 0 w1) := ⟨_, h1, pre_zero 200⟩
    clear p h1
    go_wp2_with fail
    go_loopw [9, 10] (fun s9 s10 wr => ∃ i m : Nat, i ≤ xs.length ∧ m ≤ i ∧ s9 = .int .i64 m ∧ s10 = .int .i64 i ∧ Hid (LeAt W c m wr)) (fun _ s10 _ => xs.length - (intOf s10).toNat)
    case atStart => exact ⟨0, 0, Nat.zero_le _, Nat.le_refl _, rfl, rfl, H1⟩
    case round =>
      clear H1
      obtain ⟨i, m, hi, hmi, rfl, rfl, H1⟩ := hrel
      obtain ⟨I, hI, hP⟩ := H1.out.ex
      by_cases hlt : i < xs.length
      · have hlt' : (i : Int) < xs.length := by omega
        obtain ⟨b, off, rfl, c1⟩ := HC.out wr hI.bl i hlt
        obtain ⟨x, hx⟩ : ∃ x, xs.getD i 0 = x := ⟨_, rfl⟩
        have hx2 := HW.out i hlt
        rw [hx] at c1 hx2
        obtain ⟨s, t, I', hb⟩ := bind_ex 200 I x
        have HL := Lib.hid (len_pre hI hP)
        have HB := Lib.hid (bind_at x s t I' hI.is hx2 hb)
        have HI := Lib.hid hI
        obtain ⟨m', hP', hcase⟩ := hP.bind (by omega) hb
        have HP' := Lib.hid hP'
        have HC2 : Hid (∀ w2, TabB W w2 c 200 I' → w2.cell? ⟨b, off + i, none⟩ = some (.int .i64 x)) := Lib.hid (fun w2 h2 => by
          obtain ⟨b', off', he, hc'⟩ := HC.out w2 h2.bl i hlt
          injection he with e1
          injection e1 with e1 e2 _
          subst e1 e2
          rw [hx] at hc'
          exact hc')
        clear hx hI hP hb hP' H1
        rcases hcase with ⟨hx1, rfl, rfl, rfl⟩ | ⟨hx1, rfl, hm⟩
        · have hxd : decide (x < 1) = true := decide_eq_true hx1
          clear hx1
          go_wp2_with fail
          refine HL.out.mono ?_
          rintro e w2 ⟨rfl, rfl⟩
          go_wp2_with fail
          refine HB.out.mono ?_
          rintro e w2 p
          obtain ⟨rfl, h2, _⟩ := HI.out.post p
          have H2 : Hid (LeAt W c m' w2) := ⟨_, h2, HP'.out⟩
          have c2 := HC2.out w2 h2
          clear p h2
          go_wp2_with fail
          go_roundw
          case rel => exact ⟨i + 1, m', by omega, by omega, rfl, by go_num, H2⟩
          case measure => simp [intOf]; omega
        · have hxd : decide (x < 1) = false := decide_eq_false (by omega)
          clear hx1
          have hcs : (m' : Int) ≤ m ∨ (m < m' ∧ (s : Int) = m') := by omega
          have HL2 : Hid (∀ w2, TabB W w2 c 200 I' → Calls Try.prog 14 #[.pointer (some ⟨c.t, 0, none⟩)] w2 (Told (.int .i64 m') w2)) := Lib.hid (fun w2 h => len_pre h HP'.out)
          have hm2 : m' ≤ m + 1 := by omega
          clear hm
          rcases hcs with hcs | ⟨hcs, hsm⟩
          · have hd3 : ¬ ((m : Int) < (m' : Int)) := by omega
            clear hcs
            go_wp2_with fail
            refine HL.out.mono ?_
            rintro e w2 ⟨rfl, rfl⟩
            go_wp2_with fail
            refine HB.out.mono ?_
            rintro e w2 p
            obtain ⟨rfl, h2, _⟩ := HI.out.post p
            have HH2 := Lib.hid h2
            have H2 : Hid (LeAt W c m' w2) := ⟨_, h2, HP'.out⟩
            have c2 := HC2.out w2 h2
            clear p h2
            go_wp2_with fail
            refine (HL2.out w2 HH2.out).mono ?_
            rintro e w3 ⟨rfl, rfl⟩
            go_wp2_with fail
            refine (HL2.out w2 HH2.out).mono ?_
            rintro e w3 ⟨rfl, rfl⟩
            go_wp2_with fail
            go_roundw
            case rel => exact ⟨i + 1, m', by omega, by omega, rfl, by go_num, H2⟩
            case measure => simp [intOf]; omega
          · have hd3 : ((m : Int) < (m' : Int)) := by omega
            obtain rfl : s = m' := by omega
            clear hsm hcs
            go_wp2_with fail
            refine HL.out.mono ?_
            rintro e w2 ⟨rfl, rfl⟩
            go_wp2_with fail
            refine HB.out.mono ?_
            rintro e w2 p
            obtain ⟨rfl, h2, _⟩ := HI.out.post p
            have HH2 := Lib.hid h2
            have H2 : Hid (LeAt W c s w2) := ⟨_, h2, HP'.out⟩
            have c2 := HC2.out w2 h2
            clear p h2
            go_wp2_with fail
            refine (HL2.out w2 HH2.out).mono ?_
            rintro e w3 ⟨rfl, rfl⟩
            go_wp2_with fail
            refine (HL2.out w2 HH2.out).mono ?_
            rintro e w3 ⟨rfl, rfl⟩
            go_wp2_with fail
            refine (HL2.out w2 HH2.out).mono ?_
            rintro e w3 ⟨rfl, rfl⟩
            go_wp2_with fail
            go_roundw
            case rel => exact ⟨i + 1, s, by omega, by omega, rfl, by go_num, H2⟩
            case measure => simp [intOf]; omega
      · have hlt' : ¬ (i : Int) < xs.length := by omega
        obtain ⟨s0, hs0⟩ := slot_ex 200 I id
        have hs := slot_at id s0 hI.is hs0
        have HL := Lib.hid (len_pre hI hP)
        have HI := Lib.hid hI
        have HP := Lib.hid hP
        have HS0 := Lib.hid hs0
        by_cases hm0 : m = 0
        · subst hm0
          generalize decide (s0 ≠ 0) = bb at hs
          have HS := Lib.hid hs
          clear hs hs0 hI hP H1 HS0
          go_wp2_with fail
          refine (HS.out).mono ?_
          rintro e w2 ⟨rfl, rfl⟩
          go_wp2_with fail
          refine (HL.out).mono ?_
          rintro e w2 ⟨rfl, rfl⟩
          go_wp2_with fail
          refine (HK.out wr).mono ?_
          rintro e w2 ⟨rfl, b2⟩
          have B2 := Lib.hid (HI.out.bl.trans (b2.mono HI.out.bl.size))
          clear b2
          go_wp2_with fail
          go_ret
          exact ⟨rfl, B2.out⟩
        have hd0 : ((m : Int) == 0) = false := by simp; omega
        by_cases hsz : s0 = 0
        · subst hsz
          have HS : Hid (Calls Try.prog 16 #[.pointer (some ⟨c.t, 0, none⟩), .int .i64 id] wr (Told (.tuple #[.int .i64 0, .bool false]) wr)) := hs
          by_cases hid1 : id < 1
          · have hd1 : decide (id < 1) = true := decide_eq_true hid1
            clear hs hs0 hI hP H1 HS0 hid1
            go_wp2_with fail
            refine (HS.out).mono ?_
            rintro e w2 ⟨rfl, rfl⟩
            go_wp2_with fail
            refine (HL.out).mono ?_
            rintro e w2 ⟨rfl, rfl⟩
            go_wp2_with fail
            refine (HK.out wr).mono ?_
            rintro e w2 ⟨rfl, b2⟩
            have B2 := Lib.hid (HI.out.bl.trans (b2.mono HI.out.bl.size))
            clear b2
            go_wp2_with fail
            go_ret
            exact ⟨rfl, B2.out⟩
          · have hd1 : decide (id < 1) = false := decide_eq_false hid1
            have hid2 : (id == id) = true := by simp
            obtain ⟨r, hr⟩ : ∃ r, a % m = r := ⟨_, rfl⟩
            have hrm : r < m := by rw [← hr]; exact Nat.mod_lt _ (by omega)
            have hre : (a : Int) % (m : Int) = (r : Int) := by rw [← hr, Int.natCast_emod]
            have hmp : (0 : Int) < m := by omega
            have hr1 : (r : Int) ≤ 100 := by omega
            have hk : 1 + (r : Int) = (r : Int) + 1 := by omega
            have hm2 := hP.le
            have HF : Hid (Calls Try.prog 12 #[.pointer (some ⟨c.t, 0, none⟩), .slice (some ⟨wr.heap.size, 0, none⟩) 1 1] (wr.alloc (.cells #[.int .i64 (1 + (r : Int))] 3)) (TabPost (.int .i64 0) c 200 (upd I r 0) (wr.alloc (.cells #[.int .i64 (1 + (r : Int))] 3)))) := by
              rw [hk]
              exact Lib.hid (free_one _ 0 hI.is (free_one_is (by omega) (hP.lo r hrm)))
            have HB : Hid (∀ w2, TabB W w2 c 200 (upd I r 0) → Calls Try.prog 10 #[.pointer (some ⟨c.t, 0, none⟩), .int .i64 id] w2 (TabPost (.tuple #[.int .i64 (1 + (r : Int)), .int .i64 0]) c 200 (upd (upd I r 0) r id) w2)) := by
              rw [hk]
              exact Lib.hid (fun w2 h => bind_at id (r + 1) 0 _ h.is id1 (HP.out.again hrm (by omega) HS0.out))
            have HId : Hid (∀ w2, TabB W w2 c 200 (upd (upd I r 0) r id) → Calls Try.prog 17 #[.pointer (some ⟨c.t, 0, none⟩), .int .i64 (1 + (r : Int))] w2 (Told (.tuple #[.int .i64 id, .bool true]) w2)) := by
              rw [hk]
              exact Lib.hid (fun w2 h => by
                have := id_at ((r : Int) + 1) h.is
                rw [idOf_at (by omega), upd_at, show (id != 0) = true by simp; omega] at this
                exact this)
            have HLe : Hid (∀ w2, TabB W w2 c 200 (upd (upd I r 0) r id) → Calls Try.prog 14 #[.pointer (some ⟨c.t, 0, none⟩)] w2 (Told (.int .i64 m) w2)) := Lib.hid (fun w2 h => len_pre h (HP.out.back hrm (by omega)))
            clear hs hs0 hI hP H1 HS0 hid1 hr hk
            go_wp2_with fail
            refine (HS.out).mono ?_
            rintro e w2 ⟨rfl, rfl⟩
            go_wp2_with fail
            refine (HF.out).mono ?_
            rintro e w2 p
            obtain ⟨rfl, h2, _⟩ := (HI.out.fresh ((Below.refl _ _).alloc (Nat.le_refl _) _)).post p
            have H2 := Lib.hid h2
            clear p h2
            go_wp2_with fail
            refine (HB.out w2 H2.out).mono ?_
            rintro e w3 p
            obtain ⟨rfl, h3, _⟩ := H2.out.post p
            have H3 := Lib.hid h3
            clear p h3
            go_wp2_with fail
            refine (HId.out w3 H3.out).mono ?_
            rintro e w4 ⟨rfl, rfl⟩
            go_wp2_with fail
            refine (HLe.out w3 H3.out).mono ?_
            rintro e w4 ⟨rfl, rfl⟩
            go_wp2_with fail
            refine (HK.out w3).mono ?_
            rintro e w4 ⟨rfl, b4⟩
            have B4 := Lib.hid (H3.out.bl.trans (b4.mono H3.out.bl.size))
            clear b4
            go_wp2_with fail
            go_ret
            exact ⟨rfl, B4.out⟩
        · rw [decide_eq_true hsz] at hs
          have HS := Lib.hid hs
          clear hs hs0 hI hP H1 HS0
          go_wp2_with fail
          refine (HS.out).mono ?_
          rintro e w2 ⟨rfl, rfl⟩
          go_wp2_with fail
          refine (HL.out).mono ?_
          rintro e w2 ⟨rfl, rfl⟩
          go_wp2_with fail
          refine (HK.out wr).mono ?_
          rintro e w2 ⟨rfl, b2⟩
          have B2 := Lib.hid (HI.out.bl.trans (b2.mono HI.out.bl.size))
          clear b2
          go_wp2_with fail
          go_ret
          exact ⟨rfl, B2.out⟩
end Go.Proofs.Ythooeehobhegbaa
