/- NamesBoth's walk. -/
import Derived.Test.YthooeehobhegbaaNBp
namespace Go.Proofs.Ythooeehobhegbaa
set_option maxRecDepth 1000000
open Go.ChangeShapes Go.WideShapes Go.ChangeAt Go.RowKit

/-- In the first loop: k have asked. -/
structure BoAt (W : World) (c : Tb) (n : Nat) (xs : List Int) (k : Nat) (wr : World) : Prop where
  ex : ∃ I, TabB W wr c n I ∧ ∀ j, j < k → Had n I (xs.getD j 0)
set_option maxHeartbeats 16000000 in
theorem namesBoth_walk (W : World) (v : Value) (xs : List Int) (hv : ArgN .i64 W v xs) (n : Int) (hn : (Lit.int .u8 n).wf = true) : Calls Try.prog 4 #[v, .int .u8 n] W fun e W' => e = .returned (.bool true) ∧ Below W.heap.size W W' := by
  obtain ⟨n0, n1⟩ := wf_u8 hn
  obtain ⟨n, rfl⟩ := Int.eq_ofNat_of_zero_le n0
  obtain ⟨hv1, hwf, hlen⟩ := hv
  have HK := Lib.hid (fun w => known_any w)
  obtain ⟨va, vc, rfl, hcap, hcell⟩ := ints_form (N := (· < W.heap.size)) hv1
  by_cases hbig : 300 < xs.length
  · have hd : decide ((300 : Int) < (xs.length : Int)) = true := decide_eq_true (by omega)
    clear hcell hv1 hwf hn
    go_enter Try.func4, Try.ntmps4
    go_wp2_with fail
    refine (HK.out W).mono ?_
    rintro e w1 ⟨rfl, b1⟩
    go_wp2_with fail
    go_ret
    exact ⟨rfl, b1⟩
  · have hd : decide ((300 : Int) < (xs.length : Int)) = false := decide_eq_false (by omega)
    have HC : Hid (∀ wr, Below W.heap.size W wr → ∀ k, k < xs.length → ∃ b off, va = some ⟨b, off, none⟩ ∧ wr.cell? ⟨b, off + k, none⟩ = some (.int .i64 (xs.getD k 0))) := Lib.hid (fun wr hb k hk => by
      obtain ⟨a', c', he, _, hx⟩ := ints_form (Ints.only (F := fun i => W.heap.size ≤ i) hv1 ⟨hb.os, hb.tape, hb.output, hb.size, fun i hi _ => hb.block i hi⟩ (fun b hb h => by omega))
      injection he with e1 _ _
      subst e1
      exact hx k hk)
    have HWf : Hid (∀ k, k < xs.length → xs.getD k 0 ≤ 9223372036854775807) := Lib.hid (fun k hk => (wf_i64 (hwf _ (getD_mem hk))).2)
    have hn2 : n ≤ 255 := by omega
    have HN : Hid (Calls Try.prog 9 #[.int .i64 n] W (NewPost n W)) := Lib.hid (new_yes n W (by omega))
    clear hcell hv1 hwf hn n0
    go_enter Try.func4, Try.ntmps4
    go_wp2_with fail
    refine HN.out.mono ?_
    rintro e w1 p
    obtain ⟨c, rfl, h1⟩ := tabB_new p
    have H1 : Hid (BoAt W c n xs 0 w1) := ⟨_, h1, fun j hj => by omega⟩
    clear p h1
    go_wp2_with fail
    go_loopw [7] (fun s7 wr => ∃ i : Nat, i ≤ xs.length ∧ s7 = .int .i64 i ∧ Hid (BoAt W c n xs i wr)) (fun s7 _ => xs.length - (intOf s7).toNat)
    case atStart => exact ⟨0, Nat.zero_le _, rfl, H1⟩
    case round =>
      clear H1
      obtain ⟨i, hi, rfl, H1⟩ := hrel
      obtain ⟨I, hI, hP⟩ := H1.out.ex
      by_cases hlt : i < xs.length
      · have hlt' : (i : Int) < xs.length := by omega
        obtain ⟨b, off, rfl, c1⟩ := HC.out wr hI.bl i hlt
        obtain ⟨x, hx⟩ : ∃ x, xs.getD i 0 = x := ⟨_, rfl⟩
        have hx2 := HWf.out i hlt
        rw [hx] at c1 hx2
        obtain ⟨s, t, I', hb⟩ := bind_ex n I x
        have HB := Lib.hid (bind_at x s t I' hI.is hx2 hb)
        have HI := Lib.hid hI
        have HP' : Hid (∀ j, j < i + 1 → Had n I' (xs.getD j 0)) := Lib.hid (fun j hj => by
          by_cases hji : j = i
          · rw [hji, hx]; exact hb.had
          · exact (hP j (by omega)).keep hb)
        clear hx hI hP hb H1
        go_wp2_with fail
        refine HB.out.mono ?_
        rintro e w2 p
        obtain ⟨rfl, h2, _⟩ := HI.out.post p
        have H2 : Hid (BoAt W c n xs (i + 1) w2) := ⟨_, h2, HP'.out⟩
        clear p h2
        go_wp2_with fail
        go_roundw
        case rel => exact ⟨i + 1, by omega, by go_num, H2⟩
        case measure => simp [intOf]; omega
      · have hlt' : ¬ (i : Int) < xs.length := by omega
        obtain rfl : i = xs.length := by omega
        have HP := Lib.hid hP
        have HI := Lib.hid hI
        have HOk := Lib.hid hI.is.ok
        clear hI hP H1
        go_wp2_with fail
        clear hlt' hlt
        go_loopw [8] (fun s8 wx => ∃ k : Nat, k ≤ xs.length ∧ s8 = .int .i64 k ∧ Hid (TabB W wx c n I)) (fun s8 _ => xs.length - (intOf s8).toNat)
        case atStart => exact ⟨0, Nat.zero_le _, rfl, HI⟩
        case round =>
          clear HI
          obtain ⟨k, hk, rfl, HI⟩ := hrel
          by_cases hlt : k < xs.length
          · have hlt' : (k : Int) < xs.length := by omega
            obtain ⟨b, off, rfl, c1⟩ := HC.out wr HI.out.bl k hlt
            have hhad := HP.out k hlt
            have hx2 := HWf.out k hlt
            generalize xs.getD k 0 = x at c1 hhad hx2
            obtain ⟨s, hs⟩ := slot_ex n I x
            have hS := slot_at x s HI.out.is hs
            have hD := id_at (s : Int) HI.out.is
            by_cases hs0 : s = 0
            · subst hs0
              obtain ⟨t, ht, hb⟩ := hhad.none HOk.out hs
              rw [show ((0 : Nat) : Int) = 0 from rfl, idOf_zero] at hD
              have HS : Hid (Calls Try.prog 16 #[.pointer (some ⟨c.t, 0, none⟩), .int .i64 x] wr (Told (.tuple #[.int .i64 0, .bool false]) wr)) := hS
              have HD : Hid (Calls Try.prog 17 #[.pointer (some ⟨c.t, 0, none⟩), .int .i64 0] wr (Told (.tuple #[.int .i64 0, .bool false]) wr)) := hD
              have HB : Hid (Calls Try.prog 10 #[.pointer (some ⟨c.t, 0, none⟩), .int .i64 x] wr (TabPost (.tuple #[.int .i64 0, .int .i64 t]) c n I wr)) := bind_at x 0 t I HI.out.is hx2 hb
              clear hS hD hb hhad hs
              go_wp2_with fail
              refine HS.out.mono ?_
              rintro e w2 ⟨rfl, rfl⟩
              go_wp2_with fail
              refine HD.out.mono ?_
              rintro e w2 ⟨rfl, rfl⟩
              go_wp2_with fail
              refine HB.out.mono ?_
              rintro e w2 p
              obtain ⟨rfl, h2, _⟩ := HI.out.post p
              have H2 := Lib.hid h2
              clear p h2
              go_wp2_with fail
              go_roundw
              case rel => exact ⟨k + 1, by omega, by go_num, H2⟩
              case measure => simp [intOf]; omega
            · obtain ⟨hx1, hs1, hid⟩ := slot_pos HOk.out hs hs0
              rw [hid, show (x != 0) = true by simp; omega] at hD
              rw [decide_eq_true hs0] at hS
              have HS := Lib.hid hS
              have HD := Lib.hid hD
              have HB : Hid (Calls Try.prog 10 #[.pointer (some ⟨c.t, 0, none⟩), .int .i64 x] wr (TabPost (.tuple #[.int .i64 s, .int .i64 0]) c n I wr)) := Lib.hid (bind_at x s 0 I HI.out.is hx2 (.inr (.inl ⟨hx1, hs1, hs, rfl, rfl⟩)))
              clear hS hD hhad hs hid hs0
              go_wp2_with fail
              refine HS.out.mono ?_
              rintro e w2 ⟨rfl, rfl⟩
              go_wp2_with fail
              refine HD.out.mono ?_
              rintro e w2 ⟨rfl, rfl⟩
              go_wp2_with fail
              refine HB.out.mono ?_
              rintro e w2 p
              obtain ⟨rfl, h2, _⟩ := HI.out.post p
              have H2 := Lib.hid h2
              clear p h2
              go_wp2_with fail
              go_roundw
              case rel => exact ⟨k + 1, by omega, by go_num, H2⟩
              case measure => simp [intOf]; omega
          · have hlt' : ¬ (k : Int) < xs.length := by omega
            have HSs := Lib.hid (slots_b HI.out)
            have hln := slotsN_len I n
            have hcl := cntI_le I n
            clear HP HWf HC
            go_wp2_with fail
            refine HSs.out.mono ?_
            rintro e w2 ⟨a2, cap2, rfl, i2, h2, b2⟩
            have HI2 := Lib.hid i2
            have H2 := Lib.hid h2
            have HB2 := Lib.hid b2
            clear i2 h2 b2 HSs
            obtain ⟨l, hl⟩ : ∃ l, slotsN I n = l := ⟨_, rfl⟩
            have HL := Lib.hid hl
            rw [hl] at HI2 hln
            rw [hl]
            clear hl
            have hll : l.length ≤ 255 := by omega
            have HLn := Lib.hid hln
            clear hln hcl
            go_wp2_with (at_builtin; refine append_ints (N := (wr.heap.size ≤ ·)) rfl _ _ rfl w2.heap.size (.slice none 0 0) [] rfl (World.ownsRow_nil w2 w2.heap.size 3 1) (.slice a2 l.length cap2) (intsN l) rfl HI2.out ?a1 ?a2 ?_)
            case a1 => rw [intsN_len]; simp; omega
            case a2 => exact Nat.le_refl _
            intro v3 w3 o3 b3 _
            have HO3 : Hid (w3.ownsRow w2.heap.size 3 1 v3 (intsN l).length ((intsN l).map (Value.int .i64))) := o3
            have HB3 := Lib.hid b3
            have H3 := Lib.hid (H2.out.fresh b3)
            have HI3 := Lib.hid (ints_fresh HI2.out b3)
            clear o3 b3
            go_wp2_with (at_builtin; refine append_ints (N := (wr.heap.size ≤ ·)) rfl _ _ rfl w2.heap.size v3 (intsN l) rfl HO3.out (.slice a2 l.length cap2) (intsN l) rfl HI3.out ?a3 ?a4 ?_)
            case a3 => rw [intsN_len]; omega
            case a4 => exact HB3.out.size
            intro v4 w4 o4 b4 g4
            have HO4 : Hid (w4.ownsRow w2.heap.size 3 1 v4 (intsN l ++ intsN l).length ((intsN l ++ intsN l).map (Value.int .i64))) := by
              show w4.ownsRow _ _ _ _ _ _
              rw [List.length_append, List.map_append]; exact o4
            have H4 : Hid (TabB W w4 c n I) := H2.out.fresh (HB3.out.trans b4)
            have HI4 : Hid (Ints (wr.heap.size ≤ ·) w4 (.slice a2 l.length cap2) (intsN l)) := ints_fresh HI2.out (HB3.out.trans b4)
            clear o4 b4 g4 HB3
            have HN2 : Hid (∀ b, wr.heap.size ≤ b → ¬ TF c b) := Lib.hid (fun b hb hT => by have := HI.out.is.lt b hT; omega)
            have HLe : Hid (∀ w5, TabB W w5 c n I → Calls Try.prog 14 #[.pointer (some ⟨c.t, 0, none⟩)] w5 (Told (.int .i64 l.length) w5)) := Lib.hid (fun w5 h => by rw [HLn.out]; exact len_at h.is)
            have HFa : Hid (∀ w5, TabB W w5 c n I → Ints (wr.heap.size ≤ ·) w5 (.slice a2 l.length cap2) (intsN l) → Calls Try.prog 12 #[.pointer (some ⟨c.t, 0, none⟩), .slice a2 l.length cap2] w5 (TabPost (.int .i64 0) c n (clr I (intsN l)) w5)) :=
              Lib.hid (fun w5 h hv => by
                have hf : FreeIs n I (intsN (slotsN I n)) 0 (clr I (intsN (slotsN I n))) := free_all_is
                rw [HL.out] at hf
                exact free_at _ _ 0 _ h.is hv HN2.out (by rw [intsN_len]; omega) hf)
            have HZ : Hid (∀ i, i < n → clr I (intsN l) i = mI g7 0 i) := Lib.hid (fun i hi => by
              rw [mI_zero, ← HL.out]; exact clr_all hi)
            have HL0 : Hid (∀ w5, TabB W w5 c n (clr I (intsN l)) → Calls Try.prog 14 #[.pointer (some ⟨c.t, 0, none⟩)] w5 (Told (.int .i64 0) w5)) := Lib.hid (fun w5 h => by
              have := len_at h.is
              rw [cntI_zero (fun i hi => by rw [HZ.out i hi, mI_zero])] at this
              exact this)
            have HBi : Hid (∀ w5 (i : Nat), i < n → TabB W w5 c n (mI g7 i) → Calls Try.prog 10 #[.pointer (some ⟨c.t, 0, none⟩), .int .i64 (1000000 + 7 * (i : Int))] w5 (TabPost (.tuple #[.int .i64 ((i : Int) + 1), .int .i64 0]) c n (mI g7 (i + 1)) w5)) :=
              Lib.hid (fun w5 i hi h => bind_at (g7 i) (i + 1) 0 _ h.is (by unfold g7; omega) (mI_bind g7_apart (by omega) hi))
            have HB3 : Hid (∀ w5, TabB W w5 c n (mI g7 n) → Calls Try.prog 10 #[.pointer (some ⟨c.t, 0, none⟩), .int .i64 3] w5 (TabPost (.tuple #[.int .i64 0, .int .i64 3]) c n (mI g7 n) w5)) :=
              Lib.hid (fun w5 h => bind_at 3 0 3 _ h.is (by omega) g7_three)
            have HFt : Hid (l ≠ [] → Calls Try.prog 12 #[.pointer (some ⟨c.t, 0, none⟩), v4] w4 (TabPost (.int .i64 4) c n I w4)) :=
              Lib.hid (fun h0 => free_at (N := (w2.heap.size ≤ ·)) v4 _ 4 _ H4.out.is (Vals.kind (own_row HO4.out) (fun b _ h => h.1)) (fun b hb hT => HN2.out b (by have := HB2.out.size; omega) hT) (by rw [List.length_append, intsN_len]; omega) (twice_is h0))
            have hln2 : ¬ n < l.length := by have := HLn.out; have := cntI_le I n; omega
            go_wp2_with fail
            refine (HLe.out w4 H4.out).mono ?_
            rintro e w5 ⟨rfl, rfl⟩
            go_wp2_with fail
            refine (HLe.out w4 H4.out).mono ?_
            rintro e w5 ⟨rfl, rfl⟩
            by_cases hl0 : l = []
            · have hz : ¬ ((0 : Int) < (l.length : Int)) := by rw [hl0]; simp
              clear hl0
              go_wp2_with fail
              refine (HFa.out w4 H4.out HI4.out).mono ?_
              rintro e w6 p
              obtain ⟨rfl, h6, _⟩ := H4.out.post p
              have H6 := Lib.hid h6
              clear p h6
              go_wp2_with fail
              refine (HL0.out w6 H6.out).mono ?_
              rintro e w7 ⟨rfl, rfl⟩
              have H7 : Hid (TabB W w6 c n (mI g7 0)) := H6.out.congr HZ.out
              clear H6 H2 H3 H4 HFa HL0 HZ HLe HI HI2 HI3 HI4 HO3 HO4 HFt
              go_wp2_with fail
              clear hlt' hlt hz hln2
              go_loopw [17] (fun s17 wx => ∃ i : Nat, i ≤ n ∧ s17 = .int .i64 i ∧ Hid (TabB W wx c n (mI g7 i))) (fun s17 _ => n - (intOf s17).toNat)
              case atStart => exact ⟨0, Nat.zero_le _, rfl, H7⟩
              case round =>
                clear H7
                obtain ⟨i, hi, rfl, H7⟩ := hrel
                by_cases hlt : i < n
                · have hlt' : (i : Int) < n := by omega
                  have HB := Lib.hid (HBi.out _ i hlt H7.out)
                  go_wp2_with fail
                  refine HB.out.mono ?_
                  rintro e w8 p
                  obtain ⟨rfl, h8, _⟩ := H7.out.post p
                  have H8 := Lib.hid h8
                  clear p h8
                  go_wp2_with fail
                  go_roundw
                  case rel => exact ⟨i + 1, by omega, by go_num, H8⟩
                  case measure => simp [intOf]; omega
                · obtain rfl : i = n := by omega
                  have hlt' : ¬ (i : Int) < i := by omega
                  have HB := Lib.hid (HB3.out _ H7.out)
                  go_wp2_with fail
                  refine HB.out.mono ?_
                  rintro e w8 p
                  obtain ⟨rfl, h8, _⟩ := H7.out.post p
                  have H8 := Lib.hid h8
                  clear p h8
                  go_wp2_with fail
                  refine (HK.out w8).mono ?_
                  rintro e w9 ⟨rfl, b9⟩
                  have B9 := Lib.hid (H8.out.bl.trans (b9.mono H8.out.bl.size))
                  clear b9
                  go_wp2_with fail
                  go_ret
                  exact ⟨rfl, B9.out⟩
            · have hz : (0 : Int) < (l.length : Int) := by have := List.length_pos_iff.2 hl0; omega
              have HF2 := Lib.hid (HFt.out hl0)
              clear hl0
              go_wp2_with fail
              refine HF2.out.mono ?_
              rintro e w5 p
              have oF : Only (TF c) w4 w5 := p.2.2
              obtain ⟨rfl, h5, _⟩ := H4.out.post p
              have H5 := Lib.hid h5
              have HI5 : Hid (Ints (wr.heap.size ≤ ·) w5 (.slice a2 l.length cap2) (intsN l)) := Ints.only HI4.out oF (fun b hb => HN2.out b hb)
              clear p h5 oF HF2
              go_wp2_with fail
              refine (HFa.out w5 H5.out HI5.out).mono ?_
              rintro e w6 p
              obtain ⟨rfl, h6, _⟩ := H5.out.post p
              have H6 := Lib.hid h6
              clear p h6
              go_wp2_with fail
              refine (HL0.out w6 H6.out).mono ?_
              rintro e w7 ⟨rfl, rfl⟩
              have H7 : Hid (TabB W w6 c n (mI g7 0)) := H6.out.congr HZ.out
              clear H6 H2 H3 H4 HFa HL0 HZ HLe HI HI2 HI3 HI4 HO3 HO4 HFt
              go_wp2_with fail
              clear hlt' hlt hz hln2
              go_loopw [17] (fun s17 wx => ∃ i : Nat, i ≤ n ∧ s17 = .int .i64 i ∧ Hid (TabB W wx c n (mI g7 i))) (fun s17 _ => n - (intOf s17).toNat)
              case atStart => exact ⟨0, Nat.zero_le _, rfl, H7⟩
              case round =>
                clear H7
                obtain ⟨i, hi, rfl, H7⟩ := hrel
                by_cases hlt : i < n
                · have hlt' : (i : Int) < n := by omega
                  have HB := Lib.hid (HBi.out _ i hlt H7.out)
                  go_wp2_with fail
                  refine HB.out.mono ?_
                  rintro e w8 p
                  obtain ⟨rfl, h8, _⟩ := H7.out.post p
                  have H8 := Lib.hid h8
                  clear p h8
                  go_wp2_with fail
                  go_roundw
                  case rel => exact ⟨i + 1, by omega, by go_num, H8⟩
                  case measure => simp [intOf]; omega
                · obtain rfl : i = n := by omega
                  have hlt' : ¬ (i : Int) < i := by omega
                  have HB := Lib.hid (HB3.out _ H7.out)
                  go_wp2_with fail
                  refine HB.out.mono ?_
                  rintro e w8 p
                  obtain ⟨rfl, h8, _⟩ := H7.out.post p
                  have H8 := Lib.hid h8
                  clear p h8
                  go_wp2_with fail
                  refine (HK.out w8).mono ?_
                  rintro e w9 ⟨rfl, b9⟩
                  have B9 := Lib.hid (H8.out.bl.trans (b9.mono H8.out.bl.size))
                  clear b9
                  go_wp2_with fail
                  go_ret
                  exact ⟨rfl, B9.out⟩
end Go.Proofs.Ythooeehobhegbaa
