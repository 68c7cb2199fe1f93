/- NamesSteps' walk. -/
import Derived.Test.YthooeehobhegbaaNRf
import Derived.Test.YthooeehobhegbaaNLay
namespace Go.Proofs.Ythooeehobhegbaa
set_option maxRecDepth 1000000
open Go.ChangeShapes Go.WideShapes Go.ChangeAt Go.RowKit

/-- Between two rounds: the table and the chapter's row have the same ids. -/
structure SpAt (W : World) (c : Tb) (n b k : Nat) (I : Nat → Int) (wr : World) : Prop where
  tab : TabB W wr c n I
  row : XAt (fun g => ¬ TF c g) wr b n I
  fit : n ≤ k
theorem SpAt.fresh {W wr wx : World} {c : Tb} {n b k : Nat} {I : Nat → Int} (h : SpAt W c n b k I wr) (hb : Below wr.heap.size wr wx) : SpAt W c n b k I wx := ⟨h.tab.fresh hb, h.row.fresh hb, h.fit⟩
theorem dos_form {W : World} {v : Value} {L : List Todo} (h : Dos W v L) : ∃ a c, v = .slice a L.length c ∧ ∀ i, i < L.length → ∃ b off q x, a = some ⟨b, off, none⟩ ∧ (∀ wr, Below W.heap.size W wr → wr.cell? ⟨b, off + i * 2, none⟩ = some (.int .i64 q) ∧ wr.cell? ⟨b, off + i * 2 + 1, none⟩ = some (.int .i64 x)) ∧ x ≤ 9223372036854775807 := by
  obtain ⟨a, c, rfl, _, hw, h⟩ := h
  refine ⟨a, c, rfl, fun i hi => ?_⟩
  rcases h with h | ⟨b, off, rfl, h⟩
  · omega
  · obtain ⟨h1, h2⟩ := h i L[i] (List.getElem?_eq_getElem hi)
    refine ⟨b, off, L[i].q, L[i].k, rfl, fun wr hb => ?_, (wf_i64 (hw _ (List.getElem_mem hi)).2).2⟩
    have o := Only.of_below (F := fun _ => False) hb
    exact ⟨(o.cell (p := ⟨b, off + i * 2, none⟩) (World.block_lt_of_cell? _ _ h1) id).trans h1, (o.cell (p := ⟨b, off + i * 2 + 1, none⟩) (World.block_lt_of_cell? _ _ h2) id).trans h2⟩
set_option maxHeartbeats 4000000 in
theorem namesSteps_known (W : World) (n : Int) (a1 c1 : _) (l1 : Nat) (a2 c2 : _) (l2 : Nat) (h : (300 < n ∧ n ≤ 16383) ∨ 200 < l1 ∨ 50 < l2) : Calls Try.prog 3 #[.int .i64 n, .slice a1 l1 c1, .slice a2 l2 c2] W fun e W' => e = .returned (.bool true) ∧ Below W.heap.size W W' := by
  have HK := Lib.hid (fun w => known_any w)
  by_cases h1 : 300 < n
  · by_cases h2 : n ≤ 16383
    · clear h
      go_enter Try.func3, Try.ntmps3
      go_wp2_with fail
      refine (HK.out W).mono ?_
      rintro e w1 ⟨rfl, b1⟩
      go_wp2_with fail
      go_ret
      exact ⟨rfl, b1⟩
    · by_cases h3 : 200 < l1
      · have h3' : (200 : Int) < (l1 : Int) := by omega
        clear h h3
        go_enter Try.func3, Try.ntmps3
        go_wp2_with fail
        refine (HK.out W).mono ?_
        rintro e w1 ⟨rfl, b1⟩
        go_wp2_with fail
        go_ret
        exact ⟨rfl, b1⟩
      · have h4 : 50 < l2 := by omega
        have h3' : ¬ (200 : Int) < (l1 : Int) := by omega
        have h4' : (50 : Int) < (l2 : Int) := by omega
        clear h h3 h4
        go_enter Try.func3, Try.ntmps3
        go_wp2_with fail
        refine (HK.out W).mono ?_
        rintro e w1 ⟨rfl, b1⟩
        go_wp2_with fail
        go_ret
        exact ⟨rfl, b1⟩
  · by_cases h3 : 200 < l1
    · have h3' : (200 : Int) < (l1 : Int) := by omega
      clear h h3
      go_enter Try.func3, Try.ntmps3
      go_wp2_with fail
      refine (HK.out W).mono ?_
      rintro e w1 ⟨rfl, b1⟩
      go_wp2_with fail
      go_ret
      exact ⟨rfl, b1⟩
    · have h4 : 50 < l2 := by omega
      have h3' : ¬ (200 : Int) < (l1 : Int) := by omega
      have h4' : (50 : Int) < (l2 : Int) := by omega
      clear h h3 h4
      go_enter Try.func3, Try.ntmps3
      go_wp2_with fail
      refine (HK.out W).mono ?_
      rintro e w1 ⟨rfl, b1⟩
      go_wp2_with fail
      go_ret
      exact ⟨rfl, b1⟩
set_option maxHeartbeats 4000000 in
theorem namesSteps_out (W : World) (n : Int) (a1 c1 : _) (l1 : Nat) (a2 c2 : _) (l2 : Nat) (h0 : n < 0 ∨ 16383 < n) (h1 : ¬ 200 < l1) (h2 : ¬ 50 < l2) : Calls Try.prog 3 #[.int .i64 n, .slice a1 l1 c1, .slice a2 l2 c2] W fun e W' => e = .returned (.bool true) ∧ Below W.heap.size W W' := by
  have HK := Lib.hid (fun w => known_any w)
  have HN := Lib.hid (new_no n W h0)
  have h1' : ¬ (200 : Int) < (l1 : Int) := by omega
  have h2' : ¬ (50 : Int) < (l2 : Int) := by omega
  clear h1 h2
  rcases h0 with h0 | h0
  · have h3 : ¬ 300 < n := by omega
    go_enter Try.func3, Try.ntmps3
    go_wp2_with fail
    refine HN.out.mono ?_
    rintro e w1 ⟨rfl, rfl⟩
    go_wp2_with fail
    refine (HK.out W).mono ?_
    rintro e w1 ⟨rfl, b1⟩
    go_wp2_with fail
    go_ret
    exact ⟨rfl, b1⟩
  · have h3 : 300 < n := by omega
    have h4 : ¬ n ≤ 16383 := by omega
    have h5 : ¬ n < 0 := by omega
    go_enter Try.func3, Try.ntmps3
    go_wp2_with fail
    refine HN.out.mono ?_
    rintro e w1 ⟨rfl, rfl⟩
    go_wp2_with fail
    refine (HK.out W).mono ?_
    rintro e w1 ⟨rfl, b1⟩
    go_wp2_with fail
    go_ret
    exact ⟨rfl, b1⟩
set_option maxHeartbeats 32000000 in
theorem namesSteps_in (W : World) (n : Nat) (hn : n ≤ 300) (v1 : Value) (L : List Todo) (hv1 : Dos W v1 L) (hL : L.length ≤ 200) (v2 : Value) (ys : List Int) (hv2 : ArgN .i64 W v2 ys) (hY : ys.length ≤ 50) : Calls Try.prog 3 #[.int .i64 n, v1, v2] W fun e W' => e = .returned (.bool true) ∧ Below W.heap.size W W' := by
  have HK := Lib.hid (fun w => known_any w)
  have HN : Hid (Calls Try.prog 9 #[.int .i64 n] W (NewPost n W)) := Lib.hid (new_yes n W (by omega))
  have hmk : ∀ w, (Instr.makeSlice 23 (.int .i64 (n : Int)) (.int .i64 (n : Int))).run Try.prog w = .ok (.slice (some ⟨w.heap.size, 0, none⟩) n n) (w.alloc (.cells (madeCells (Value.int .i64 0).cells n) 3)) := fun w => mk_words w n n (Nat.le_refl _) (by omega)
  obtain ⟨a1, c1, rfl, hC⟩ := dos_form hv1
  have HC := Lib.hid hC
  obtain ⟨hv2, hwf, _⟩ := hv2
  obtain ⟨a2, c2, rfl, _, _⟩ := ints_form (N := (· < W.heap.size)) hv2
  have HC2 : Hid (∀ wr, Below W.heap.size W wr → ∀ j, j < ys.length → ∃ b off, a2 = some ⟨b, off, none⟩ ∧ wr.cell? ⟨b, off + j, none⟩ = some (.int .i64 (ys.getD j 0))) := Lib.hid (fun wr hb j hj => by
    obtain ⟨a', c', he, _, hx⟩ := ints_form (Ints.only (F := fun i => W.heap.size ≤ i) hv2 ⟨hb.os, hb.tape, hb.output, hb.size, fun i hi _ => hb.block i hi⟩ (fun b hb h => by omega))
    injection he with e1 _ _
    subst e1
    exact hx j hj)
  have hn2 : n ≤ 16383 := by omega
  have g1 : ¬ (300 : Int) < (n : Int) := by omega
  have g2 : ¬ (200 : Int) < (L.length : Int) := by omega
  have g3 : ¬ (50 : Int) < (ys.length : Int) := by omega
  have g4 : ¬ (n : Int) < 0 := by omega
  have g5 : ¬ (16383 : Int) < (n : Int) := by omega
  clear hv1 hC hv2 hwf
  go_enter Try.func3, Try.ntmps3
  go_wp2_with fail
  refine HN.out.mono ?_
  rintro e w1 p
  obtain ⟨c, rfl, h1⟩ := tabB_new p
  have hlt1 := h1.is.lt
  have H1 := Lib.hid h1
  have HX1 : Hid (SpAt W c n w1.heap.size n (fun _ => 0) (w1.alloc (.cells (madeCells (Value.int .i64 0).cells n) 3))) := ⟨h1.fresh ((Below.refl _ _).alloc (Nat.le_refl _) _), ⟨fun hT => by have := hlt1 _ hT; omega, made_row w1 n, by simp⟩, Nat.le_refl _⟩
  clear p h1 hlt1 g4 g5
  go_wp2_with fail
  clear g1 g2 g3
  go_loopw [9, 10] (fun s9 s10 wr => ∃ (b k i : Nat) (I : Nat → Int), s9 = .slice (some ⟨b, 0, none⟩) n k ∧ s10 = .int .i64 i ∧ i ≤ L.length ∧ Hid (SpAt W c n b k I wr)) (fun _ s10 _ => L.length - (intOf s10).toNat)
  case atStart => exact ⟨_, _, 0, _, rfl, rfl, Nat.zero_le _, HX1⟩
  case round =>
    clear HX1 H1
    obtain ⟨b, k, i, I, rfl, rfl, hi, HX⟩ := hrel
    by_cases hlt : i < L.length
    · have hlt' : (i : Int) < L.length := by omega
      obtain ⟨ba, off, q, x, rfl, hat, hx2⟩ := HC.out i hlt
      obtain ⟨d0, d1⟩ := hat wr HX.out.tab.bl
      have HD := Lib.hid hat
      clear hat
      by_cases hq : q = 1
      · subst hq
        obtain ⟨s, t, I', hb⟩ := bind_ex n I x
        have HB := Lib.hid (bind_at x s t I' HX.out.tab.is hx2 hb)
        have HR : Hid (∀ w2, TabB W w2 c n I' → XAt (fun g => ¬ TF c g) w2 b n I → Calls Try.prog 11 #[.slice (some ⟨b, 0, none⟩) n k, .int .i64 x] w2 (RBPost (fun g => ¬ TF c g) n I' s t w2)) :=
          Lib.hid (fun w2 h hx => rbind_any x s t hx HX.out.tab.is.ok hn2 HX.out.fit (fun g hg hT => by have := h.is.lt g hT; omega) hb)
        have HLen : Hid (∀ w3, TabB W w3 c n I' → Calls Try.prog 14 #[.pointer (some ⟨c.t, 0, none⟩)] w3 (Told (.int .i64 ((slotsN I' n).length : Nat)) w3)) := Lib.hid (fun w3 h => by rw [slotsN_len]; exact len_at h.is)
        have HSl : Hid (∀ w3 b' k', XAt (fun g => ¬ TF c g) w3 b' n I' → Calls Try.prog 15 #[.slice (some ⟨b', 0, none⟩) n k'] w3 (GaveN (slotsN I' n) w3)) := Lib.hid (fun w3 b' k' h => rslots_any h hn2)
        generalize slotsN I' n = l at HLen HSl
        clear hb
        go_wp2_with fail
        refine HB.out.mono ?_
        rintro e w3 p
        have o3 : Only (TF c) wr w3 := p.2.2
        obtain ⟨rfl, h3, _⟩ := HX.out.tab.post p
        have H3 : Hid (TabB W w3 c n I' ∧ XAt (fun g => ¬ TF c g) w3 b n I) := Lib.hid ⟨h3, HX.out.row.only o3 (fun _ h => h)⟩
        clear p h3 o3 d0 d1 HB HX
        obtain ⟨d0, d1⟩ := HD.out w3 H3.out.1.bl
        clear HD
        go_wp2_with fail
        refine (HR.out w3 H3.out.1 H3.out.2).mono ?_
        rintro e w4 ⟨b', k', rfl, hk', hx', b4⟩
        have H4 : Hid (SpAt W c n b' k' I' w4) := ⟨H3.out.1.fresh b4, hx', hk'⟩
        clear hx' hk' b4 HR H3
        go_wp2_with fail
        refine (HLen.out w4 H4.out.tab).mono ?_
        rintro e w5 ⟨rfl, rfl⟩
        go_wp2_with fail
        refine (HSl.out w4 b' k' H4.out.row).mono ?_
        rintro e w5 ⟨a5, cap5, rfl, _, b5⟩
        have H5 : Hid (SpAt W c n b' k' I' w5) := H4.out.fresh b5
        clear b5
        go_wp2_with fail
        go_roundw
        case rel => exact ⟨b', k', i + 1, I', rfl, by go_num, by omega, H5⟩
        case measure => simp [intOf]; omega
      · have hq' : (q == 1) = false := by simpa using hq
        obtain ⟨t, I', hf⟩ := free_ex n I [x]
        have HB := Lib.hid (free_one x t HX.out.tab.is hf)
        have HR : Hid (∀ w2, TabB W w2 c n I' → XAt (fun g => ¬ TF c g) w2 b n I → Calls Try.prog 13 #[.slice (some ⟨b, 0, none⟩) n k, .int .i64 x] w2 (RFPost (fun g => ¬ TF c g) n I' t w2)) :=
          Lib.hid (fun w2 h hx => rfree_any x t hx hn2 HX.out.fit (fun g hg hT => by have := h.is.lt g hT; omega) hf)
        have HLen : Hid (∀ w3, TabB W w3 c n I' → Calls Try.prog 14 #[.pointer (some ⟨c.t, 0, none⟩)] w3 (Told (.int .i64 ((slotsN I' n).length : Nat)) w3)) := Lib.hid (fun w3 h => by rw [slotsN_len]; exact len_at h.is)
        have HSl : Hid (∀ w3 b' k', XAt (fun g => ¬ TF c g) w3 b' n I' → Calls Try.prog 15 #[.slice (some ⟨b', 0, none⟩) n k'] w3 (GaveN (slotsN I' n) w3)) := Lib.hid (fun w3 b' k' h => rslots_any h hn2)
        generalize slotsN I' n = l at HLen HSl
        clear hf hq
        go_wp2_with fail
        refine HB.out.mono ?_
        rintro e w3 p
        have bA : Below wr.heap.size wr (wr.alloc (.cells #[.int .i64 x] 3)) := (Below.refl _ _).alloc (Nat.le_refl _) _
        have o3 : Only (TF c) (wr.alloc (.cells #[.int .i64 x] 3)) w3 := p.2.2
        obtain ⟨rfl, h3, _⟩ := (HX.out.tab.fresh bA).post p
        have H3 : Hid (TabB W w3 c n I' ∧ XAt (fun g => ¬ TF c g) w3 b n I) := Lib.hid ⟨h3, (HX.out.row.fresh bA).only o3 (fun _ h => h)⟩
        clear p h3 o3 bA d0 d1 HB HX
        obtain ⟨d0, d1⟩ := HD.out w3 H3.out.1.bl
        clear HD
        go_wp2_with fail
        refine (HR.out w3 H3.out.1 H3.out.2).mono ?_
        rintro e w4 ⟨b', k', rfl, hk', hx', b4⟩
        have H4 : Hid (SpAt W c n b' k' I' w4) := ⟨H3.out.1.fresh b4, hx', hk'⟩
        clear hx' hk' b4 HR H3
        go_wp2_with fail
        refine (HLen.out w4 H4.out.tab).mono ?_
        rintro e w5 ⟨rfl, rfl⟩
        go_wp2_with fail
        refine (HSl.out w4 b' k' H4.out.row).mono ?_
        rintro e w5 ⟨a5, cap5, rfl, _, b5⟩
        have H5 : Hid (SpAt W c n b' k' I' w5) := H4.out.fresh b5
        clear b5
        go_wp2_with fail
        go_roundw
        case rel => exact ⟨b', k', i + 1, I', rfl, by go_num, by omega, H5⟩
        case measure => simp [intOf]; omega
    · have hlt' : ¬ (i : Int) < L.length := by omega
      clear hlt HC
      go_wp2_with fail
      clear hlt' hi
      go_loopw [15] (fun s15 wx => ∃ j : Nat, j ≤ ys.length ∧ s15 = .int .i64 j ∧ Hid (SpAt W c n b k I wx)) (fun s15 _ => ys.length - (intOf s15).toNat)
      case atStart => exact ⟨0, Nat.zero_le _, rfl, HX⟩
      case round =>
        clear HX
        obtain ⟨j, hj, rfl, HX⟩ := hrel
        by_cases hlt : j < ys.length
        · have hlt' : (j : Int) < ys.length := by omega
          obtain ⟨ba, off, rfl, d1⟩ := HC2.out wr HX.out.tab.bl j hlt
          generalize ys.getD j 0 = y at d1
          obtain ⟨s, hs⟩ := slot_ex n I y
          have hS := slot_at y s HX.out.tab.is hs
          have hD := id_at y HX.out.tab.is
          have hF := rfind_any (k := k) y s HX.out.row HX.out.tab.is.ok hn2 hs
          obtain ⟨bz, hbz⟩ : ∃ bz, decide ((0 : Int) < (s : Int)) = bz := ⟨_, rfl⟩
          rw [show decide (s ≠ 0) = bz by rw [← hbz]; exact decide_eq_decide.2 (by omega)] at hS
          clear hs
          generalize (s : Int) = z at hS hF hbz
          by_cases y1 : y < 1
          · rw [show idOf n I y = 0 from if_neg (by omega)] at hD
            have HF : Hid (Calls Try.prog 18 #[.slice (some ⟨b, 0, none⟩) n k, .int .i64 y] wr (Told (.int .i64 z) wr)) := hF
            have HS : Hid (Calls Try.prog 16 #[.pointer (some ⟨c.t, 0, none⟩), .int .i64 y] wr (Told (.tuple #[.int .i64 z, .bool bz]) wr)) := hS
            have HD : Hid (Calls Try.prog 17 #[.pointer (some ⟨c.t, 0, none⟩), .int .i64 y] wr (Told (.tuple #[.int .i64 0, .bool false]) wr)) := hD
            clear hF hS hD
            go_wp2_with fail
            refine HS.out.mono ?_
            rintro e w2 ⟨rfl, rfl⟩
            go_wp2_with fail
            refine HD.out.mono ?_
            rintro e w2 ⟨rfl, rfl⟩
            go_wp2_with fail
            refine HF.out.mono ?_
            rintro e w2 ⟨rfl, rfl⟩
            go_wp2_with fail
            go_roundw
            case rel => exact ⟨j + 1, by omega, by go_num, HX⟩
            case measure => simp [intOf]; omega
          · by_cases y2 : (n : Int) < y
            · rw [show idOf n I y = 0 from if_neg (by omega)] at hD
              have HF : Hid (Calls Try.prog 18 #[.slice (some ⟨b, 0, none⟩) n k, .int .i64 y] wr (Told (.int .i64 z) wr)) := hF
              have HS : Hid (Calls Try.prog 16 #[.pointer (some ⟨c.t, 0, none⟩), .int .i64 y] wr (Told (.tuple #[.int .i64 z, .bool bz]) wr)) := hS
              have HD : Hid (Calls Try.prog 17 #[.pointer (some ⟨c.t, 0, none⟩), .int .i64 y] wr (Told (.tuple #[.int .i64 0, .bool false]) wr)) := hD
              clear hF hS hD
              go_wp2_with fail
              refine HS.out.mono ?_
              rintro e w2 ⟨rfl, rfl⟩
              go_wp2_with fail
              refine HD.out.mono ?_
              rintro e w2 ⟨rfl, rfl⟩
              go_wp2_with fail
              refine HF.out.mono ?_
              rintro e w2 ⟨rfl, rfl⟩
              go_wp2_with fail
              go_roundw
              case rel => exact ⟨j + 1, by omega, by go_num, HX⟩
              case measure => simp [intOf]; omega
            · obtain ⟨m, rfl⟩ : ∃ m : Nat, y = (m : Int) + 1 := ⟨y.toNat - 1, by omega⟩
              have hm : m < n := by omega
              rw [idOf_at hm] at hD
              have cm := (HX.out.row.row m hm).1
              have hnn := HX.out.tab.is.ok.nn m hm
              by_cases y3 : I m = 0
              · rw [y3] at hD cm
                clear y3 hnn
                have HF : Hid (Calls Try.prog 18 #[.slice (some ⟨b, 0, none⟩) n k, .int .i64 ((m : Int) + 1)] wr (Told (.int .i64 z) wr)) := hF
                have HS : Hid (Calls Try.prog 16 #[.pointer (some ⟨c.t, 0, none⟩), .int .i64 ((m : Int) + 1)] wr (Told (.tuple #[.int .i64 z, .bool bz]) wr)) := hS
                have HD : Hid (Calls Try.prog 17 #[.pointer (some ⟨c.t, 0, none⟩), .int .i64 ((m : Int) + 1)] wr (Told (.tuple #[.int .i64 0, .bool false]) wr)) := hD
                clear hF hS hD
                go_wp2_with fail
                refine HS.out.mono ?_
                rintro e w2 ⟨rfl, rfl⟩
                go_wp2_with fail
                refine HD.out.mono ?_
                rintro e w2 ⟨rfl, rfl⟩
                go_wp2_with fail
                refine HF.out.mono ?_
                rintro e w2 ⟨rfl, rfl⟩
                go_wp2_with fail
                go_roundw
                case rel => exact ⟨j + 1, by omega, by go_num, HX⟩
                case measure => simp [intOf]; omega
              · have y4 : 0 < I m := by omega
                rw [show (I m != 0) = true by simp [y3]] at hD
                generalize I m = u at hD cm y4
                clear y3 hnn
                have HF : Hid (Calls Try.prog 18 #[.slice (some ⟨b, 0, none⟩) n k, .int .i64 ((m : Int) + 1)] wr (Told (.int .i64 z) wr)) := hF
                have HS : Hid (Calls Try.prog 16 #[.pointer (some ⟨c.t, 0, none⟩), .int .i64 ((m : Int) + 1)] wr (Told (.tuple #[.int .i64 z, .bool bz]) wr)) := hS
                have HD : Hid (Calls Try.prog 17 #[.pointer (some ⟨c.t, 0, none⟩), .int .i64 ((m : Int) + 1)] wr (Told (.tuple #[.int .i64 u, .bool true]) wr)) := hD
                clear hF hS hD
                go_wp2_with fail
                refine HS.out.mono ?_
                rintro e w2 ⟨rfl, rfl⟩
                go_wp2_with fail
                refine HD.out.mono ?_
                rintro e w2 ⟨rfl, rfl⟩
                go_wp2_with fail
                refine HF.out.mono ?_
                rintro e w2 ⟨rfl, rfl⟩
                go_wp2_with fail
                go_roundw
                case rel => exact ⟨j + 1, by omega, by go_num, HX⟩
                case measure => simp [intOf]; omega
        · have hlt' : ¬ (j : Int) < ys.length := by omega
          have HSz := Lib.hid (size_at HX.out.tab.is)
          have HSs := Lib.hid (slots_b HX.out.tab)
          have HRs : Hid (∀ w2, XAt (fun g => ¬ TF c g) w2 b n I → Calls Try.prog 15 #[.slice (some ⟨b, 0, none⟩) n k] w2 (GaveN (slotsN I n) w2)) := Lib.hid (fun w2 h => rslots_any h hn2)
          have HLn : Hid ((slotsN I n).length ≤ 300) := by
            show _ ≤ _
            have := cntI_le I n
            rw [slotsN_len]; omega
          generalize slotsN I n = l at HSs HRs HLn
          go_wp2_with fail
          refine HSz.out.mono ?_
          rintro e w2 ⟨rfl, rfl⟩
          go_wp2_with fail
          refine HSs.out.mono ?_
          rintro e w2 ⟨a3, cap3, rfl, i3, h3, b3⟩
          have HI3 := Lib.hid i3
          have H3 := Lib.hid h3
          have HX3 := Lib.hid (HX.out.row.fresh b3)
          clear i3 h3 b3
          go_wp2_with fail
          refine (HRs.out w2 HX3.out).mono ?_
          rintro e w3 ⟨a4, cap4, rfl, own4, b4⟩
          have HI4 := Lib.hid (own_ints own4)
          have HI5 := Lib.hid (ints_fresh HI3.out b4)
          have H4 := Lib.hid (H3.out.fresh b4)
          clear own4 b4
          go_wp2_with fail
          refine (sameInts_eq _ _ (intsN l) w3 HI5.out HI4.out (by rw [intsN_len]; have := HLn.out; omega)).mono ?_
          rintro e w5 ⟨rfl, d, hw5⟩
          have H5 : Hid (TabB W w5 c n I) := by rw [hw5]; exact H4.out.drewN d
          clear hw5
          go_wp2_with fail
          refine (HK.out w5).mono ?_
          rintro e w6 ⟨rfl, b6⟩
          have B6 := Lib.hid (H5.out.bl.trans (b6.mono H5.out.bl.size))
          clear b6
          go_wp2_with fail
          go_ret
          exact ⟨rfl, B6.out⟩
theorem namesSteps_walk (W : World) (n : Int) (_hn : (Lit.int .i64 n).wf = true) (v1 : Value) (L : List Todo) (hv1 : Dos W v1 L) (v2 : Value) (ys : List Int) (hv2 : ArgN .i64 W v2 ys) : Calls Try.prog 3 #[.int .i64 n, v1, v2] W fun e W' => e = .returned (.bool true) ∧ Below W.heap.size W W' := by
  obtain ⟨a1, c1, e1, _⟩ := dos_form hv1
  obtain ⟨a2, c2, e2, _⟩ := ints_form (N := (· < W.heap.size)) hv2.1
  by_cases h : (300 < n ∧ n ≤ 16383) ∨ 200 < L.length ∨ 50 < ys.length
  · rw [e1, e2]; exact namesSteps_known W n _ _ _ _ _ _ h
  · by_cases h0 : n < 0 ∨ 16383 < n
    · rw [e1, e2]; exact namesSteps_out W n _ _ _ _ _ _ h0 (by omega) (by omega)
    · obtain ⟨m, rfl⟩ := Int.eq_ofNat_of_zero_le (by omega : 0 ≤ n)
      exact namesSteps_in W m (by omega) v1 L hv1 (by omega) v2 ys hv2 (by omega)
end Go.Proofs.Ythooeehobhegbaa
