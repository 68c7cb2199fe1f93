/- What the chapter's Refs returns of any object: the numbers of what it names, in new memory. -/
import Derived.Test.YtmaeoefimkppoaaVOpn
namespace Go.Proofs.Ytmaeoefimkppoaa.Wd
open Go.ChangeShapes Go.WideShapes Go.ChangeAt Go.RowKit
set_option maxRecDepth 1000000

theorem refsL_yes (l : List Int) (v : Int) (h : namB v = true) : refsL (l ++ [v]) = refsL l ++ [namV v] := by simp [refsL, h]
theorem refsL_no (l : List Int) (v : Int) (h : namB v = false) : refsL (l ++ [v]) = refsL l := by simp [refsL, h]
theorem refsL_len (l : List Int) : (refsL l).length ≤ l.length := List.length_filterMap_le _ _
theorem take_at {l : List Int} {j : Nat} (h : j < l.length) (c : Int) : c :: l.take (j + 1) = (c :: l.take j) ++ [l.getD j 0] := by
  rw [List.take_succ_eq_append_getElem h]; simp [List.getD, List.getElem?_eq_getElem h]
theorem namV_in (v : Int) : -9223372036854775808 ≤ namV v ∧ namV v ≤ 9223372036854775807 := by
  unfold namV
  split
  · rename_i h; have := nam_rng h; omega
  · omega
theorem refsL_i64 (l : List Int) : I64 (refsL l) := by
  intro n hn
  obtain ⟨v, _, h⟩ := List.mem_filterMap.1 hn
  by_cases hv : namB v = true
  · rw [if_pos hv] at h; injection h with h; rw [← h]; exact namV_in v
  · rw [if_neg hv] at h; cases h
/-- One's own row of numbers, one longer. -/
theorem own_more {w : World} {base : Nat} {xs : List Int} {z : Int} {v : Value} (h : w.ownsRow base 3 1 v (xs.length + 1) (xs.map (Value.int .i64) ++ [.int .i64 z])) : w.ownsRow base 3 1 v (xs ++ [z]).length ((xs ++ [z]).map (Value.int .i64)) := by
  rw [List.length_append, List.map_append]; exact h
/-- What stands in memory behind j rounds: the box, and one's own row. -/
def FInv (w : World) (c k : Int) (l : List Int) (wv bv : Value) (j : Nat) (r : Value) (wr : World) : Prop :=
  Box w.heap.size (.int .i64 c) (.int .i64 k) wv bv wr ∧ (∃ n, wr.ownsRow (w.heap.size + 1) 3 1 r n ((refsL (c :: l.take j)).map (Value.int .i64)) ∧ n = (refsL (c :: l.take j)).length) ∧ Below w.heap.size w wr

set_option maxHeartbeats 2000000 in
theorem refrefs_any (v0 : Value) (o : Ob) (w : World) (hb0 : ObjAt w v0 o) (hs : o.w.length ≤ 1200) :
    Calls Try.prog 38 #[v0] w (GaveI (refsO o) w) := by
  obtain ⟨i0, hi, hz0, hz1, hz2⟩ := info_parts Try.info3
  obtain ⟨wv, bv, rfl, hI, ⟨_, _, a2, c2, rfl, _⟩, hc1, _⟩ := hb0
  have HI := Lib.hid hI.1
  have H6 := Lib.hid hI.2.1
  obtain ⟨_, _, a1, c1, rfl, _⟩ := hI
  obtain ⟨c, k, l, b⟩ := o
  simp only at *
  have HNC := Lib.hid (fun w => named_ref c w hc1.1 hc1.2)
  have HS := Lib.hid hs
  have X := Lib.hid (box_new w (.int .i64 c) (.int .i64 k) (.slice a1 l.length c1) (.slice a2 b.length c2))
  have BA : Hid (Below w.heap.size w (w.alloc (.cells #[.int .i64 c, .int .i64 k, .slice a1 l.length c1, .slice a2 b.length c2] 33))) := (Below.refl _ _).alloc (Nat.le_refl _) _
  have hs' : (l.length : Int) ≤ 1200 := by omega
  show Calls Try.prog 38 _ w (GaveI (refsL (c :: l)) w)
  cases hnb : namB c with
  | true =>
    rw [hnb] at HNC
    have HT := Lib.hid (show refsL (c :: l.take 0) = [namV c] by simp [refsL, hnb])
    clear hnb
    generalize namV c = z at HNC HT
    go_enter Try.func38, Try.ntmps38
    go_wp2_with fail
    refine (HNC.out _).mono ?_
    rintro e w1 ⟨rfl, rfl⟩
    go_wp2_with (at_builtin; refine wpList_append_own _ rfl _ _ 30 rfl (w.heap.size + 1) 3 i0 (.int .i64 0) 1 8 Try.underlying30 hi hz0 hz1 hz2 rfl (by decide) _ _ _ rfl ((World.ownsRow_nil _ (w.heap.size + 1) 3 1).alloc _) ⟨w.heap.size + 1, 0, none⟩ 1 1 [.int .i64 z] rfl rfl ?c1 ?c2 ?c3 ?c4 ?c5 ?_)
    case c1 =>
      intro j u hj
      match j, hj with
      | 0, hj => simp at hj; subst hj; simp [Addr.add]
    case c2 => intro u hu; simp at hu; subst hu; rfl
    case c3 => skip; unfold maxLen; omega
    case c4 => skip; omega
    case c5 => simp
    intro v' w1 hown' hgrow _
    have B1 : Below (w.heap.size + 1) (w.alloc (.cells #[.int .i64 c, .int .i64 k, .slice a1 l.length c1, .slice a2 b.length c2] 33)) w1 := ((Below.refl _ _).alloc (by simp) _).grown hgrow (by simp) fun g hg => by simp [Value.ownBlock] at hg
    have F0 : Hid (FInv w c k l (.slice a1 l.length c1) (.slice a2 b.length c2) 0 v' w1) := ⟨X.out.kept B1 (by omega) (by simp), ⟨_, by rw [HT.out]; exact hown', by rw [HT.out]; rfl⟩, BA.out.trans (B1.mono (by omega))⟩
    obtain ⟨av, cv, rfl, _⟩ := own_room hown'
    clear hown' hgrow B1
    go_wp2
    go_loopw [3, 6] (fun r i wr => ∃ j : Nat, j ≤ l.length ∧ i = .int .i64 j ∧ Hid (FInv w c k l (.slice a1 l.length c1) (.slice a2 b.length c2) j r wr)) (fun _ i _ => l.length - (intOf i).toNat)
    case atStart => exact ⟨0, by omega, rfl, F0⟩
    case round =>
      obtain ⟨j, hj, rfl, hL⟩ := hrel
      obtain ⟨X1, ⟨n, hown, hn⟩, hb1⟩ := hL.out
      have HX1 := Lib.hid X1
      have HB1 := Lib.hid hb1
      have HNL := Lib.hid hn
      obtain ⟨⟨x0, x1, x2, x3⟩, _, hs1⟩ := X1
      clear hL hb1 F0 hn
      by_cases hlt : j < l.length
      · have hlt' : (j : Int) < l.length := by omega
        have HBN := Lib.hid (show n ≤ 1300 by have h1 := HNL.out; have h2 := refsL_len (c :: l.take j); simp only [List.length_cons, List.length_take] at h2; omega)
        have HLT := Lib.hid hlt
        obtain ⟨bb, off, cc, hz, hc⟩ := (HI.out.kept HB1.out).at_ hlt
        injection hz with q1 q2 q3
        subst q1
        clear q2 q3
        have HNM := Lib.hid (named_ref (l.getD j 0) wr (H6.out.at_ j).1 (H6.out.at_ j).2)
        cases hnb : namB (l.getD j 0) with
        | true =>
          rw [hnb] at HNM
          have HT := Lib.hid (show refsL (c :: l.take (j + 1)) = refsL (c :: l.take j) ++ [namV (l.getD j 0)] by rw [take_at hlt]; exact refsL_yes _ _ hnb)
          clear hnb
          generalize namV (l.getD j 0) = z at HNM HT
          generalize l.getD j 0 = y at HNM hc
          clear hlt
          go_wp2_with fail
          refine HNM.out.mono ?_
          rintro e w1 ⟨rfl, rfl⟩
          go_wp2_with (at_builtin; refine wpList_append_own _ rfl _ _ 30 rfl (w.heap.size + 1) 3 i0 (.int .i64 0) 1 8 Try.underlying30 hi hz0 hz1 hz2 rfl (by decide) _ _ _ rfl (hown.alloc _) ⟨wr.heap.size, 0, none⟩ 1 1 [.int .i64 z] rfl rfl ?c1 ?c2 ?c3 ?c4 ?c5 ?_)
          case c1 =>
            intro j u hj
            match j, hj with
            | 0, hj => simp at hj; subst hj; simp [Addr.add]
          case c2 => intro u hu; simp at hu; subst hu; rfl
          case c3 => have := HBN.out; unfold maxLen; omega
          case c4 => have := HBN.out; omega
          case c5 => simp; omega
          intro v' w1 hown' hgrow _
          have B1 : Below (w.heap.size + 1) wr w1 := ((Below.refl _ _).alloc (by omega) _).grown hgrow (by simp; omega) fun g hg => (hown.lt g hg).1
          have F1 : Hid (FInv w c k l (.slice (some ⟨bb, off, none⟩) l.length c1) (.slice a2 b.length c2) (j + 1) v' w1) := ⟨HX1.out.kept B1 (by omega) (by omega), ⟨_, by rw [HT.out, List.map_append]; exact hown', by rw [HT.out, HNL.out, List.length_append]; rfl⟩, HB1.out.trans (B1.mono (by omega))⟩
          obtain ⟨av, cv, rfl, _⟩ := own_room hown'
          clear hown hown' hgrow B1 x0 x1 x2 x3 hc
          go_wp2
          go_roundw
          case rel => exact ⟨j + 1, by omega, by go_num, F1⟩
          case measure => simp [intOf]; omega
        | false =>
          rw [hnb] at HNM
          have HT := Lib.hid (show refsL (c :: l.take (j + 1)) = refsL (c :: l.take j) by rw [take_at hlt]; exact refsL_no _ _ hnb)
          clear hnb
          generalize namV (l.getD j 0) = z at HNM
          generalize l.getD j 0 = y at HNM hc
          clear hlt
          have F1 : Hid (FInv w c k l (.slice (some ⟨bb, off, none⟩) l.length c1) (.slice a2 b.length c2) (j + 1) u3 wr) := ⟨HX1.out, ⟨n, by rw [HT.out]; exact hown, by rw [HT.out]; exact HNL.out⟩, HB1.out⟩
          clear hown
          go_wp2_with fail
          refine HNM.out.mono ?_
          rintro e w1 ⟨rfl, rfl⟩
          go_wp2
          go_roundw
          case rel => exact ⟨j + 1, by omega, by go_num, F1⟩
          case measure => simp [intOf]; omega
      · have e : j = l.length := by omega
        subst e
        rw [List.take_length] at hown HNL
        rw [HNL.out] at hown
        go_wp2
        go_ret
        exact ⟨_, rfl, own_down hown (by omega), HB1.out⟩
  | false =>
    rw [hnb] at HNC
    have HT := Lib.hid (show refsL (c :: l.take 0) = [] by simp [refsL, hnb])
    clear hnb
    generalize namV c = z at HNC
    have F0 : Hid (FInv w c k l (.slice a1 l.length c1) (.slice a2 b.length c2) 0 (.slice none 0 0) (w.alloc (.cells #[.int .i64 c, .int .i64 k, .slice a1 l.length c1, .slice a2 b.length c2] 33))) := ⟨X.out, ⟨0, by rw [HT.out]; exact World.ownsRow_nil _ _ _ _, by rw [HT.out]; rfl⟩, BA.out⟩
    go_enter Try.func38, Try.ntmps38
    go_wp2_with fail
    refine (HNC.out _).mono ?_
    rintro e w1 ⟨rfl, rfl⟩
    go_wp2
    go_loopw [3, 6] (fun r i wr => ∃ j : Nat, j ≤ l.length ∧ i = .int .i64 j ∧ Hid (FInv w c k l (.slice a1 l.length c1) (.slice a2 b.length c2) j r wr)) (fun _ i _ => l.length - (intOf i).toNat)
    case atStart => exact ⟨0, by omega, rfl, F0⟩
    case round =>
      obtain ⟨j, hj, rfl, hL⟩ := hrel
      obtain ⟨X1, ⟨n, hown, hn⟩, hb1⟩ := hL.out
      have HX1 := Lib.hid X1
      have HB1 := Lib.hid hb1
      have HNL := Lib.hid hn
      obtain ⟨⟨x0, x1, x2, x3⟩, _, hs1⟩ := X1
      clear hL hb1 F0 hn
      by_cases hlt : j < l.length
      · have hlt' : (j : Int) < l.length := by omega
        have HBN := Lib.hid (show n ≤ 1300 by have h1 := HNL.out; have h2 := refsL_len (c :: l.take j); simp only [List.length_cons, List.length_take] at h2; omega)
        have HLT := Lib.hid hlt
        obtain ⟨bb, off, cc, hz, hc⟩ := (HI.out.kept HB1.out).at_ hlt
        injection hz with q1 q2 q3
        subst q1
        clear q2 q3
        have HNM := Lib.hid (named_ref (l.getD j 0) wr (H6.out.at_ j).1 (H6.out.at_ j).2)
        cases hnb : namB (l.getD j 0) with
        | true =>
          rw [hnb] at HNM
          have HT := Lib.hid (show refsL (c :: l.take (j + 1)) = refsL (c :: l.take j) ++ [namV (l.getD j 0)] by rw [take_at hlt]; exact refsL_yes _ _ hnb)
          clear hnb
          generalize namV (l.getD j 0) = z at HNM HT
          generalize l.getD j 0 = y at HNM hc
          clear hlt
          go_wp2_with fail
          refine HNM.out.mono ?_
          rintro e w1 ⟨rfl, rfl⟩
          go_wp2_with (at_builtin; refine wpList_append_own _ rfl _ _ 30 rfl (w.heap.size + 1) 3 i0 (.int .i64 0) 1 8 Try.underlying30 hi hz0 hz1 hz2 rfl (by decide) _ _ _ rfl (hown.alloc _) ⟨wr.heap.size, 0, none⟩ 1 1 [.int .i64 z] rfl rfl ?c1 ?c2 ?c3 ?c4 ?c5 ?_)
          case c1 =>
            intro j u hj
            match j, hj with
            | 0, hj => simp at hj; subst hj; simp [Addr.add]
          case c2 => intro u hu; simp at hu; subst hu; rfl
          case c3 => have := HBN.out; unfold maxLen; omega
          case c4 => have := HBN.out; omega
          case c5 => simp; omega
          intro v' w1 hown' hgrow _
          have B1 : Below (w.heap.size + 1) wr w1 := ((Below.refl _ _).alloc (by omega) _).grown hgrow (by simp; omega) fun g hg => (hown.lt g hg).1
          have F1 : Hid (FInv w c k l (.slice (some ⟨bb, off, none⟩) l.length c1) (.slice a2 b.length c2) (j + 1) v' w1) := ⟨HX1.out.kept B1 (by omega) (by omega), ⟨_, by rw [HT.out, List.map_append]; exact hown', by rw [HT.out, HNL.out, List.length_append]; rfl⟩, HB1.out.trans (B1.mono (by omega))⟩
          obtain ⟨av, cv, rfl, _⟩ := own_room hown'
          clear hown hown' hgrow B1 x0 x1 x2 x3 hc
          go_wp2
          go_roundw
          case rel => exact ⟨j + 1, by omega, by go_num, F1⟩
          case measure => simp [intOf]; omega
        | false =>
          rw [hnb] at HNM
          have HT := Lib.hid (show refsL (c :: l.take (j + 1)) = refsL (c :: l.take j) by rw [take_at hlt]; exact refsL_no _ _ hnb)
          clear hnb
          generalize namV (l.getD j 0) = z at HNM
          generalize l.getD j 0 = y at HNM hc
          clear hlt
          have F1 : Hid (FInv w c k l (.slice (some ⟨bb, off, none⟩) l.length c1) (.slice a2 b.length c2) (j + 1) u3 wr) := ⟨HX1.out, ⟨n, by rw [HT.out]; exact hown, by rw [HT.out]; exact HNL.out⟩, HB1.out⟩
          clear hown
          go_wp2_with fail
          refine HNM.out.mono ?_
          rintro e w1 ⟨rfl, rfl⟩
          go_wp2
          go_roundw
          case rel => exact ⟨j + 1, by omega, by go_num, F1⟩
          case measure => simp [intOf]; omega
      · have e : j = l.length := by omega
        subst e
        rw [List.take_length] at hown HNL
        rw [HNL.out] at hown
        go_wp2
        go_ret
        exact ⟨_, rfl, own_down hown (by omega), HB1.out⟩
end Go.Proofs.Ytmaeoefimkppoaa.Wd
