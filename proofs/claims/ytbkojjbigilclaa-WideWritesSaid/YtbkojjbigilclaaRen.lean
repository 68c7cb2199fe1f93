/- What the chapter's Encode returns of any object: its bytes, in new memory, or the error. -/
import Derived.Test.YtbkojjbigilclaaEnc
namespace Go.Proofs.Ytbkojjbigilclaa
open Go.ChangeShapes Go.WideShapes Go.ChangeAt Go.RowKit
set_option maxRecDepth 1000000

set_option maxHeartbeats 1000000 in
theorem refencode_no (v : Value) (o : Ob) (w : World) (h : ObjAt w v o) (hs : Short o) (hok : okO o = false) :
    Calls Try.prog 14 #[v] w (EncNo w) := by
  have HO := Lib.hid h
  have HC := Lib.hid (fun w' h' => refcheck_any v o w' h' hs)
  obtain ⟨wv, bv, rfl, _⟩ := h
  go_enter Try.func14, Try.ntmps14
  go_wp2_with fail
  refine (HC.out _ (HO.out.kept ((Below.refl _ _).alloc (Nat.le_refl _) _))).mono ?_
  rintro e w1 ⟨rfl, hb1⟩
  rw [chk_not hok]
  have HB1 := Lib.hid (((Below.refl _ _).alloc (Nat.le_refl _) _).trans (hb1.mono (by simp)) : Below w.heap.size w w1)
  clear hb1
  go_wp2
  go_ret2
  exact ⟨rfl, HB1.out⟩

/-- The box that holds the argument, in a later world. -/
def Bx (p : Nat) (x y z u : Value) (w : World) : Prop := w.cell? ⟨p, 0, none⟩ = some x ∧ w.cell? ⟨p, 1, none⟩ = some y ∧ w.cell? ⟨p, 2, none⟩ = some z ∧ w.cell? ⟨p, 3, none⟩ = some u
theorem Bx.kept {p : Nat} {x y z u : Value} {w w' : World} {B : Nat} (h : Bx p x y z u w) (hb : Below B w w') (hp : p < B) : Bx p x y z u w' :=
  ⟨(hb.cell (p := ⟨p, 0, none⟩) hp).trans h.1, (hb.cell (p := ⟨p, 1, none⟩) hp).trans h.2.1, (hb.cell (p := ⟨p, 2, none⟩) hp).trans h.2.2.1, (hb.cell (p := ⟨p, 3, none⟩) hp).trans h.2.2.2⟩
theorem own_eq {w : World} {base n n' : Nat} {e : TypeId} {v : Value} {l l' : List Value} (h : w.ownsRow base e 1 v n l) (hn : n' = n) (hl : l' = l) : w.ownsRow base e 1 v n' l' := by rw [hn, hl]; exact h
theorem enc_ref {o : Ob} (h : okO o = true) : encO o = byts o.c 4 ++ byts o.k 4 ++ byts ((o.w.length : Int) + o.b.length) 4 ++ allB o.w ++ o.b := by
  have e3 : ∀ x y z : Int, allB [x, y, z] = byts x 4 ++ byts y 4 ++ byts z 4 := fun x y z => by simp [allB]
  obtain ⟨c, k, l, b⟩ := o
  unfold encO
  obtain ⟨_, ⟨hk, hb, _⟩ | ⟨hk, hl, _⟩⟩ := (okO_iff _).1 h
  · simp only at hk hb
    subst hk hb
    simp [sizeO, e3]
  · simp only at hk hl
    subst hk hl
    simp [sizeO, allB]

set_option maxHeartbeats 2000000 in
theorem refencode_yes (v : Value) (o : Ob) (w : World) (h : ObjAt w v o) (hok : okO o = true) :
    Calls Try.prog 14 #[v] w (EncYes (encO o) w) := by
  have hq : o.w.length ≤ 1000 ∧ o.b.length ≤ 1000 := by
    obtain ⟨_, ⟨_, hb, hl, _⟩ | ⟨_, hl, hb⟩⟩ := (okO_iff o).1 hok
    · exact ⟨by omega, by rw [hb]; simp⟩
    · exact ⟨by rw [hl]; simp, by omega⟩
  have hs : Short o := ⟨by omega, by omega⟩
  have HO := Lib.hid h
  have HC := Lib.hid (fun w' h' => refcheck_any v o w' h' hs)
  obtain ⟨wv, bv, rfl, hw, hb, _⟩ := h
  have HW := Lib.hid hw
  have HB := Lib.hid hb
  obtain ⟨_, _, a1, c1, rfl, _⟩ := hw
  obtain ⟨_, _, a2, c2, rfl, _⟩ := hb
  rw [enc_ref hok]
  go_enter Try.func14, Try.ntmps14
  go_wp2_with fail
  refine (HC.out _ (HO.out.kept ((Below.refl _ _).alloc (Nat.le_refl _) _))).mono ?_
  rintro e w1 ⟨rfl, hb1⟩
  rw [chk_is hok]
  have X1 : Hid (Bx w.heap.size _ _ _ _ w1) := box_cells hb1
  have B1 := Lib.hid (((Below.refl _ _).alloc (Nat.le_refl _) _).trans (hb1.mono (by simp)) : Below w.heap.size w w1)
  have P1 : Hid (w.heap.size < w1.heap.size) := by have := hb1.size; simp at this; exact (by omega : w.heap.size < w1.heap.size)
  clear hb1 hok hs
  generalize hp : w.heap.size = p at *
  obtain ⟨c, k, l, b⟩ := o
  simp only at *
  obtain ⟨hq1, hq2⟩ := hq
  have LC := Lib.hid (byts_len c 4)
  have LK := Lib.hid (byts_len k 4)
  have LS := Lib.hid (byts_len ((l.length : Int) + b.length) 4)
  have LL := Lib.hid (allB_len l)
  obtain ⟨e0_1, e1_1, e2_1, e3_1⟩ := X1.out
  go_wp2_with fail
  refine (put_ref c _).mono ?_
  rintro e w2 ⟨v2, rfl, hv2, hb2⟩
  have B2 : Hid (Below p w w2) := B1.out.trans (hb2.mono (by have := P1.out; omega))
  have X2 : Hid (Bx p _ _ _ _ w2) := X1.out.kept hb2 P1.out
  have P2 : Hid (p < w2.heap.size) := Nat.lt_of_lt_of_le P1.out hb2.size
  have V2 := Lib.hid (own_down hv2 (show p + 1 ≤ _ from P1.out))
  clear hv2 hb2
  clear e0_1 e1_1 e2_1 e3_1
  obtain ⟨e0_2, e1_2, e2_2, e3_2⟩ := X2.out
  go_wp2_with fail
  refine (put_ref k _).mono ?_
  rintro e w3 ⟨v3, rfl, hv3, hb3⟩
  have B3 : Hid (Below p w w3) := B2.out.trans (hb3.mono (by have := P2.out; omega))
  have X3 : Hid (Bx p _ _ _ _ w3) := X2.out.kept hb3 P2.out
  have P3 : Hid (p < w3.heap.size) := Nat.lt_of_lt_of_le P2.out hb3.size
  have Y3 := Lib.hid (own_bts hv3)
  have O3 := own_kept V2.out hb3
  clear hv3 hb3
  clear e0_2 e1_2 e2_2 e3_2
  obtain ⟨e0_3, e1_3, e2_3, e3_3⟩ := X3.out
  go_wp2_with (at_builtin; refine append_bts rfl _ _ rfl (p + 1) _ (byts c 4) rfl O3 _ (byts k 4) rfl Y3.out ?c3 ?c4 ?_)
  case c3 => have := LC.out; have := LK.out; have := LS.out; have := LL.out; first | omega | (simp only [List.length_append]; omega)
  case c4 => exact P3.out
  intro v4 w4 hv4 hb4
  have B4 : Hid (Below p w w4) := B3.out.trans (hb4.mono (Nat.le_succ p))
  have V4 : Hid (w4.ownsRow (p + 1) 5 1 v4 (byts c 4 ++ byts k 4).length ((byts c 4 ++ byts k 4).map (Value.int .u8))) := Lib.hid (own_eq hv4 (by simp only [List.length_append] <;> omega) (by simp))
  have P4 : Hid (p < w4.heap.size) := Nat.lt_of_lt_of_le P3.out hb4.size
  have X4 : Hid (Bx p _ _ _ _ w4) := X3.out.kept hb4 (Nat.lt_succ_self p)
  clear hv4 hb4 O3
  clear e0_3 e1_3 e2_3 e3_3
  obtain ⟨e0_4, e1_4, e2_4, e3_4⟩ := X4.out
  go_wp2_with fail
  refine (put_ref _ _).mono ?_
  rintro e w5 ⟨v5, rfl, hv5, hb5⟩
  have B5 : Hid (Below p w w5) := B4.out.trans (hb5.mono (by have := P4.out; omega))
  have X5 : Hid (Bx p _ _ _ _ w5) := X4.out.kept hb5 P4.out
  have P5 : Hid (p < w5.heap.size) := Nat.lt_of_lt_of_le P4.out hb5.size
  have Y5 := Lib.hid (own_bts hv5)
  have O5 := own_kept V4.out hb5
  clear hv5 hb5
  clear e0_4 e1_4 e2_4 e3_4
  obtain ⟨e0_5, e1_5, e2_5, e3_5⟩ := X5.out
  go_wp2_with (at_builtin; refine append_bts rfl _ _ rfl (p + 1) _ (byts c 4 ++ byts k 4) rfl O5 _ (byts ((l.length : Int) + b.length) 4) rfl Y5.out ?c3 ?c4 ?_)
  case c3 => have := LC.out; have := LK.out; have := LS.out; have := LL.out; first | omega | (simp only [List.length_append]; omega)
  case c4 => exact P5.out
  intro v6 w6 hv6 hb6
  have B6 : Hid (Below p w w6) := B5.out.trans (hb6.mono (Nat.le_succ p))
  have V6 : Hid (w6.ownsRow (p + 1) 5 1 v6 (byts c 4 ++ byts k 4 ++ byts ((l.length : Int) + b.length) 4).length ((byts c 4 ++ byts k 4 ++ byts ((l.length : Int) + b.length) 4).map (Value.int .u8))) := Lib.hid (own_eq hv6 (by simp only [List.length_append] <;> omega) (by simp))
  have P6 : Hid (p < w6.heap.size) := Nat.lt_of_lt_of_le P5.out hb6.size
  have X6 : Hid (Bx p _ _ _ _ w6) := X5.out.kept hb6 (Nat.lt_succ_self p)
  clear hv6 hb6 O5
  clear e0_5 e1_5 e2_5 e3_5
  obtain ⟨e0_6, e1_6, e2_6, e3_6⟩ := X6.out
  go_wp2_with fail
  refine (all_ref _ l _ (HW.out.1.kept (hp ▸ B6.out)) hq1).mono ?_
  rintro e w7 ⟨v7, rfl, hv7, hb7⟩
  have B7 : Hid (Below p w w7) := B6.out.trans (hb7.mono (by have := P6.out; omega))
  have X7 : Hid (Bx p _ _ _ _ w7) := X6.out.kept hb7 P6.out
  have P7 : Hid (p < w7.heap.size) := Nat.lt_of_lt_of_le P6.out hb7.size
  have Y7 := Lib.hid (own_bts hv7)
  have O7 := own_kept V6.out hb7
  clear hv7 hb7
  clear e0_6 e1_6 e2_6 e3_6
  obtain ⟨e0_7, e1_7, e2_7, e3_7⟩ := X7.out
  go_wp2_with (at_builtin; refine append_bts rfl _ _ rfl (p + 1) _ (byts c 4 ++ byts k 4 ++ byts ((l.length : Int) + b.length) 4) rfl O7 _ (allB l) rfl Y7.out ?c3 ?c4 ?_)
  case c3 => have := LC.out; have := LK.out; have := LS.out; have := LL.out; first | omega | (simp only [List.length_append]; omega)
  case c4 => exact P7.out
  intro v8 w8 hv8 hb8
  have B8 : Hid (Below p w w8) := B7.out.trans (hb8.mono (Nat.le_succ p))
  have V8 : Hid (w8.ownsRow (p + 1) 5 1 v8 (byts c 4 ++ byts k 4 ++ byts ((l.length : Int) + b.length) 4 ++ allB l).length ((byts c 4 ++ byts k 4 ++ byts ((l.length : Int) + b.length) 4 ++ allB l).map (Value.int .u8))) := Lib.hid (own_eq hv8 (by simp only [List.length_append] <;> omega) (by simp))
  have P8 : Hid (p < w8.heap.size) := Nat.lt_of_lt_of_le P7.out hb8.size
  have X8 : Hid (Bx p _ _ _ _ w8) := X7.out.kept hb8 (Nat.lt_succ_self p)
  clear hv8 hb8 O7
  clear e0_7 e1_7 e2_7 e3_7
  obtain ⟨e0_8, e1_8, e2_8, e3_8⟩ := X8.out
  have O8 := V8.out
  have Y8 : Hid (Bts w8 (.slice a2 b.length c2) b) := HB.out.1.kept (hp ▸ B8.out)
  go_wp2_with (at_builtin; refine append_bts rfl _ _ rfl (p + 1) _ (byts c 4 ++ byts k 4 ++ byts ((l.length : Int) + b.length) 4 ++ allB l) rfl O8 _ (b) rfl Y8.out ?c3 ?c4 ?_)
  case c3 => have := LC.out; have := LK.out; have := LS.out; have := LL.out; first | omega | (simp only [List.length_append]; omega)
  case c4 => exact P8.out
  intro v10 w10 hv10 hb10
  have B10 : Hid (Below p w w10) := B8.out.trans (hb10.mono (Nat.le_succ p))
  have V10 : Hid (w10.ownsRow (p + 1) 5 1 v10 (byts c 4 ++ byts k 4 ++ byts ((l.length : Int) + b.length) 4 ++ allB l ++ b).length ((byts c 4 ++ byts k 4 ++ byts ((l.length : Int) + b.length) 4 ++ allB l ++ b).map (Value.int .u8))) := Lib.hid (own_eq hv10 (by simp only [List.length_append] <;> omega) (by simp))
  have P10 : Hid (p < w10.heap.size) := Nat.lt_of_lt_of_le P8.out hb10.size
  have X10 : Hid (Bx p _ _ _ _ w10) := X8.out.kept hb10 (Nat.lt_succ_self p)
  clear hv10 hb10 O8
  clear e0_8 e1_8 e2_8 e3_8
  go_wp2
  go_ret2
  subst hp
  exact ⟨_, rfl, own_down V10.out (Nat.le_succ _), B10.out⟩
end Go.Proofs.Ytbkojjbigilclaa
