/- What the chapter's examples fix. -/
import Derived.Test.YtbfacdfmanffdaaGreatDoorGPk
namespace Go.Proofs.YtbfacdfmanffdaaGreatDoor
set_option maxRecDepth 1000000
open Go.ChangeShapes Go.WideShapes Go.ChangeAt Go.RowKit

theorem dig_258 : dig 258 = [2, 1] := by rw [dig_pos (by decide), dig_pos (by decide), dig_zero]; rfl
theorem dig_65025 : dig 65025 = [1, 254] := by rw [dig_pos (by decide), dig_pos (by decide), dig_zero]; rfl
theorem dig_142 : dig 142 = [142] := by rw [dig_pos (by decide), dig_zero]; rfl
theorem dig_6 : dig 6 = [6] := by rw [dig_pos (by decide), dig_zero]; rfl
theorem dec_256 : dec 256 = [50, 53, 54] := by rw [dec_big (by decide), dec_big (by decide), dec_small (by decide)]; rfl
theorem two_new (w : World) (o o' : Obj) : Below w.heap.size w ((w.alloc o).alloc o') := (below_new w o).alloc (by simp) o'
theorem ownB2 (w : World) (c n : Int) : OwnB w.heap.size (w.alloc (.cells #[.int .u8 c, .int .u8 n] 5)) (.slice (some ⟨w.heap.size, 0, none⟩) 2 2) [c, n] := World.ownsRow_lit w #[.int .u8 c, .int .u8 n] 2 (Nat.le_refl _) (by unfold maxLen; omega) rfl
theorem k_of (w : World) : Calls Tryz.prog 7 #[.int .i64 258] w (NumB 0 [2, 1] w) := by
  have h := of_code 258 w (by decide) (by decide)
  have e1 : ofE 258 = 0 := rfl
  have e2 : ofO 258 = [2, 1] := by unfold ofO; rw [if_neg (by decide)]; exact dig_258
  rwa [e1, e2] at h
theorem k_mul (w : World) : Calls Tryz.prog 17 #[.slice (some ⟨w.heap.size, 0, none⟩) 1 1, .slice (some ⟨w.heap.size + 1, 0, none⟩) 1 1] ((w.alloc (.cells #[.int .u8 255] 5)).alloc (.cells #[.int .u8 255] 5)) (NumB 0 [1, 254] w) := by
  have h2 := ownB1 (w.alloc (.cells #[.int .u8 255] 5)) 255
  rw [show (w.alloc (.cells #[.int .u8 255] 5)).heap.size = w.heap.size + 1 by simp] at h2
  refine (mul_code _ _ [255] [255] _ ((ownB1 w 255).bts.next (below_new _ _)) (fun n hn => by simp at hn; omega) (by simp) h2.bts (fun n hn => by simp at hn; omega) (by simp)).mono ?_
  rintro e w' ⟨v, rfl, hv, hb⟩
  have e0 : ¬ ¬ (rightB [255] = true ∧ rightB [255] = true) := by decide
  have e1 : val [255] * val [255] = 65025 := by decide
  have e2 : mulE [255] [255] = 0 := by unfold mulE; rw [if_neg e0, e1, show (65025 : Int).toNat = 65025 from rfl, dig_65025]; rfl
  have e3 : mulO [255] [255] = [1, 254] := by unfold mulO; rw [if_neg e0, e1, show (65025 : Int).toNat = 65025 from rfl, dig_65025]; rfl
  rw [e3] at hv
  exact ⟨v, by rw [e2], hv, (two_new w _ _).trans (hb.mono (by simp; omega))⟩
theorem k_div (w : World) : Calls Tryz.prog 19 #[.slice (some ⟨w.heap.size, 0, none⟩) 2 2, .slice (some ⟨w.heap.size + 1, 0, none⟩) 1 1] ((w.alloc (.cells #[.int .u8 232, .int .u8 3] 5)).alloc (.cells #[.int .u8 7] 5)) fun e w' => ∃ q r, e = .returned (.tuple #[q, r, .int .i64 0]) ∧ Bts (fun _ => True) w' q [142] ∧ Bts (fun _ => True) w' r [6] ∧ Below w.heap.size w w' := by
  have h2 := ownB1 (w.alloc (.cells #[.int .u8 232, .int .u8 3] 5)) 7
  rw [show (w.alloc (.cells #[.int .u8 232, .int .u8 3] 5)).heap.size = w.heap.size + 1 by simp] at h2
  refine (div_code _ _ [232, 3] [7] _ ((ownB2 w 232 3).bts.next (below_new _ _)) (fun n hn => by simp at hn; omega) (by simp) h2.bts (fun n hn => by simp at hn; omega) (by simp)).mono ?_
  rintro e w' ⟨q, r, rfl, hq, hr, hb⟩
  have e0 : ¬ ¬ (rightB [232, 3] = true ∧ rightB [7] = true) := by decide
  have e1 : val [232, 3] = 1000 := by decide
  have e1' : val [7] = 7 := by decide
  have e2 : divE [232, 3] [7] = 0 := by unfold divE; rw [if_neg e0, if_neg (by simp)]
  have e3 : divQ [232, 3] [7] = [142] := by unfold divQ; rw [if_pos e2, e1, e1', show ((1000 : Int) / 7).toNat = 142 from rfl, dig_142]
  have e4 : divR [232, 3] [7] = [6] := by unfold divR; rw [if_pos e2, e1, e1', show ((1000 : Int) % 7).toNat = 6 from rfl, dig_6]
  rw [e3] at hq
  rw [e4] at hr
  exact ⟨q, r, by rw [e2], hq, hr, (two_new w _ _).trans (hb.mono (by simp; omega))⟩
theorem k_sub (w : World) : Calls Tryz.prog 20 #[.slice none 0 0, .slice (some ⟨w.heap.size, 0, none⟩) 1 1] (w.alloc (.cells #[.int .u8 1] 5)) fun e w' => ∃ v, e = .returned (.tuple #[v, .int .i64 4]) ∧ Below w.heap.size w w' := by
  refine (sub_code (N := fun _ => True) _ _ [] [1] _ (bts_nil _ _) (fun n hn => by cases hn) (by simp) (ownB1 w 1).bts (fun n hn => by simp at hn; omega) (by simp)).mono ?_
  rintro e w' ⟨v, rfl, _, hb⟩
  have e2 : subE [] [1] = 4 := by
    unfold subE
    rw [if_neg (by decide), if_pos (by decide)]
  exact ⟨v, by rw [e2], (below_new w _).trans (hb.mono (by simp))⟩
theorem k_text (w : World) (hT : Tabs w) : Calls Tryz.prog 14 #[.slice (some ⟨w.heap.size, 0, none⟩) 2 2] (w.alloc (.cells #[.int .u8 0, .int .u8 1] 5)) fun e w' => e = .returned (.string ⟨#[50, 53, 54]⟩) ∧ Below w.heap.size w w' := by
  refine (text_code _ [0, 1] _ (hT.next (below_new w _)) (ownB2 w 0 1).bts (fun n hn => by simp at hn; omega) (by simp)).mono ?_
  rintro e w' ⟨rfl, hb⟩
  have e2 : textO [0, 1] = [50, 53, 54] := by
    unfold textO
    rw [if_pos (by decide), show (val [0, 1]).toNat = 256 from rfl, dec_256]
  exact ⟨by rw [e2]; rfl, (below_new w _).trans (hb.mono (by simp))⟩
set_option maxHeartbeats 8000000 in
theorem known_any (w : World) (hT : Tabs w) : Calls Tryz.prog 6 #[] w fun e w' => e = .returned (.bool true) ∧ Below w.heap.size w w' := by
  have C1 := Lib.hid k_of
  have C2 := Lib.hid k_mul
  have C3 := Lib.hid k_div
  have C4 := Lib.hid k_sub
  have C5 := Lib.hid (fun w' (h : Below w.heap.size w w') => k_text w' (hT.next h))
  clear hT
  unfold NumB at C1 C2
  go_enter Tryz.func6, Tryz.ntmps6
  go_upto_region 2 with (go_at_call 7; refine (C1.out w).mono ?_; rintro e w1 ⟨x1, rfl, hx1, hb1⟩)
  have X1 := Lib.hid hx1
  have K1 := Lib.hid hb1
  clear hx1 hb1 C1
  go_upto_region 3 with (go_at_call 17; refine (C2.out w1).mono ?_; rintro e w2 ⟨x2, rfl, hx2, hb2⟩)
  have X1' := Lib.hid (X1.out.next hb2)
  have X2 := Lib.hid hx2
  have K2 := Lib.hid (K1.out.trans (hb2.mono K1.out.size))
  clear hx2 hb2 C2 X1 K1
  go_upto_region 4 with (go_at_call 19; refine (C3.out w2).mono ?_; rintro e w3 ⟨x3, x4, rfl, hx3, hx4, hb3⟩)
  have X1 := Lib.hid (X1'.out.next hb3)
  have X2' := Lib.hid (X2.out.next hb3)
  have X3 := Lib.hid hx3
  have X4 := Lib.hid hx4
  have K3 := Lib.hid (K2.out.trans (hb3.mono K2.out.size))
  clear hx3 hx4 hb3 C3 X1' X2 K2
  go_upto_region 5 with (go_at_call 20; refine (C4.out w3).mono ?_; rintro e w4 ⟨x5, rfl, hb4⟩)
  have K4 := Lib.hid (K3.out.trans (hb4.mono K3.out.size))
  have Y1 := Lib.hid (X1.out.next hb4)
  have Y2 := Lib.hid (X2'.out.next hb4)
  have Y3 := Lib.hid (X3.out.next hb4)
  have Y4 := Lib.hid (X4.out.next hb4)
  clear hb4 X1 X2' X3 X4 K3 C4
  have S1 : Hid (∀ u k, u.heap.size = k → Below w4.heap.size w4 u → Calls Tryz.prog 13 #[x1, .slice (some ⟨k, 0, none⟩) 2 2] (u.alloc (.cells #[.int .u8 2, .int .u8 1] 5)) fun e w' => e = .returned (.bool true) ∧ u.alloc (.cells #[.int .u8 2, .int .u8 1] 5) = w') := Lib.hid fun u k hk hu => hk ▸ same_eq _ _ [2, 1] _ ((Y1.out.next hu).next (below_new _ _)) (ownB2 u 2 1).bts
  have S2 : Hid (∀ u k, u.heap.size = k → Below w4.heap.size w4 u → Calls Tryz.prog 13 #[x2, .slice (some ⟨k, 0, none⟩) 2 2] (u.alloc (.cells #[.int .u8 1, .int .u8 254] 5)) fun e w' => e = .returned (.bool true) ∧ u.alloc (.cells #[.int .u8 1, .int .u8 254] 5) = w') := Lib.hid fun u k hk hu => hk ▸ same_eq _ _ [1, 254] _ ((Y2.out.next hu).next (below_new _ _)) (ownB2 u 1 254).bts
  have S3 : Hid (∀ u k, u.heap.size = k → Below w4.heap.size w4 u → Calls Tryz.prog 13 #[x3, .slice (some ⟨k, 0, none⟩) 1 1] (u.alloc (.cells #[.int .u8 142] 5)) fun e w' => e = .returned (.bool true) ∧ u.alloc (.cells #[.int .u8 142] 5) = w') := Lib.hid fun u k hk hu => hk ▸ same_eq _ _ [142] _ ((Y3.out.next hu).next (below_new _ _)) (ownB1 u 142).bts
  have S4 : Hid (∀ u k, u.heap.size = k → Below w4.heap.size w4 u → Calls Tryz.prog 13 #[x4, .slice (some ⟨k, 0, none⟩) 1 1] (u.alloc (.cells #[.int .u8 6] 5)) fun e w' => e = .returned (.bool true) ∧ u.alloc (.cells #[.int .u8 6] 5) = w') := Lib.hid fun u k hk hu => hk ▸ same_eq _ _ [6] _ ((Y4.out.next hu).next (below_new _ _)) (ownB1 u 6).bts
  clear Y1 Y2 Y3 Y4
  have B1 : Hid (Below w4.heap.size w4 (w4.alloc (.cells #[.int .u8 2, .int .u8 1] 5))) := Lib.hid (below_new _ _)
  have B2 : Hid (Below w4.heap.size w4 ((w4.alloc (.cells #[.int .u8 2, .int .u8 1] 5)).alloc (.cells #[.int .u8 1, .int .u8 254] 5))) := Lib.hid (two_new _ _ _)
  have B3 : Hid (Below w4.heap.size w4 (((w4.alloc (.cells #[.int .u8 2, .int .u8 1] 5)).alloc (.cells #[.int .u8 1, .int .u8 254] 5)).alloc (.cells #[.int .u8 142] 5))) := Lib.hid ((two_new _ _ _).alloc (by simp; omega) _)
  have B4 : Hid (Below w4.heap.size w4 ((((w4.alloc (.cells #[.int .u8 2, .int .u8 1] 5)).alloc (.cells #[.int .u8 1, .int .u8 254] 5)).alloc (.cells #[.int .u8 142] 5)).alloc (.cells #[.int .u8 6] 5))) := Lib.hid (B3.out.alloc (by simp; omega) _)
  have C5' := C5.out ((((w4.alloc (.cells #[.int .u8 2, .int .u8 1] 5)).alloc (.cells #[.int .u8 1, .int .u8 254] 5)).alloc (.cells #[.int .u8 142] 5)).alloc (.cells #[.int .u8 6] 5)) (K4.out.trans (B4.out.mono K4.out.size))
  rw [show ((((w4.alloc (.cells #[.int .u8 2, .int .u8 1] 5)).alloc (.cells #[.int .u8 1, .int .u8 254] 5)).alloc (.cells #[.int .u8 142] 5)).alloc (.cells #[.int .u8 6] 5)).heap.size = w4.heap.size + 4 by simp] at C5'
  have C5' := Lib.hid C5'
  clear C5
  go_wp2_with (first | (go_at_call 13; first | (with_reducible refine (S1.out w4 _ rfl (Below.refl _ _)).mono ?_; rintro e w5 ⟨rfl, rfl⟩) | (with_reducible refine (S2.out _ (w4.heap.size + 1) (by simp) B1.out).mono ?_; rintro e w6 ⟨rfl, rfl⟩) | (with_reducible refine (S3.out _ (w4.heap.size + 2) (by simp) B2.out).mono ?_; rintro e w7 ⟨rfl, rfl⟩) | (with_reducible refine (S4.out _ (w4.heap.size + 3) (by simp) B3.out).mono ?_; rintro e w8 ⟨rfl, rfl⟩)) | (go_at_call 14; with_reducible refine C5'.out.mono ?_; rintro e w9 ⟨rfl, hb5⟩))
  all_goals go_ret
  all_goals exact ⟨rfl, K4.out.trans ((B4.out.trans (hb5.mono (by simp))).mono K4.out.size)⟩
end Go.Proofs.YtbfacdfmanffdaaGreatDoor
