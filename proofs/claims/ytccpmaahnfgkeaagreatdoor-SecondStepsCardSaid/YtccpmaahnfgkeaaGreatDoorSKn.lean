/- What the laws' own function 'known' returns: true. -/
import Derived.Test.YtccpmaahnfgkeaaGreatDoorSSy
namespace Go.Proofs.YtccpmaahnfgkeaaGreatDoor
set_option maxRecDepth 1000000
open Go.ChangeShapes Go.WideShapes Go.ChangeAt Go.RowKit
open Wd (Ob okO encO refsO ObjAt In64 I64)

def o0 : Ob := ⟨2, 2, [], []⟩
def v0 : Value := .agg #[.int .i64 2, .int .i64 2, .slice none 0 0, .slice none 0 0]
theorem o0_ok : okO o0 = true := by decide
theorem o0_at (w : World) : ObjAt w v0 o0 := ⟨_, _, rfl, Wd.rowI_nil w, Wd.rowB_nil w, ⟨by decide, by decide⟩, ⟨by decide, by decide⟩⟩
theorem o0_len : (encO o0).length = 12 := by decide
theorem o0_sz : szO o0 = 1 := by unfold szO; rw [o0_len]; rfl
def L1 : List Ent := [⟨1, o0, 0⟩]
def L2 : List Ent := [⟨1, o0, 0⟩, ⟨2, o0, 1⟩]
def L3 : List Ent := [⟨1, o0, 0⟩, ⟨3, o0, 1⟩]
theorem f1 : FirstIs (tk (rowsE [])) 9 (szO o0) 0 true := by
  rw [o0_sz]
  exact .inl ⟨rfl, by decide, fun k hk => rfl, fun b hb => by omega⟩
theorem len0 : len (0, encO o0) = 1 := o0_sz
theorem f2 : FirstIs (tk (rowsE L1)) 9 (szO o0) 1 true := by
  have e : rowsE L1 = [(0, encO o0)] := rfl
  rw [o0_sz, e]
  refine .inl ⟨rfl, by decide, fun k hk => ?_, fun b hb => ⟨0, by decide, ?_⟩⟩
  · rw [one_row, ← Bool.not_eq_true, inR_iff, len0]; dsimp only; omega
  · rw [one_row, inR_iff, len0]; dsimp only; omega
theorem d2 : dropE L2 [2] = L1 := by
  show List.filter _ _ = _
  simp [L2, L1, List.filter]
theorem ok2 : okIds L2 [2] := ⟨fun x hx => by rw [List.mem_singleton.1 hx]; decide, by simp⟩
theorem ints1 (w : World) (x : Int) : Ints (fun b => b = w.heap.size) (w.alloc (.cells #[.int .i64 x] 3)) (.slice (some ⟨w.heap.size, 0, none⟩) 1 1) [x] := by
  refine ⟨_, 1, rfl, by simp, .inr ⟨_, 0, rfl, rfl, fun j u hu => ?_⟩⟩
  rw [World.cell?_alloc_at _ _ _ _ rfl]
  match j, hu with
  | 0, hu => simpa using hu
  | j + 1, hu => simp at hu
theorem ints2 (w : World) (x y : Int) : Wd.Ints (w.alloc (.cells #[.int .i64 x, .int .i64 y] 3)) (.slice (some ⟨w.heap.size, 0, none⟩) 2 2) [x, y] := by
  refine ⟨_, _, rfl, .inr ⟨_, 0, rfl, fun i hi => ?_⟩⟩
  rw [World.cell?_alloc_at _ _ _ _ rfl]
  match i, hi with
  | 0, _ => rfl
  | 1, _ => rfl

/-- Drop of one number that lies in a box. -/
theorem drop_one_yes (c : Sc) (n u m : Nat) (L : List Ent) (i : Int) (w : World) (h : SecAt w c n u m L) (hi : W64 i) (hok : hasE L i = true) :
    Calls Tryz.prog 14 #[.pointer (some ⟨c.q, 0, none⟩), .slice (some ⟨w.heap.size, 0, none⟩) 1 1] (w.alloc (.cells #[.int .i64 i] 3)) (DropPost c n u m (dropE L [i]) 0 w) :=
  (drop_all (N := fun b => b = w.heap.size) c n u m L _ [i] _ (h.fresh ((Below.refl _ _).alloc (Nat.le_refl _) _)) (ints1 w i) (fun b hb => by subst hb; exact F_lt h (Nat.le_refl _)) (fun y hy => by rw [List.mem_singleton.1 hy]; exact hi) (by simp)
    ⟨fun y hy => by rw [List.mem_singleton.1 hy]; exact hok, by simp⟩).mono fun e w' ⟨he, hs, ho⟩ => ⟨he, hs, (Only.of_below ((Below.refl _ _).alloc (Nat.le_refl _) _) : Only c.F w _).then_ ho (fun _ _ h => h)⟩
theorem drop_one_no (c : Sc) (n u m : Nat) (L : List Ent) (i : Int) (w : World) (h : SecAt w c n u m L) (hi : W64 i) (hok : hasE L i = false) :
    Calls Tryz.prog 14 #[.pointer (some ⟨c.q, 0, none⟩), .slice (some ⟨w.heap.size, 0, none⟩) 1 1] (w.alloc (.cells #[.int .i64 i] 3)) (DropPost c n u m L 4 w) :=
  (drop_bad (N := fun b => b = w.heap.size) c n u m L _ [i] _ (h.fresh ((Below.refl _ _).alloc (Nat.le_refl _) _)) (ints1 w i) (fun y hy => by rw [List.mem_singleton.1 hy]; exact hi) (by simp)
    (fun h2 => by rw [h2.1 i (by simp)] at hok; cases hok)).mono fun e w' ⟨he, hs, ho⟩ => ⟨he, hs, (Only.of_below ((Below.refl _ _).alloc (Nat.le_refl _) _) : Only c.F w _).then_ ho (fun _ _ h => h)⟩
set_option maxHeartbeats 4000000 in
theorem known_true (w : World) (hT : Tab w) (h0 : 0 < w.heap.size) : Calls Tryz.prog 5 #[] w fun e w' => e = .returned (.bool true) ∧ Below w.heap.size w w' := by
  have HN := Lib.hid (snew_yes 9 w (by omega) hT h0)
  clear hT
  go_enter Tryz.func5, Tryz.ntmps5
  go_wp2_with fail
  refine (show Calls Tryz.prog 6 #[.int .i64 9] _ _ from HN.out).mono ?_
  rintro e w1 ⟨c, rfl, s1, hlo, b1⟩
  have X1 := Lib.hid (Wd.box_new w1 (.int .i64 2) (.int .i64 2) (.slice none 0 0) (.slice none 0 0))
  have S1 : Hid (SecAt (w1.alloc (.cells #[.int .i64 2, .int .i64 2, .slice none 0 0, .slice none 0 0] 35)) c 9 0 0 []) := s1.fresh (box35 _ _ _ _ _)
  have B1 : Hid (Below w.heap.size w (w1.alloc (.cells #[.int .i64 2, .int .i64 2, .slice none 0 0, .slice none 0 0] 35))) := b1.alloc b1.size _
  have HLO := Lib.hid hlo
  obtain ⟨p, hp⟩ : ∃ p, w1.heap.size = p := ⟨_, rfl⟩
  have HP : Hid (¬ c.F p) := F_lt s1 (by omega)
  rw [hp] at X1
  have hp2 := hp
  clear s1 hlo b1 HN
  go_wp2_with fail
  clear hp2
  generalize w1.alloc (.cells #[.int .i64 2, .int .i64 2, .slice none 0 0, .slice none 0 0] 35) = w2 at *
  refine (show Calls Tryz.prog 7 #[.pointer (some ⟨c.q, 0, none⟩), v0] w2 (MakePost c 9 1 1 L1 1 0 w2) from make_yes c 9 0 0 [] v0 o0 0 w2 S1.out (o0_at w2) o0_ok (by omega) (by omega) f1).mono ?_
  rintro e w3 ⟨rfl, s3, o3⟩
  have S3 := Lib.hid s3
  have X3 := Lib.hid (box_only X1.out o3 HP.out)
  have B3 : Hid (Below w.heap.size w w3) := B1.out.trans (o3.below (fun i hi h => by have := h.1; have := HLO.out; omega) B1.out.size)
  obtain ⟨y0, y1, y2, y3⟩ := X3.out.1
  clear s3 o3 X1 S1 B1
  go_wp2_with fail
  clear y0 y1 y2 y3
  refine (show Calls Tryz.prog 7 #[.pointer (some ⟨c.q, 0, none⟩), v0] w3 (MakePost c 9 2 2 L2 2 0 w3) from make_yes c 9 1 1 L1 v0 o0 1 w3 S3.out (o0_at w3) o0_ok (by omega) (by omega) f2).mono ?_
  rintro e w4 ⟨rfl, s4, o4⟩
  have S4 := Lib.hid s4
  have X4 := Lib.hid (box_only X3.out o4 HP.out)
  have B4 : Hid (Below w.heap.size w w4) := B3.out.trans (o4.below (fun i hi h => by have := h.1; have := HLO.out; omega) B3.out.size)
  clear s4 o4 X3 S3 B3
  have HD : Hid (Calls Tryz.prog 14 #[.pointer (some ⟨c.q, 0, none⟩), .slice (some ⟨w4.heap.size, 0, none⟩) 1 1] (w4.alloc (.cells #[.int .i64 2] 3)) (DropPost c 9 2 2 L1 0 w4)) := by
    have h := drop_one_yes c 9 2 2 L2 2 w4 S4.out (W64.of (by omega) (by omega)) (ok2.1 2 (by simp))
    rw [d2] at h
    exact h
  go_wp2_with fail
  refine HD.out.mono ?_
  rintro e w5 ⟨rfl, s5, o5⟩
  have S5 := Lib.hid s5
  have X5 := Lib.hid (box_only X4.out o5 HP.out)
  have B5 : Hid (Below w.heap.size w w5) := B4.out.trans (o5.below (fun i hi h => by have := h.1; have := HLO.out; omega) B4.out.size)
  obtain ⟨y0, y1, y2, y3⟩ := X5.out.1
  clear s5 o5 X4 S4 B4 HD
  go_wp2_with fail
  clear y0 y1 y2 y3
  refine (show Calls Tryz.prog 7 #[.pointer (some ⟨c.q, 0, none⟩), v0] w5 (MakePost c 9 3 3 L3 3 0 w5) from make_yes c 9 2 2 L1 v0 o0 1 w5 S5.out (o0_at w5) o0_ok (by omega) (by omega) f2).mono ?_
  rintro e w6 ⟨rfl, s6, o6⟩
  have S6 := Lib.hid s6
  have X6 := Lib.hid (box_only X5.out o6 HP.out)
  have B6 : Hid (Below w.heap.size w w6) := B5.out.trans (o6.below (fun i hi h => by have := h.1; have := HLO.out; omega) B5.out.size)
  obtain ⟨y0, y1, y2, y3⟩ := X6.out.1
  clear s6 o6 X5 S5 B5
  go_wp2_with fail
  clear y0 y1 y2 y3
  refine (make_nil v0 w6 _ _ _ _ rfl).mono ?_
  rintro e w7 ⟨rfl, b7⟩
  have S7 := Lib.hid (S6.out.fresh b7)
  have B7 : Hid (Below w.heap.size w w7) := B6.out.trans (b7.mono B6.out.size)
  clear b7 X6 S6 B6
  go_wp2_with fail
  refine (ids_any c 9 3 3 L3 w7 S7.out).mono ?_
  rintro e w8 ⟨v8, rfl, hown, s8, b8⟩
  have S8 := Lib.hid s8
  have B8 : Hid (Below w.heap.size w w8) := B7.out.trans (b8.mono B7.out.size)
  have I8 := Lib.hid (Wd.own_ints (xs := [1, 3]) hown)
  clear hown s8 b8 S7 B7
  go_wp2_with fail
  have BW : Below w8.heap.size w8 (w8.alloc (.cells #[.int .i64 1, .int .i64 3] 3)) := (Below.refl _ _).alloc (Nat.le_refl _) _
  have HSI := Lib.hid (Wd.sameInts_any v8 _ [1, 3] [1, 3] _ (I8.out.kept BW) (ints2 w8 1 3) (by simp))
  have S9 := Lib.hid (S8.out.fresh BW)
  have B9 : Hid (Below w.heap.size w _) := B8.out.trans (BW.mono B8.out.size)
  clear BW
  generalize w8.alloc (.cells #[.int .i64 1, .int .i64 3] 3) = w9 at *
  refine HSI.out.mono ?_
  intro e w10 h
  obtain ⟨rfl, b10⟩ := Wd.Said.below h
  have S10 := Lib.hid (S9.out.fresh b10)
  have B10 : Hid (Below w.heap.size w w10) := B9.out.trans (b10.mono B9.out.size)
  clear h b10 S9 B9 HSI
  rw [show decide (([1, 3] : List Int) = [1, 3]) = true from rfl]
  go_wp2_with fail
  refine (made_any c 9 3 3 L3 w10 S10.out).mono ?_
  rintro e w11 ⟨rfl, rfl⟩
  go_wp2
  go_ret
  exact ⟨rfl, B10.out⟩
end Go.Proofs.YtccpmaahnfgkeaaGreatDoor
