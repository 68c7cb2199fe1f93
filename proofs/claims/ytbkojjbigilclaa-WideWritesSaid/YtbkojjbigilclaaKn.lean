/- 'known', the chapter's example: it returns true. No condition. -/
import Derived.Test.YtbkojjbigilclaaWrd
namespace Go.Proofs.Ytbkojjbigilclaa
open Go.ChangeShapes Go.WideShapes Go.ChangeAt Go.RowKit
set_option maxRecDepth 1000000

def ex : Ob := ⟨6, 1, [3, 8], []⟩
theorem ex_ok : okO ex = true := by decide
theorem ex_enc : encO ex = [0, 0, 0, 6, 0, 0, 0, 1, 0, 0, 0, 2, 0, 0, 0, 3, 0, 0, 0, 8] := by decide
theorem ex_dec : decB [0, 0, 0, 6, 0, 0, 0, 1, 0, 0, 0, 2, 0, 0, 0, 3, 0, 0, 0, 8] = true ∧ rdO [0, 0, 0, 6, 0, 0, 0, 1, 0, 0, 0, 2, 0, 0, 0, 3, 0, 0, 0, 8] = ex := by rw [← ex_enc]; exact dec_enc ex_ok
theorem obj_zero (w : World) : ObjAt w (.agg #[.int .i64 0, .int .i64 0, .slice none 0 0, .slice none 0 0]) ⟨0, 0, [], []⟩ := ⟨_, _, rfl, rowI_nil w, rowB_nil w, by simp [In64], by simp [In64]⟩
theorem ints2 (w : World) (x y : Int) : Ints (w.alloc (.cells #[.int .i64 x, .int .i64 y] 3)) (.slice (some ⟨w.heap.size, 0, none⟩) 2 2) [x, y] := by
  refine ⟨_, _, rfl, .inr ⟨_, _, rfl, fun i hi => ?_⟩⟩
  rw [World.cell?_alloc_at _ _ _ _ rfl]
  match i, hi with
  | 0, _ => rfl
  | 1, _ => rfl
theorem ex_at (w : World) : ObjAt (w.alloc (.cells #[.int .i64 3, .int .i64 8] 3)) (.agg #[.int .i64 6, .int .i64 1, .slice (some ⟨w.heap.size, 0, none⟩) 2 2, .slice none 0 0]) ex :=
  ⟨_, _, rfl, ⟨ints2 w 3 8, by intro n hn; simp [ex] at hn; omega, _, _, rfl, by simp [ex]⟩, rowB_nil _, by simp [In64, ex], by simp [In64, ex]⟩
def exB : List Int := [0, 0, 0, 6, 0, 0, 0, 1, 0, 0, 0, 2, 0, 0, 0, 3, 0, 0, 0, 8]
theorem exB_byL : ByL exB := by intro n hn; simp [exB] at hn; omega

theorem bts_lit (w : World) (xs : List Int) : Bts (w.alloc (.cells (xs.map (Value.int .u8)).toArray 5)) (.slice (some ⟨w.heap.size, 0, none⟩) xs.length xs.length) xs := by
  refine ⟨_, _, rfl, .inr ⟨_, _, rfl, fun i hi => ?_⟩⟩
  rw [World.cell?_alloc_at _ _ _ _ rfl]
  simp [List.getElem?_eq_getElem hi, List.getD]
theorem exB_at (w : World) : Bts (w.alloc (.cells #[.int .u8 0, .int .u8 0, .int .u8 0, .int .u8 6, .int .u8 0, .int .u8 0, .int .u8 0, .int .u8 1, .int .u8 0, .int .u8 0, .int .u8 0, .int .u8 2, .int .u8 0, .int .u8 0, .int .u8 0, .int .u8 3, .int .u8 0, .int .u8 0, .int .u8 0, .int .u8 8] 5)) (.slice (some ⟨w.heap.size, 0, none⟩) 20 20) exB := bts_lit w exB
theorem Box.next {p : Nat} {x y z u : Value} {w w' : World} (h : Box p x y z u w) (hb : Below w.heap.size w w') : Box p x y z u w' := h.kept hb h.2.2 (Nat.le_refl _)
theorem box_new2 (w : World) (o : Obj) (x y z u : Value) : Box (w.heap.size + 1) x y z u ((w.alloc o).alloc (.cells #[x, y, z, u] 25)) := by
  have h := box_new (w.alloc o) x y z u
  rw [show (w.alloc o).heap.size = w.heap.size + 1 by simp] at h
  exact h
theorem two_below (w : World) (x y : Obj) : Below (w.heap.size + 1) (w.alloc x) ((w.alloc x).alloc y) := (Below.refl _ _).alloc (by simp) _

set_option maxHeartbeats 2000000 in
theorem known_true (w : World) : Calls Try.prog 12 #[] w fun e w' => e = .returned (.bool true) ∧ Below w.heap.size w w' := by
  have HE : Hid (∀ w', Below (w.heap.size + 1) (w.alloc (.cells #[.int .i64 3, .int .i64 8] 3)) w' → Calls Try.prog 13 #[.agg #[.int .i64 6, .int .i64 1, .slice (some ⟨w.heap.size, 0, none⟩) 2 2, .slice none 0 0]] w' (EncYes exB w')) :=
    fun w' hb => by
      have := encode_yes _ ex w' ((ex_at w).kept (by simpa using hb)) ex_ok
      rw [ex_enc] at this; exact this
  go_enter Try.func12, Try.ntmps12
  go_wp2_with fail
  refine (HE.out _ (two_below w _ _)).mono ?_
  rintro e w1 ⟨v1, rfl, ho1, hb1⟩
  have R1 := Lib.hid (RowB.own ho1 exB_byL)
  have X1 := Lib.hid ((box_new2 w (.cells #[.int .i64 3, .int .i64 8] 3) (.int .i64 6) (.int .i64 1) (.slice (some ⟨w.heap.size, 0, none⟩) 2 2) (.slice none 0 0)).kept hb1 (by simp) (Nat.le_refl _))
  have E1 := Lib.hid (((ex_at w).kept (two_below w (.cells #[.int .i64 3, .int .i64 8] 3) (.cells #[.int .i64 6, .int .i64 1, .slice (some ⟨w.heap.size, 0, none⟩) 2 2, .slice none 0 0] 25) |>.mono (by simp))).kept hb1)
  have B1 := Lib.hid ((bel2 w _ _).trans (hb1.mono (by simp; omega)))
  clear ho1 hb1 HE
  go_wp2_with fail
  refine (decode_yes v1 exB w1 R1.out (by decide) ex_dec.1).mono ?_
  rintro e w2 ⟨vd, rfl, ho2, hb2⟩
  rw [show rdO exB = ex from ex_dec.2] at ho2
  have O2 := Lib.hid ho2
  obtain ⟨wv, bv, rfl, ⟨_, _, a1, c1, rfl, _⟩, ⟨_, _, a2, c2, rfl, _⟩, _, _⟩ := ho2
  change Hid (ObjAt w2 (.agg #[.int .i64 6, .int .i64 1, .slice a1 2 c1, .slice a2 0 c2]) ex) at O2
  have R2 := Lib.hid (R1.out.kept hb2)
  have X2 := Lib.hid (X1.out.kept hb2 X1.out.2.2 (Nat.le_refl _))
  have E2 := Lib.hid (E1.out.kept hb2)
  have B2 := Lib.hid (B1.out.trans (hb2.mono B1.out.size))
  have N2 := Lib.hid (box_new w2 (.int .i64 6) (.int .i64 1) (.slice a1 2 c1) (.slice a2 0 c2))
  have A2 : Hid (Below w2.heap.size w2 (w2.alloc (.cells #[.int .i64 6, .int .i64 1, .slice a1 2 c1, .slice a2 0 c2] 25))) := (Below.refl _ _).alloc (Nat.le_refl _) _
  clear hb2 R1 X1 E1 B1
  go_wp2_with fail
  refine (show Calls Try.prog 26 #[v1, .int .i64 1] _ _ from word_at v1 exB 1 _ (R2.out.kept A2.out) (by decide) ex_dec.1 (by rw [show rdO exB = ex from ex_dec.2]; rfl) (by rw [show rdO exB = ex from ex_dec.2]; decide)).mono ?_
  rintro e w3 ⟨rfl, hb3⟩
  rw [show (rdO exB).w.getD 1 0 = 8 by rw [show rdO exB = ex from ex_dec.2]; rfl]
  have L : Bts (w3.alloc _) _ exB := exB_at w3
  have A3 : Hid (Below w3.heap.size w3 (w3.alloc _)) := (Below.refl _ _).alloc (Nat.le_refl _) (.cells #[.int .u8 0, .int .u8 0, .int .u8 0, .int .u8 6, .int .u8 0, .int .u8 0, .int .u8 0, .int .u8 1, .int .u8 0, .int .u8 0, .int .u8 0, .int .u8 2, .int .u8 0, .int .u8 0, .int .u8 0, .int .u8 3, .int .u8 0, .int .u8 0, .int .u8 0, .int .u8 8] 5)
  have R3 := Lib.hid ((R2.out.kept A2.out).kept hb3 |>.kept A3.out)
  have X3 := (((X2.out.next A2.out).next hb3).next A3.out).1
  have N3 := ((N2.out.next hb3).next A3.out).1
  obtain ⟨x0, x1, x2, x3⟩ := X3
  obtain ⟨n0, n1, n2, n3⟩ := N3
  have E3 := Lib.hid (((E2.out.kept A2.out).kept hb3).kept A3.out)
  have O3 := Lib.hid (((O2.out.kept A2.out).kept hb3).kept A3.out)
  have B3 := Lib.hid (((B2.out.trans (A2.out.mono B2.out.size)).trans (hb3.mono (by have := B2.out.size; simp; omega))))
  have B4 := Lib.hid (B3.out.trans (A3.out.mono B3.out.size))
  have HL := Lib.hid L
  have HS : Hid (∀ v, Bts (w3.alloc (.cells #[.int .u8 0, .int .u8 0, .int .u8 0, .int .u8 6, .int .u8 0, .int .u8 0, .int .u8 0, .int .u8 1, .int .u8 0, .int .u8 0, .int .u8 0, .int .u8 2, .int .u8 0, .int .u8 0, .int .u8 0, .int .u8 3, .int .u8 0, .int .u8 0, .int .u8 0, .int .u8 8] 5)) v exB → Calls Try.prog 17 #[v1, v] (w3.alloc (.cells #[.int .u8 0, .int .u8 0, .int .u8 0, .int .u8 6, .int .u8 0, .int .u8 0, .int .u8 0, .int .u8 1, .int .u8 0, .int .u8 0, .int .u8 0, .int .u8 2, .int .u8 0, .int .u8 0, .int .u8 0, .int .u8 3, .int .u8 0, .int .u8 0, .int .u8 0, .int .u8 8] 5)) fun e w' => e = .returned (.bool true) ∧ w3.alloc (.cells #[.int .u8 0, .int .u8 0, .int .u8 0, .int .u8 6, .int .u8 0, .int .u8 0, .int .u8 0, .int .u8 1, .int .u8 0, .int .u8 0, .int .u8 0, .int .u8 2, .int .u8 0, .int .u8 0, .int .u8 0, .int .u8 3, .int .u8 0, .int .u8 0, .int .u8 0, .int .u8 8] 5) = w') := fun v h => (same_eq v1 v exB _ R3.out.1 h)
  have HT : Hid (Calls Try.prog 20 #[.agg #[.int .i64 6, .int .i64 1, .slice a1 2 c1, .slice a2 0 c2], .agg #[.int .i64 6, .int .i64 1, .slice (some ⟨w.heap.size, 0, none⟩) 2 2, .slice none 0 0]] (w3.alloc (.cells #[.int .u8 0, .int .u8 0, .int .u8 0, .int .u8 6, .int .u8 0, .int .u8 0, .int .u8 0, .int .u8 1, .int .u8 0, .int .u8 0, .int .u8 0, .int .u8 2, .int .u8 0, .int .u8 0, .int .u8 0, .int .u8 3, .int .u8 0, .int .u8 0, .int .u8 0, .int .u8 8] 5)) (SamePost ex ex (w3.alloc (.cells #[.int .u8 0, .int .u8 0, .int .u8 0, .int .u8 6, .int .u8 0, .int .u8 0, .int .u8 0, .int .u8 1, .int .u8 0, .int .u8 0, .int .u8 0, .int .u8 2, .int .u8 0, .int .u8 0, .int .u8 0, .int .u8 3, .int .u8 0, .int .u8 0, .int .u8 0, .int .u8 8] 5)))) := same_ref _ _ ex ex _ O3.out E3.out (by constructor <;> decide) (by constructor <;> decide)
  have HC : Hid (∀ w', Calls Try.prog 18 #[.agg #[.int .i64 0, .int .i64 0, .slice none 0 0, .slice none 0 0]] w' (ChkPost ⟨0, 0, [], []⟩ w')) := fun w' => check_any _ _ w' (obj_zero w') (by constructor <;> decide)
  clear hb3 L R2 X2 E2 O2 N2 A2 B2 R3 E3 O3 A3 B3
  go_wp2_with fail
  refine (HS.out _ HL.out).mono ?_
  rintro e w4 ⟨rfl, rfl⟩
  go_wp2_with fail
  refine HT.out.mono ?_
  rintro e w5 ⟨rfl, hb5⟩
  rw [sameO_self]
  have B5 := Lib.hid (B4.out.trans (hb5.mono B4.out.size))
  clear hb5 x0 x1 x2 x3 n0 n1 n2 n3
  go_wp2_with fail
  refine (HC.out _).mono ?_
  rintro e w6 ⟨rfl, hb6⟩
  rw [show chk ⟨0, 0, [], []⟩ = 2 by decide]
  have B6 := Lib.hid (B5.out.trans (hb6.mono B5.out.size))
  clear hb6
  go_wp2
  go_ret
  exact ⟨rfl, B6.out⟩
end Go.Proofs.Ytbkojjbigilclaa
