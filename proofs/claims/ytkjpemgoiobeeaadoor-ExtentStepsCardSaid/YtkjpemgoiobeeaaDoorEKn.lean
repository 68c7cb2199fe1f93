/- The chapter's example: the laws' function known returns true wherever math/bits' table lies in memory as its text lays it, and nothing that lay in memory before has changed. -/
import Derived.Test.YtkjpemgoiobeeaaDoorEPut
namespace Go.Proofs.YtkjpemgoiobeeaaDoor
set_option maxRecDepth 1000000
open Go.ChangeShapes Go.WideShapes Go.ChangeAt Go.RowKit

theorem free_nilx (v : Value) (w : World) : Calls Tryd.prog 18 #[.pointer none, v] w fun e w' => e = .returned (.int .i64 1) ∧ w = w' := by
  go_enter Tryd.func18, Tryd.ntmps18
  go_wp2_with (go_at_call 31; refine (check_nilx _ _).mono ?_; rintro e w' ⟨rfl, rfl⟩)
  go_ret
  exact ⟨rfl, rfl⟩

def z65 : List Int := List.replicate 65 0
theorem z65_len : z65.length = 65 := by simp [z65]
theorem ex1 : FirstIs (tk []) 3 (secs z65.length) 0 true := by
  rw [z65_len]
  exact .inl ⟨rfl, by decide, fun k _ => rfl, fun b hb => by omega⟩
theorem len_z : len (0, z65) = 2 := by unfold len; rw [z65_len]; rfl
theorem tk1 (i : Nat) : tk ([] ++ [(0, z65)]) i = decide (i < 2) := by
  rw [Bool.eq_iff_iff, tk_iff]
  simp [len_z]
theorem ex2 : FirstIs (tk ([] ++ [(0, z65)])) 3 (secs ([] : List Int).length) 2 true := by
  refine .inl ⟨rfl, by decide, fun k hk => ?_, fun b hb => ⟨0, by decide, ?_⟩⟩
  · rw [tk1]; simp
  · rw [tk1]; simpa using hb
theorem tk2 (i : Nat) : tk ([] ++ [(0, z65)] ++ [(2, [])]) i = decide (i < 3) := by
  have h2 : len (2, []) = 1 := rfl
  rw [Bool.eq_iff_iff, tk_iff]
  simp [len_z, h2]
  omega
theorem ex3 : FirstIs (tk ([] ++ [(0, z65)] ++ [(2, [])])) 3 (secs ([1] : List Int).length) 0 false := by
  refine .inr ⟨rfl, rfl, fun b hb => ⟨0, by decide, ?_⟩⟩
  have : secs ([1] : List Int).length = 1 := rfl
  rw [tk2]; simp; omega
theorem tot3 : total ([] ++ [(0, z65)] ++ [(2, [])]) = 3 := by simp [total, len_z]; rfl

theorem one_byte (w : World) (x : Int) : Bts (fun _ => True) (w.alloc (.cells #[.int .u8 x] 5)) (.slice (some ⟨w.heap.size, 0, none⟩) 1 1) [x] := by
  refine ⟨_, 1, rfl, by simp, .inr ⟨_, 0, rfl, trivial, fun j u hu => ?_⟩⟩
  rw [World.cell?_alloc_at _ _ _ _ rfl]
  match j, hu with
  | 0, hu => simpa using hu
  | j + 1, hu => simp at hu

set_option maxHeartbeats 4000000 in
theorem known_true (w : World) (hT : Tab w) (h0 : 0 < w.heap.size) : Calls Tryd.prog 9 #[] w fun e w' => e = .returned (.bool true) ∧ Below w.heap.size w w' := by
  have HN := Lib.hid (enew_yes 3 w (by omega) hT h0)
  clear hT
  go_enter Tryd.func9, Tryd.ntmps9
  go_wp2_with fail
  refine (show Calls Tryd.prog 10 #[.int .i64 3] _ _ from HN.out).mono ?_
  rintro e w1 ⟨s, rfl, s1, hlo, b1⟩
  have hmk := mk_bytes w1 65 (by omega)
  have hmk : (Instr.makeSlice 33 (.int .i64 65) (.int .i64 65)).run Tryd.prog w1 = .ok (.slice (some ⟨w1.heap.size, 0, none⟩) 65 65) (w1.alloc (.cells (madeCells (Value.int .u8 0).cells 65) 5)) := hmk
  have hz : Bts (fun b => b = w1.heap.size) (w1.alloc (.cells (madeCells (Value.int .u8 0).cells 65) 5)) (.slice (some ⟨w1.heap.size, 0, none⟩) 65 65) z65 := zeros_made w1 65
  have hb1' : Below w1.heap.size w1 (w1.alloc (.cells (madeCells (Value.int .u8 0).cells 65) 5)) := (Below.refl _ _).alloc (Nat.le_refl _) _
  have HP1 := Lib.hid (put_yes s 3 0 [] 0 _ z65 _ (s1.fresh hb1') hz (fun b e h => by have := s1.lt; have := h.2; omega) (zeros_bytes 65) (by omega) (by rw [z65_len]; decide) ex1)
  have HLO := Lib.hid hlo
  have HBB : Hid (Below w.heap.size w (w1.alloc (.cells (madeCells (Value.int .u8 0).cells 65) 5))) := b1.trans (hb1'.mono b1.size)
  clear hz hb1' s1 b1 hlo HN
  generalize w1.alloc (.cells (madeCells (Value.int .u8 0).cells 65) 5) = w1' at hmk HP1 HBB
  go_wp2_with fail
  refine HP1.out.mono ?_
  rintro e w2 ⟨rfl, s2, o2⟩
  rw [z65_len, show secs 65 = 2 from rfl]
  have S2 := Lib.hid s2
  have B2 : Hid (Below w.heap.size w w2) := HBB.out.trans (o2.below (fun i hi h => by have := h.1; have := HLO.out; omega) HBB.out.size)
  clear s2 o2 HP1 hmk HBB
  go_wp2_with fail
  have X3 : Hid (Box3 (w2.alloc (.cells #[.int .i64 0, .int .i64 ((2 : Nat) : Int), .int .i64 65] 32)) w2.heap.size 0 2 65) := box3_new w2 0 2 65 32
  have hb2' : Below w2.heap.size w2 (w2.alloc (.cells #[.int .i64 0, .int .i64 ((2 : Nat) : Int), .int .i64 65] 32)) := (Below.refl _ _).alloc (Nat.le_refl _) _
  have S2' := S2.out.fresh hb2'
  have B2' : Hid (Below w.heap.size w _) := B2.out.trans (hb2'.mono B2.out.size)
  have hsb : s.sp < w2.heap.size := S2.out.lt
  obtain ⟨b3, hb3⟩ : ∃ b, w2.heap.size = b := ⟨_, rfl⟩
  rw [hb3] at X3 hsb ⊢
  have HSB := Lib.hid hsb
  clear hsb hb2' hb3
  generalize w2.alloc (.cells #[.int .i64 0, .int .i64 ((2 : Nat) : Int), .int .i64 65] 32) = w2' at X3 S2' B2' ⊢
  have HS2' := Lib.hid S2'
  clear S2'
  refine (put_yes (N := fun _ => False) s 3 1 _ 2 (.slice none 0 0) [] w2' HS2'.out ⟨none, 0, rfl, Nat.le_refl _, .inl rfl⟩ (fun _ h => h.elim) (fun _ h => by cases h) (by omega) (by decide) ex2).mono ?_
  rintro e w3 ⟨rfl, s3, o3⟩
  have X3 : Hid (Box3 w3 b3 0 2 65) := X3.out.only o3 (fun h => by have := h.2; have := HSB.out; omega)
  have S3 := Lib.hid s3
  have B3 : Hid (Below w.heap.size w w3) := B2'.out.trans (o3.below (fun i hi h => by have := h.1; have := HLO.out; omega) B2'.out.size)
  clear s3 o3 HS2' B2 S2 B2'
  rw [show secs ([] : List Int).length = 1 from rfl]
  go_wp2_with fail
  have X5 : Hid (Box3 (w3.alloc (.cells #[.int .i64 2, .int .i64 1, .int .i64 0] 32)) w3.heap.size 2 1 0) := box3_new w3 2 1 0 32
  have hv5 := one_byte (w3.alloc (.cells #[.int .i64 2, .int .i64 1, .int .i64 0] 32)) 1
  rw [World.size_alloc] at hv5
  have hb3' : Below w3.heap.size w3 (w3.alloc (.cells #[.int .i64 2, .int .i64 1, .int .i64 0] 32)) := (Below.refl _ _).alloc (Nat.le_refl _) _
  have hb3'' : Below w3.heap.size w3 ((w3.alloc (.cells #[.int .i64 2, .int .i64 1, .int .i64 0] 32)).alloc (.cells #[.int .u8 1] 5)) := hb3'.alloc (by simp) _
  have X5 : Hid (Box3 ((w3.alloc (.cells #[.int .i64 2, .int .i64 1, .int .i64 0] 32)).alloc (.cells #[.int .u8 1] 5)) w3.heap.size 2 1 0) := X5.out.fresh ((Below.refl _ _).alloc (Nat.le_refl _) _)
  have X3 := Lib.hid (X3.out.fresh hb3'')
  have S3' := S3.out.fresh hb3''
  have B3' : Hid (Below w.heap.size w _) := B3.out.trans (hb3''.mono B3.out.size)
  have hsb : s.sp < w3.heap.size := S3.out.lt
  obtain ⟨b5, hb5⟩ : ∃ b, w3.heap.size = b := ⟨_, rfl⟩
  obtain ⟨b6, hb6⟩ : ∃ b, w3.heap.size + 1 = b := ⟨_, rfl⟩
  rw [hb6] at hv5 ⊢
  rw [hb5] at X5 hsb ⊢
  have HSB5 := Lib.hid hsb
  clear hsb hb3' hb3'' hb5 hb6
  generalize (w3.alloc (.cells #[.int .i64 2, .int .i64 1, .int .i64 0] 32)).alloc (.cells #[.int .u8 1] 5) = w3' at X3 X5 S3' B3' hv5 ⊢
  have HS3' := Lib.hid S3'
  clear S3'
  refine (put_no s 3 2 _ 0 _ [1] w3' HS3'.out hv5 (by decide) ex3).mono ?_
  rintro e w4 ⟨rfl, s4, o4⟩
  have x3 : Box3 w4 b3 0 2 65 := X3.out.only o4 (fun h => by have := h.2; have := HSB.out; omega)
  have x5 : Box3 w4 b5 2 1 0 := X5.out.only o4 (fun h => by have := h.2; have := HSB5.out; omega)
  have B4 : Hid (Below w.heap.size w w4) := B3'.out.trans (o4.below (fun i hi h => by have := h.1; have := HLO.out; omega) B3'.out.size)
  have hb4' : Below w4.heap.size w4 (w4.alloc (.cells #[.int .i64 0, .int .i64 0, .int .i64 0] 32)) := (Below.refl _ _).alloc (Nat.le_refl _) _
  have x3' := x3.fresh hb4'
  have x5' := x5.fresh hb4'
  have S4 : Hid (SpaceAt (w4.alloc (.cells #[.int .i64 0, .int .i64 0, .int .i64 0] 32)) s 3 2 ([] ++ [(0, z65)] ++ [(2, [])])) := s4.fresh hb4'
  have B4' : Hid (Below w.heap.size w (w4.alloc (.cells #[.int .i64 0, .int .i64 0, .int .i64 0] 32))) := B4.out.trans (hb4'.mono B4.out.size)
  obtain ⟨x1, x2, x3, _, _⟩ := x3'
  obtain ⟨y1, y2, y3, _, _⟩ := x5'
  clear s4 o4 HS3' B3 S3 B3' hb4' B4 hv5
  go_wp2_with fail
  have hu := eused_any s 3 2 _ _ S4.out
  rw [tot3] at hu
  refine hu.mono ?_
  rintro e w5 ⟨rfl, s5, b5'⟩
  have B5 : Hid (Below w.heap.size w w5) := B4'.out.trans (b5'.mono B4'.out.size)
  clear s5 b5' hu
  go_wp2_with fail
  refine (free_nilx _ _).mono ?_
  rintro e w6 ⟨rfl, rfl⟩
  go_wp2_with fail
  go_ret
  exact ⟨rfl, B5.out⟩
end Go.Proofs.YtkjpemgoiobeeaaDoor
