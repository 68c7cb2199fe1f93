/- The package's place: what it answers. -/
import Derived.Test.YtmcikjihkgplaaaDoorPh
import Derived.Test.YtmcikjihkgplaaaDoorKOw
namespace Go.Proofs.YtmcikjihkgplaaaDoor
set_option maxRecDepth 1000000
open Go.ChangeShapes Go.WideShapes Go.ChangeAt Go.RowKit

theorem oop_cells {w : World} (h : Tabs w) : w.cell? ⟨0, 0, none⟩ = some (.int .i64 4) ∧ w.cell? ⟨0, 1, none⟩ = some (.int .i64 6) ∧ w.cell? ⟨0, 2, none⟩ = some (.int .i64 2) ∧ w.cell? ⟨0, 3, none⟩ = some (.int .i64 (-1)) ∧ w.cell? ⟨0, 4, none⟩ = some (.int .i64 1) ∧ w.cell? ⟨0, 5, none⟩ = some (.int .i64 3) ∧ w.cell? ⟨0, 6, none⟩ = some (.int .i64 5) :=
  ⟨h.oop 0 (by decide), h.oop 1 (by decide), h.oop 2 (by decide), h.oop 3 (by decide), h.oop 4 (by decide), h.oop 5 (by decide), h.oop 6 (by decide)⟩
theorem oopIx_at {n : Int} {i : Nat} (hi : i < 7) (hn : oopL.getD i 0 = n) : oopIx n = i := by
  have : i = 0 ∨ i = 1 ∨ i = 2 ∨ i = 3 ∨ i = 4 ∨ i = 5 ∨ i = 6 := by omega
  rw [← hn]
  rcases this with rfl | rfl | rfl | rfl | rfl | rfl | rfl <;> rfl
theorem oopIx_no {n : Int} (h : ∀ i : Nat, i < 7 → oopL.getD i 0 ≠ n) : oopIx n = -1 := by
  have h0 : (4 : Int) ≠ n := h 0 (by decide)
  have h1 : (6 : Int) ≠ n := h 1 (by decide)
  have h2 : (2 : Int) ≠ n := h 2 (by decide)
  have h3 : (-1 : Int) ≠ n := h 3 (by decide)
  have h4 : (1 : Int) ≠ n := h 4 (by decide)
  have h5 : (3 : Int) ≠ n := h 5 (by decide)
  have h6 : (5 : Int) ≠ n := h 6 (by decide)
  unfold oopIx
  repeat (rw [if_neg (by omega)])
theorem oop_index0 (w : World) : (Instr.index 62 (.agg #[.int .i64 4, .int .i64 6, .int .i64 2, .int .i64 (-1), .int .i64 1, .int .i64 3, .int .i64 5]) (.int .i64 0)).run Tryd.prog w = .ok (.int .i64 4) w := by kernel_rfl
theorem oop_index1 (w : World) : (Instr.index 62 (.agg #[.int .i64 4, .int .i64 6, .int .i64 2, .int .i64 (-1), .int .i64 1, .int .i64 3, .int .i64 5]) (.int .i64 1)).run Tryd.prog w = .ok (.int .i64 6) w := by kernel_rfl
theorem oop_index2 (w : World) : (Instr.index 62 (.agg #[.int .i64 4, .int .i64 6, .int .i64 2, .int .i64 (-1), .int .i64 1, .int .i64 3, .int .i64 5]) (.int .i64 2)).run Tryd.prog w = .ok (.int .i64 2) w := by kernel_rfl
theorem oop_index3 (w : World) : (Instr.index 62 (.agg #[.int .i64 4, .int .i64 6, .int .i64 2, .int .i64 (-1), .int .i64 1, .int .i64 3, .int .i64 5]) (.int .i64 3)).run Tryd.prog w = .ok (.int .i64 (-1)) w := by kernel_rfl
theorem oop_index4 (w : World) : (Instr.index 62 (.agg #[.int .i64 4, .int .i64 6, .int .i64 2, .int .i64 (-1), .int .i64 1, .int .i64 3, .int .i64 5]) (.int .i64 4)).run Tryd.prog w = .ok (.int .i64 1) w := by kernel_rfl
theorem oop_index5 (w : World) : (Instr.index 62 (.agg #[.int .i64 4, .int .i64 6, .int .i64 2, .int .i64 (-1), .int .i64 1, .int .i64 3, .int .i64 5]) (.int .i64 5)).run Tryd.prog w = .ok (.int .i64 3) w := by kernel_rfl
theorem oop_index6 (w : World) : (Instr.index 62 (.agg #[.int .i64 4, .int .i64 6, .int .i64 2, .int .i64 (-1), .int .i64 1, .int .i64 3, .int .i64 5]) (.int .i64 6)).run Tryd.prog w = .ok (.int .i64 5) w := by kernel_rfl
theorem place_plain (o : OpT) (w : World) (hk : o.k ≠ 12) (hk2 : o.k ≠ 14) :
    Calls Tryd.prog 35 #[.agg #[.int .i64 o.k, .int .i64 o.n, .int .i64 o.m, .int .i64 o.l]] w fun e w' => e = .returned (.int .i64 (placeO o.k o.n o.m)) ∧ Below w.heap.size w w' := by
  have B0 := Lib.hid (box_new w (.int .i64 o.k) (.int .i64 o.n) (.int .i64 o.m) (.int .i64 o.l))
  have K0 := Lib.hid (below_new w (.cells #[.int .i64 o.k, .int .i64 o.n, .int .i64 o.m, .int .i64 o.l] 25))
  have f1 : (o.k == 12) = false := by simpa using hk
  have f2 : (o.k == 14) = false := by simpa using hk2
  have HP : Hid (placeO o.k o.n o.m = if o.k = 22 ∨ o.k = 24 then IntKind.i64.wrap (o.n - 1) else if o.k = 17 then IntKind.i64.wrap (IntKind.i64.wrap (16 * o.m) + o.n) else o.n) := Lib.hid (by unfold placeO; rw [if_neg (by omega)])
  generalize placeO o.k o.n o.m = r at *
  clear hk hk2
  go_enter Tryd.func35, Tryd.ntmps35
  go_upto_region 1 with fail
  generalize w.alloc (.cells #[.int .i64 o.k, .int .i64 o.n, .int .i64 o.m, .int .i64 o.l] 25) = w1 at *
  obtain ⟨⟨p0, p1, p2, p3⟩, pf, _⟩ := B0.out
  by_cases h22 : o.k = 22 ∨ o.k = 24
  · have HP2 : Hid (r = IntKind.i64.wrap (o.n - 1)) := Lib.hid (by rw [HP.out, if_pos h22])
    obtain ⟨x, hx⟩ : ∃ x, IntKind.i64.wrap (o.n - 1) = x := ⟨_, rfl⟩
    rw [hx] at HP2
    clear HP
    rcases h22 with h | h
    · have f3 : (o.k == 22) = true := by simp [h]
      clear h
      go_wp2_with fail
      go_ret
      exact ⟨by rw [HP2.out, ← hx]; rfl, K0.out⟩
    · have f3 : (o.k == 22) = false := by simp [h]
      have f4 : (o.k == 24) = true := by simp [h]
      clear h
      go_wp2_with fail
      go_ret
      exact ⟨by rw [HP2.out, ← hx]; rfl, K0.out⟩
  · have f3 : (o.k == 22) = false := by simp; omega
    have f4 : (o.k == 24) = false := by simp; omega
    by_cases h17 : o.k = 17
    · have HP2 : Hid (r = IntKind.i64.wrap (IntKind.i64.wrap (16 * o.m) + o.n)) := Lib.hid (by rw [HP.out, if_neg h22, if_pos h17])
      have f5 : (o.k == 17) = true := by simp [h17]
      obtain ⟨x, hx⟩ : ∃ x, IntKind.i64.wrap (16 * o.m) = x := ⟨_, rfl⟩
      rw [hx] at HP2
      obtain ⟨y, hy⟩ : ∃ y, IntKind.i64.wrap (x + o.n) = y := ⟨_, rfl⟩
      rw [hy] at HP2
      clear HP h17 h22
      go_wp2_with fail
      go_ret
      exact ⟨by rw [HP2.out]; rfl, K0.out⟩
    · have HP2 : Hid (r = o.n) := Lib.hid (by rw [HP.out, if_neg h22, if_neg h17])
      have f5 : (o.k == 17) = false := by simpa using h17
      clear HP h17 h22
      go_wp2_with fail
      go_ret
      exact ⟨by rw [HP2.out]; rfl, K0.out⟩
set_option maxHeartbeats 4000000 in
theorem place_oop (o : OpT) (w : World) (hT : Tabs w) (hk : o.k = 12 ∨ o.k = 14) :
    Calls Tryd.prog 35 #[.agg #[.int .i64 o.k, .int .i64 o.n, .int .i64 o.m, .int .i64 o.l]] w fun e w' => e = .returned (.int .i64 (placeO o.k o.n o.m)) ∧ Below w.heap.size w w' := by
  have B0 := Lib.hid (box_new w (.int .i64 o.k) (.int .i64 o.n) (.int .i64 o.m) (.int .i64 o.l))
  have K0 := Lib.hid (below_new w (.cells #[.int .i64 o.k, .int .i64 o.n, .int .i64 o.m, .int .i64 o.l] 25))
  have HC := Lib.hid (oop_cells (hT.next (below_new w (.cells #[.int .i64 o.k, .int .i64 o.n, .int .i64 o.m, .int .i64 o.l] 25))))
  have HP : Hid (placeO o.k o.n o.m = oopIx o.n) := Lib.hid (by unfold placeO; rw [if_pos hk])
  rw [HP.out]
  clear HP hT
  obtain ⟨kb, hkb⟩ : ∃ b : Bool, (o.k == 12) = b := ⟨_, rfl⟩
  have f2 : kb = false → (o.k == 14) = true := fun h => by rw [h] at hkb; simp at hkb; simp; omega
  clear hk
  go_enter Tryd.func35, Tryd.ntmps35
  go_upto_region 1 with fail
  generalize w.alloc (.cells #[.int .i64 o.k, .int .i64 o.n, .int .i64 o.m, .int .i64 o.l] 25) = w1 at *
  obtain ⟨⟨p0, p1, p2, p3⟩, pf, _⟩ := B0.out
  obtain ⟨c0, c1, c2, c3, c4, c5, c6⟩ := HC.out
  cases kb with
  | true =>
    clear f2
    go_wp2_with fail
    clear c0 c1 c2 c3 c4 c5 c6
    go_loopw [11] (fun s11 wx => ∃ i : Nat, i ≤ 7 ∧ s11 = .int .i64 i ∧ Hid (∀ j : Nat, j < i → oopL.getD j 0 ≠ o.n) ∧ wx = w1) (fun s11 _ => 7 - (RowKit.intOf s11).toNat)
    case atStart => exact ⟨0, by omega, rfl, Lib.hid fun j h => by omega, rfl⟩
    case round =>
      obtain ⟨i, hi, rfl, HN, rfl⟩ := hrel
      by_cases hlt : i < 7
      · have hX : Hid (oopL.getD i 0 ≠ o.n → ∀ j : Nat, j < i + 1 → oopL.getD j 0 ≠ o.n) := Lib.hid fun h j hj => by
          rcases Nat.lt_or_ge j i with h' | h'
          · exact HN.out j h'
          · rw [show j = i by omega]; exact h
        have hY : Hid (oopL.getD i 0 = o.n → oopIx o.n = i) := Lib.hid fun h => oopIx_at hlt h
        have h7 : i = 0 ∨ i = 1 ∨ i = 2 ∨ i = 3 ∨ i = 4 ∨ i = 5 ∨ i = 6 := by omega
        clear HN hlt hi
        rcases h7 with rfl | rfl | rfl | rfl | rfl | rfl | rfl
        · have hix := fun w => oop_index0 w
          rw [show (((0 : Nat) : Int)) = (0 : Int) from rfl] at hY ⊢
          by_cases h : (4 : Int) = o.n
          · have e1 : ((4 : Int) == o.n) = true := by simpa using h
            have HF := Lib.hid (hY.out h)
            clear h
            go_wp2_with fail
            go_ret
            exact ⟨by rw [HF.out]; rfl, K0.out⟩
          · have e1 : ((4 : Int) == o.n) = false := by simpa using h
            have HX := Lib.hid (hX.out h)
            clear h
            go_wp2_with fail
            exact ⟨⟨1, by omega, by first | rfl | go_num, HX, by trivial⟩, by simp [RowKit.intOf]⟩
        · have hix := fun w => oop_index1 w
          rw [show (((1 : Nat) : Int)) = (1 : Int) from rfl] at hY ⊢
          by_cases h : (6 : Int) = o.n
          · have e1 : ((6 : Int) == o.n) = true := by simpa using h
            have HF := Lib.hid (hY.out h)
            clear h
            go_wp2_with fail
            go_ret
            exact ⟨by rw [HF.out]; rfl, K0.out⟩
          · have e1 : ((6 : Int) == o.n) = false := by simpa using h
            have HX := Lib.hid (hX.out h)
            clear h
            go_wp2_with fail
            exact ⟨⟨2, by omega, by first | rfl | go_num, HX, by trivial⟩, by simp [RowKit.intOf]⟩
        · have hix := fun w => oop_index2 w
          rw [show (((2 : Nat) : Int)) = (2 : Int) from rfl] at hY ⊢
          by_cases h : (2 : Int) = o.n
          · have e1 : ((2 : Int) == o.n) = true := by simpa using h
            have HF := Lib.hid (hY.out h)
            clear h
            go_wp2_with fail
            go_ret
            exact ⟨by rw [HF.out]; rfl, K0.out⟩
          · have e1 : ((2 : Int) == o.n) = false := by simpa using h
            have HX := Lib.hid (hX.out h)
            clear h
            go_wp2_with fail
            exact ⟨⟨3, by omega, by first | rfl | go_num, HX, by trivial⟩, by simp [RowKit.intOf]⟩
        · have hix := fun w => oop_index3 w
          rw [show (((3 : Nat) : Int)) = (3 : Int) from rfl] at hY ⊢
          by_cases h : (-1 : Int) = o.n
          · have e1 : ((-1 : Int) == o.n) = true := by simpa using h
            have HF := Lib.hid (hY.out h)
            clear h
            go_wp2_with fail
            go_ret
            exact ⟨by rw [HF.out]; rfl, K0.out⟩
          · have e1 : ((-1 : Int) == o.n) = false := by simpa using h
            have HX := Lib.hid (hX.out h)
            clear h
            go_wp2_with fail
            exact ⟨⟨4, by omega, by first | rfl | go_num, HX, by trivial⟩, by simp [RowKit.intOf]⟩
        · have hix := fun w => oop_index4 w
          rw [show (((4 : Nat) : Int)) = (4 : Int) from rfl] at hY ⊢
          by_cases h : (1 : Int) = o.n
          · have e1 : ((1 : Int) == o.n) = true := by simpa using h
            have HF := Lib.hid (hY.out h)
            clear h
            go_wp2_with fail
            go_ret
            exact ⟨by rw [HF.out]; rfl, K0.out⟩
          · have e1 : ((1 : Int) == o.n) = false := by simpa using h
            have HX := Lib.hid (hX.out h)
            clear h
            go_wp2_with fail
            exact ⟨⟨5, by omega, by first | rfl | go_num, HX, by trivial⟩, by simp [RowKit.intOf]⟩
        · have hix := fun w => oop_index5 w
          rw [show (((5 : Nat) : Int)) = (5 : Int) from rfl] at hY ⊢
          by_cases h : (3 : Int) = o.n
          · have e1 : ((3 : Int) == o.n) = true := by simpa using h
            have HF := Lib.hid (hY.out h)
            clear h
            go_wp2_with fail
            go_ret
            exact ⟨by rw [HF.out]; rfl, K0.out⟩
          · have e1 : ((3 : Int) == o.n) = false := by simpa using h
            have HX := Lib.hid (hX.out h)
            clear h
            go_wp2_with fail
            exact ⟨⟨6, by omega, by first | rfl | go_num, HX, by trivial⟩, by simp [RowKit.intOf]⟩
        · have hix := fun w => oop_index6 w
          rw [show (((6 : Nat) : Int)) = (6 : Int) from rfl] at hY ⊢
          by_cases h : (5 : Int) = o.n
          · have e1 : ((5 : Int) == o.n) = true := by simpa using h
            have HF := Lib.hid (hY.out h)
            clear h
            go_wp2_with fail
            go_ret
            exact ⟨by rw [HF.out]; rfl, K0.out⟩
          · have e1 : ((5 : Int) == o.n) = false := by simpa using h
            have HX := Lib.hid (hX.out h)
            clear h
            go_wp2_with fail
            exact ⟨⟨7, by omega, by first | rfl | go_num, HX, by trivial⟩, by simp [RowKit.intOf]⟩
      · have hi7 : i = 7 := by omega
        have HF : Hid (oopIx o.n = -1) := Lib.hid (oopIx_no (by rw [← hi7]; exact HN.out))
        subst hi7
        clear HN hlt hi
        go_wp2_with fail
        go_ret
        exact ⟨by rw [HF.out]; rfl, K0.out⟩
  | false =>
    have f3 := f2 rfl
    clear f2
    go_wp2_with fail
    clear c0 c1 c2 c3 c4 c5 c6
    go_loopw [11] (fun s11 wx => ∃ i : Nat, i ≤ 7 ∧ s11 = .int .i64 i ∧ Hid (∀ j : Nat, j < i → oopL.getD j 0 ≠ o.n) ∧ wx = w1) (fun s11 _ => 7 - (RowKit.intOf s11).toNat)
    case atStart => exact ⟨0, by omega, rfl, Lib.hid fun j h => by omega, rfl⟩
    case round =>
      obtain ⟨i, hi, rfl, HN, rfl⟩ := hrel
      by_cases hlt : i < 7
      · have hX : Hid (oopL.getD i 0 ≠ o.n → ∀ j : Nat, j < i + 1 → oopL.getD j 0 ≠ o.n) := Lib.hid fun h j hj => by
          rcases Nat.lt_or_ge j i with h' | h'
          · exact HN.out j h'
          · rw [show j = i by omega]; exact h
        have hY : Hid (oopL.getD i 0 = o.n → oopIx o.n = i) := Lib.hid fun h => oopIx_at hlt h
        have h7 : i = 0 ∨ i = 1 ∨ i = 2 ∨ i = 3 ∨ i = 4 ∨ i = 5 ∨ i = 6 := by omega
        clear HN hlt hi
        rcases h7 with rfl | rfl | rfl | rfl | rfl | rfl | rfl
        · have hix := fun w => oop_index0 w
          rw [show (((0 : Nat) : Int)) = (0 : Int) from rfl] at hY ⊢
          by_cases h : (4 : Int) = o.n
          · have e1 : ((4 : Int) == o.n) = true := by simpa using h
            have HF := Lib.hid (hY.out h)
            clear h
            go_wp2_with fail
            go_ret
            exact ⟨by rw [HF.out]; rfl, K0.out⟩
          · have e1 : ((4 : Int) == o.n) = false := by simpa using h
            have HX := Lib.hid (hX.out h)
            clear h
            go_wp2_with fail
            exact ⟨⟨1, by omega, by first | rfl | go_num, HX, by trivial⟩, by simp [RowKit.intOf]⟩
        · have hix := fun w => oop_index1 w
          rw [show (((1 : Nat) : Int)) = (1 : Int) from rfl] at hY ⊢
          by_cases h : (6 : Int) = o.n
          · have e1 : ((6 : Int) == o.n) = true := by simpa using h
            have HF := Lib.hid (hY.out h)
            clear h
            go_wp2_with fail
            go_ret
            exact ⟨by rw [HF.out]; rfl, K0.out⟩
          · have e1 : ((6 : Int) == o.n) = false := by simpa using h
            have HX := Lib.hid (hX.out h)
            clear h
            go_wp2_with fail
            exact ⟨⟨2, by omega, by first | rfl | go_num, HX, by trivial⟩, by simp [RowKit.intOf]⟩
        · have hix := fun w => oop_index2 w
          rw [show (((2 : Nat) : Int)) = (2 : Int) from rfl] at hY ⊢
          by_cases h : (2 : Int) = o.n
          · have e1 : ((2 : Int) == o.n) = true := by simpa using h
            have HF := Lib.hid (hY.out h)
            clear h
            go_wp2_with fail
            go_ret
            exact ⟨by rw [HF.out]; rfl, K0.out⟩
          · have e1 : ((2 : Int) == o.n) = false := by simpa using h
            have HX := Lib.hid (hX.out h)
            clear h
            go_wp2_with fail
            exact ⟨⟨3, by omega, by first | rfl | go_num, HX, by trivial⟩, by simp [RowKit.intOf]⟩
        · have hix := fun w => oop_index3 w
          rw [show (((3 : Nat) : Int)) = (3 : Int) from rfl] at hY ⊢
          by_cases h : (-1 : Int) = o.n
          · have e1 : ((-1 : Int) == o.n) = true := by simpa using h
            have HF := Lib.hid (hY.out h)
            clear h
            go_wp2_with fail
            go_ret
            exact ⟨by rw [HF.out]; rfl, K0.out⟩
          · have e1 : ((-1 : Int) == o.n) = false := by simpa using h
            have HX := Lib.hid (hX.out h)
            clear h
            go_wp2_with fail
            exact ⟨⟨4, by omega, by first | rfl | go_num, HX, by trivial⟩, by simp [RowKit.intOf]⟩
        · have hix := fun w => oop_index4 w
          rw [show (((4 : Nat) : Int)) = (4 : Int) from rfl] at hY ⊢
          by_cases h : (1 : Int) = o.n
          · have e1 : ((1 : Int) == o.n) = true := by simpa using h
            have HF := Lib.hid (hY.out h)
            clear h
            go_wp2_with fail
            go_ret
            exact ⟨by rw [HF.out]; rfl, K0.out⟩
          · have e1 : ((1 : Int) == o.n) = false := by simpa using h
            have HX := Lib.hid (hX.out h)
            clear h
            go_wp2_with fail
            exact ⟨⟨5, by omega, by first | rfl | go_num, HX, by trivial⟩, by simp [RowKit.intOf]⟩
        · have hix := fun w => oop_index5 w
          rw [show (((5 : Nat) : Int)) = (5 : Int) from rfl] at hY ⊢
          by_cases h : (3 : Int) = o.n
          · have e1 : ((3 : Int) == o.n) = true := by simpa using h
            have HF := Lib.hid (hY.out h)
            clear h
            go_wp2_with fail
            go_ret
            exact ⟨by rw [HF.out]; rfl, K0.out⟩
          · have e1 : ((3 : Int) == o.n) = false := by simpa using h
            have HX := Lib.hid (hX.out h)
            clear h
            go_wp2_with fail
            exact ⟨⟨6, by omega, by first | rfl | go_num, HX, by trivial⟩, by simp [RowKit.intOf]⟩
        · have hix := fun w => oop_index6 w
          rw [show (((6 : Nat) : Int)) = (6 : Int) from rfl] at hY ⊢
          by_cases h : (5 : Int) = o.n
          · have e1 : ((5 : Int) == o.n) = true := by simpa using h
            have HF := Lib.hid (hY.out h)
            clear h
            go_wp2_with fail
            go_ret
            exact ⟨by rw [HF.out]; rfl, K0.out⟩
          · have e1 : ((5 : Int) == o.n) = false := by simpa using h
            have HX := Lib.hid (hX.out h)
            clear h
            go_wp2_with fail
            exact ⟨⟨7, by omega, by first | rfl | go_num, HX, by trivial⟩, by simp [RowKit.intOf]⟩
      · have hi7 : i = 7 := by omega
        have HF : Hid (oopIx o.n = -1) := Lib.hid (oopIx_no (by rw [← hi7]; exact HN.out))
        subst hi7
        clear HN hlt hi
        go_wp2_with fail
        go_ret
        exact ⟨by rw [HF.out]; rfl, K0.out⟩
theorem place_code (o : OpT) (w : World) (hT : Tabs w) :
    Calls Tryd.prog 35 #[.agg #[.int .i64 o.k, .int .i64 o.n, .int .i64 o.m, .int .i64 o.l]] w fun e w' => e = .returned (.int .i64 (placeO o.k o.n o.m)) ∧ Below w.heap.size w w' := by
  by_cases h : o.k = 12 ∨ o.k = 14
  · exact place_oop o w hT h
  · exact place_plain o w (fun e => h (.inl e)) (fun e => h (.inr e))
end Go.Proofs.YtmcikjihkgplaaaDoor
