/- What the chapter's examples fix. -/
import Derived.Test.YtmcikjihkgplaaaDoorKPk
namespace Go.Proofs.YtmcikjihkgplaaaDoor
set_option maxRecDepth 1000000
open Go.ChangeShapes Go.WideShapes Go.ChangeAt Go.RowKit

theorem all_ex : allO [70, 128, 200] = ([⟨4, 6, 0, 1⟩, ⟨4, 8, 0, 2⟩], 0) := by decide +kernel
theorem one_ex1 : OneIs ⟨4, 6, 0, 0⟩ (some [70]) := .one 70 (by omega) (by decide +kernel) (by decide +kernel)
theorem one_ex2 : OneIs ⟨4, 40, 0, 0⟩ (some [128, 232]) := .two (by unfold no1; decide +kernel) 128 232 (by omega) (by omega) (by omega) (by decide +kernel) (fun c h1 h2 => by omega) (by decide +kernel)
theorem bytes_ex : BytesIs [⟨4, 6, 0, 0⟩, ⟨4, 40, 0, 0⟩] (some [70, 128, 232]) := .cons _ [70] _ (some [128, 232]) one_ex1 (by decide) (.cons _ [128, 232] _ (some []) one_ex2 (by decide) .nil)
theorem bytes_ex2 : BytesIs [⟨0, 0, 0, 0⟩] none := .bad _ _ (.inr rfl)
theorem jumps_ex : JumpsIs [] true := by
  unfold JumpsIs
  exact ⟨fun _ => ⟨rfl, fun i o h => by have : (allO []).1 = [] := rfl; rw [this] at h; simp at h⟩, fun _ => rfl⟩
theorem own_at {w : World} {base n s : Nat} {e : TypeId} {v : Value} {xs : List Value} (h : w.ownsRow base e s v n xs) (h0 : 0 < n) :
    ∃ g cap, v = .slice (some ⟨g, 0, none⟩) n cap ∧ base ≤ g ∧ (∀ w', Below w.heap.size w w' → ∀ j u, xs[j]? = some u → w'.cell? ⟨g, j, none⟩ = some u) := by
  have h' := h
  rcases h.2 with ⟨_, h1⟩ | ⟨g, cap, cur, rfl, hb, hg, _⟩
  · omega
  · refine ⟨g, cap, rfl, hb, fun w' hbw j u hu => ?_⟩
    have h1 := World.ownsRow.cells (g := g) h' rfl j u hu
    rw [add_plain, Nat.zero_add] at h1
    exact (hbw.cell (p := ⟨g, j, none⟩) (World.block_lt_of_cell? _ _ h1)).trans h1
theorem ex_bytes {a b c : Int} (ha : 0 ≤ a ∧ a ≤ 255) (hb : 0 ≤ b ∧ b ≤ 255) (hc : 0 ≤ c ∧ c ≤ 255) : Bytes [a, b, c] := fun n hn => by simp at hn; rcases hn with rfl | rfl | rfl <;> assumption
theorem known_c1 (w : World) (hT : Tabs w) : Calls Tryd.prog 14 #[.slice (some ⟨w.heap.size, 0, none⟩) 3 3] (w.alloc (.cells #[.int .u8 70, .int .u8 128, .int .u8 200] 5)) fun e w' => ∃ g cap, e = .returned (.tuple #[.slice (some ⟨g, 0, none⟩) 2 cap, .int .i64 0]) ∧
    Hid (∀ w'', Below w'.heap.size w' w'' → w''.cell? ⟨g, 1, none⟩ = some (.int .i64 6) ∧ w''.cell? ⟨g, 4, none⟩ = some (.int .i64 4) ∧ w''.cell? ⟨g, 5, none⟩ = some (.int .i64 8) ∧ w''.cell? ⟨g, 6, none⟩ = some (.int .i64 0) ∧ w''.cell? ⟨g, 7, none⟩ = some (.int .i64 2)) ∧ Below w.heap.size w w' := by
  refine (all_code _ [70, 128, 200] _ (hT.next (below_new w _)) (ownB3 w 70 128 200).bts (ex_bytes (by omega) (by omega) (by omega)) (by simp)).mono ?_
  rintro e w' ⟨v, rfl, hown, hb⟩
  rw [all_ex] at hown ⊢
  obtain ⟨g, cap, rfl, _, hc⟩ := own_at hown (by simp)
  exact ⟨g, cap, rfl, Lib.hid fun w'' h => ⟨hc w'' h 1 _ rfl, hc w'' h 4 _ rfl, hc w'' h 5 _ rfl, hc w'' h 6 _ rfl, hc w'' h 7 _ rfl⟩, (below_new w _).trans (hb.mono (by simp))⟩
theorem ownL_lit1 (w : World) (o : OpT) : OwnL w.heap.size (w.alloc (.cells #[.int .i64 o.k, .int .i64 o.n, .int .i64 o.m, .int .i64 o.l] 25)) (.slice (some ⟨w.heap.size, 0, none⟩) 1 1) [o] := World.ownsRow_lit w #[.int .i64 o.k, .int .i64 o.n, .int .i64 o.m, .int .i64 o.l] 1 (Nat.le_refl _) (by unfold maxLen; omega) rfl
theorem ownL_lit2 (w : World) (o p : OpT) : OwnL w.heap.size (w.alloc (.cells #[.int .i64 o.k, .int .i64 o.n, .int .i64 o.m, .int .i64 o.l, .int .i64 p.k, .int .i64 p.n, .int .i64 p.m, .int .i64 p.l] 25)) (.slice (some ⟨w.heap.size, 0, none⟩) 2 2) [o, p] := World.ownsRow_lit w #[.int .i64 o.k, .int .i64 o.n, .int .i64 o.m, .int .i64 o.l, .int .i64 p.k, .int .i64 p.n, .int .i64 p.m, .int .i64 p.l] 2 (Nat.le_refl _) (by unfold maxLen; omega) rfl
theorem known_c2 (w : World) (hT : Tabs w) : Calls Tryd.prog 19 #[.slice (some ⟨w.heap.size, 0, none⟩) 2 2] (w.alloc (.cells #[.int .i64 4, .int .i64 6, .int .i64 0, .int .i64 0, .int .i64 4, .int .i64 40, .int .i64 0, .int .i64 0] 25)) fun e w' => ∃ v, e = .returned (.tuple #[v, .int .i64 0]) ∧ Hid (OwnB (w.heap.size + 1) w' v [70, 128, 232]) ∧ Below w.heap.size w w' := by
  refine (bytes_code _ [⟨4, 6, 0, 0⟩, ⟨4, 40, 0, 0⟩] _ (hT.next (below_new w _)) (ownL_lit2 w ⟨4, 6, 0, 0⟩ ⟨4, 40, 0, 0⟩).ops (by simp)).mono ?_
  rintro e w' ⟨r, v, hr, rfl, hown, hb⟩
  rw [hr.eq bytes_ex] at hown ⊢
  exact ⟨v, rfl, Lib.hid (by simpa using hown), (below_new w _).trans (hb.mono (by simp))⟩
theorem known_c3 (w : World) (hT : Tabs w) : Calls Tryd.prog 19 #[.slice (some ⟨w.heap.size, 0, none⟩) 1 1] (w.alloc (.cells #[.int .i64 0, .int .i64 0, .int .i64 0, .int .i64 0] 25)) fun e w' => ∃ v, e = .returned (.tuple #[v, .int .i64 2]) ∧ Below w.heap.size w w' := by
  refine (bytes_code _ [⟨0, 0, 0, 0⟩] _ (hT.next (below_new w _)) (ownL_lit1 w ⟨0, 0, 0, 0⟩).ops (by simp)).mono ?_
  rintro e w' ⟨r, v, hr, rfl, hown, hb⟩
  rw [hr.eq bytes_ex2]
  exact ⟨v, rfl, (below_new w _).trans (hb.mono (by simp))⟩
theorem known_c4 (w : World) (hT : Tabs w) : Calls Tryd.prog 17 #[.slice none 0 0] w fun e w' => e = .returned (.bool true) ∧ Below w.heap.size w w' := by
  refine (jumps_code (N := fun _ => True) _ [] w hT ⟨none, 0, rfl, by simp, .inl rfl⟩ (fun n hn => by cases hn) (by simp)).mono ?_
  rintro e w' ⟨b, hj, rfl, hb⟩
  rw [hj.eq jumps_ex]
  exact ⟨rfl, hb⟩
set_option maxHeartbeats 4000000 in
theorem known_any (w : World) (hT : Tabs w) : Calls Tryd.prog 11 #[] w fun e w' => e = .returned (.bool true) ∧ Below w.heap.size w w' := by
  have C1 := Lib.hid (fun w' (h : Below w.heap.size w w') => known_c1 w' (hT.next h))
  have C2 := Lib.hid (fun w' (h : Below w.heap.size w w') => known_c2 w' (hT.next h))
  have C3 := Lib.hid (fun w' (h : Below w.heap.size w w') => known_c3 w' (hT.next h))
  have C4 := Lib.hid (fun w' (h : Below w.heap.size w w') => known_c4 w' (hT.next h))
  clear hT
  have hgd := fun op x y xs ys w => guard_op op x y xs ys w
  have hq := fun w => eql_op ⟨4, 8, 0, 2⟩ ⟨4, 8, 0, 2⟩ w
  simp only [decide_true] at hq
  go_enter Tryd.func11, Tryd.ntmps11
  go_upto_region 2 with (go_at_call 14; refine (C1.out w (Below.refl _ _)).mono ?_; rintro e w1 ⟨g, cap, rfl, HC, hb1⟩)
  have K1 := Lib.hid hb1
  clear hb1 C1
  go_upto_region 3 with (go_at_call 19; refine (C2.out w1 K1.out).mono ?_; rintro e w2 ⟨v2, rfl, O2, hb2⟩)
  have HC2 : Hid (∀ w'', Below w2.heap.size w2 w'' → w''.cell? ⟨g, 1, none⟩ = some (.int .i64 6) ∧ w''.cell? ⟨g, 4, none⟩ = some (.int .i64 4) ∧ w''.cell? ⟨g, 5, none⟩ = some (.int .i64 8) ∧ w''.cell? ⟨g, 6, none⟩ = some (.int .i64 0) ∧ w''.cell? ⟨g, 7, none⟩ = some (.int .i64 2)) := Lib.hid fun w'' h => HC.out w'' (hb2.trans (h.mono hb2.size))
  have K2 := Lib.hid (K1.out.trans (hb2.mono K1.out.size))
  clear hb2 C2 HC K1
  go_upto_region 4 with (go_at_call 19; refine (C3.out w2 K2.out).mono ?_; rintro e w3 ⟨v3, rfl, hb3⟩)
  have K3 := Lib.hid (K2.out.trans (hb3.mono K2.out.size))
  obtain ⟨y0, y1, y2, y3, y4⟩ := HC2.out w3 hb3
  have O3 := Lib.hid (OwnB.next O2.out hb3)
  have HS : Hid (Calls Tryd.prog 21 #[v2, .slice (some ⟨w3.heap.size, 0, none⟩) 3 3] (w3.alloc (.cells #[.int .u8 70, .int .u8 128, .int .u8 232] 5)) fun e w' => e = .returned (.bool true) ∧ w3.alloc (.cells #[.int .u8 70, .int .u8 128, .int .u8 232] 5) = w') := Lib.hid (same_eq _ _ [70, 128, 232] _ (OwnB.next O3.out (below_new _ _)).bts (ownB3 w3 70 128 232).bts)
  clear hb3 C3 HC2 K2 O2 O3
  go_wp2_with (first | (go_at_call 21; refine HS.out.mono ?_; rintro e w4 ⟨rfl, rfl⟩) | (go_at_call 17; refine (C4.out _ (K3.out.alloc K3.out.size _)).mono ?_; rintro e w5 ⟨rfl, hb5⟩))
  all_goals go_ret
  all_goals exact ⟨rfl, K3.out.trans (((below_new w3 _).trans (hb5.mono (by simp))).mono K3.out.size)⟩
end Go.Proofs.YtmcikjihkgplaaaDoor
