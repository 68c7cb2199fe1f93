/- What Refs of package wide returns of any object: the numbers of what it names, in new memory. -/
import Derived.Test.YtmaeoefimkppoaaVRfp
namespace Go.Proofs.Ytmaeoefimkppoaa.Wd
open Go.ChangeShapes Go.WideShapes Go.ChangeAt Go.RowKit
set_option maxRecDepth 1000000

theorem refsL_app (l m : List Int) : refsL (l ++ m) = refsL l ++ refsL m := List.filterMap_append
def PInv (w : World) (c k : Int) (l : List Int) (wv bv : Value) (j : Nat) (wr : World) : Prop :=
  Box w.heap.size (.int .i64 c) (.int .i64 k) wv bv wr ∧ RInv (w.heap.size + 1) (w.heap.size + 2) (refsL (c :: l.take j)) wr ∧ Below w.heap.size w wr
theorem rinv_start (w : World) (o : Obj) : RInv (w.heap.size + 1) (w.heap.size + 2) [] ((w.alloc o).alloc (.cells #[.slice none 0 0] 30)) := by
  refine ⟨.slice none 0 0, 0, ?_, ?_, by omega, by simp, World.ownsRow_nil _ _ _ _, rfl⟩
  · rw [World.cell?_alloc_at _ _ _ _ (by simp)]; rfl
  · have h : ∀ (w : World) (p : Nat), p = w.heap.size → (w.alloc (.cells #[.slice none 0 0] 30)).frozen? ⟨p, 0, none⟩ = false := by
      intro w p hp
      subst hp
      unfold World.frozen?
      rw [heap_alloc_new]
      simp
    exact h _ _ (by simp)

set_option maxHeartbeats 2000000 in
theorem refs_any (v0 : Value) (o : Ob) (w : World) (hb0 : ObjAt w v0 o) (hs : o.w.length ≤ 1200) :
    Calls Try.prog 73 #[v0] w (GaveI (refsO o) w) := by
  have hmf : ∀ (fn : Fn) (first cap : Array Value) (w : World), (Instr.makeFunc fn first cap).run Try.prog w = .ok (.func fn first cap) w := fun _ _ _ _ => rfl
  obtain ⟨wv, bv, rfl, hI, ⟨_, _, a2, c2, rfl, _⟩, hc1, _⟩ := hb0
  have HI := Lib.hid hI.1
  have H6 := Lib.hid hI.2.1
  obtain ⟨_, _, a1, c1, rfl, _⟩ := hI
  obtain ⟨c, k, l, b⟩ := o
  simp only at *
  have HS := Lib.hid hs
  have hs' : (l.length : Int) ≤ 1200 := by omega
  have X : Hid (Box w.heap.size (.int .i64 c) (.int .i64 k) (.slice a1 l.length c1) (.slice a2 b.length c2) ((w.alloc (.cells #[.int .i64 c, .int .i64 k, .slice a1 l.length c1, .slice a2 b.length c2] 33)).alloc (.cells #[.slice none 0 0] 30))) := (box_new w _ _ _ _).next ((Below.refl _ _).alloc (Nat.le_refl _) _)
  have BB := Lib.hid (bel2 w (.cells #[.int .i64 c, .int .i64 k, .slice a1 l.length c1, .slice a2 b.length c2] 33) (.cells #[.slice none 0 0] 30))
  have HC := Lib.hid (refs1_any (w.heap.size + 1) (w.heap.size + 2) c [] _ hc1 (rinv_start w (.cells #[.int .i64 c, .int .i64 k, .slice a1 l.length c1, .slice a2 b.length c2] 33)) (by simp))
  rw [List.nil_append] at HC
  show Calls Try.prog 73 _ w (GaveI (refsL (c :: l)) w)
  clear hc1
  go_enter Try.func73, Try.ntmps73
  go_wp2_with fail
  refine HC.out.mono ?_
  rintro e w1 ⟨rfl, hr1, hb1⟩
  have F0 : Hid (PInv w c k l (.slice a1 l.length c1) (.slice a2 b.length c2) 0 w1) := ⟨X.out.kept hb1 (by omega) (by simp), hr1, BB.out.trans (hb1.mono (by omega))⟩
  obtain ⟨⟨x0, x1, x2, x3⟩, _, _⟩ := F0.out.1
  clear hr1 hb1 HC
  go_wp2
  go_loopw [15] (fun i wr => ∃ j : Nat, j ≤ l.length ∧ i = .int .i64 j ∧ Hid (PInv w c k l (.slice a1 l.length c1) (.slice a2 b.length c2) j wr)) (fun i _ => l.length - (intOf i).toNat)
  case atStart => exact ⟨0, by omega, rfl, F0⟩
  case round =>
    obtain ⟨j, hj, rfl, hL⟩ := hrel
    clear F0 x0 x1 x2 x3
    by_cases hlt : j < l.length
    · have hlt' : (j : Int) < l.length := by omega
      have HLT := Lib.hid hlt
      obtain ⟨bb, off, cc, hz, hc⟩ := (HI.out.kept hL.out.2.2).at_ hlt
      injection hz with q1 q2 q3
      subst q1
      clear q2 q3
      have HC := Lib.hid (refs1_any (w.heap.size + 1) (w.heap.size + 2) (l.getD j 0) _ wr (H6.out.at_ j) hL.out.2.1 (by have h2 := refsL_len (c :: l.take j); simp only [List.length_cons, List.length_take] at h2; omega))
      rw [← refsL_app, ← take_at hlt] at HC
      generalize l.getD j 0 = y at HC hc
      clear hlt
      go_wp2_with fail
      refine HC.out.mono ?_
      rintro e w2 ⟨rfl, hr2, hb2⟩
      have F2 : Hid (PInv w c k l (.slice (some ⟨bb, off, none⟩) l.length c1) (.slice a2 b.length c2) (j + 1) w2) := ⟨hL.out.1.kept hb2 (by omega) (by have := hL.out.2.1; obtain ⟨_, _, _, _, _, h, _⟩ := this; omega), hr2, hL.out.2.2.trans (hb2.mono (by omega))⟩
      clear hr2 hb2 hc HC
      go_wp2
      go_roundw
      case rel => exact ⟨j + 1, by omega, by go_num, F2⟩
      case measure => simp [intOf]; omega
    · have e : j = l.length := by omega
      subst e
      obtain ⟨_, ⟨r, n, hr, _, _, _, hown, hn⟩, hb⟩ := hL.out
      rw [List.take_length] at hown hn
      subst hn
      obtain ⟨av, cv, rfl, _⟩ := own_room hown
      have HOW := Lib.hid hown
      have HB := Lib.hid hb
      clear hown hb
      go_wp2
      go_ret
      exact ⟨_, rfl, own_down HOW.out (by omega), HB.out⟩
end Go.Proofs.Ytmaeoefimkppoaa.Wd
