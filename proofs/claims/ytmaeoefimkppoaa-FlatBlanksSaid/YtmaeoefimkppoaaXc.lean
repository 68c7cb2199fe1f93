/- What New of the chapter tells. -/
import Derived.Test.YtmaeoefimkppoaaXb
namespace Go.Proofs.Ytmaeoefimkppoaa.Fl
set_option maxRecDepth 1000000
open Go.ChangeShapes Go.WideShapes Go.ChangeAt Go.RowKit
open Go.Proofs.Ytmaeoefimkppoaa.Wd

/-- What New of the chapter leaves, and tells. -/
def New10 (N : Nat → Prop) (L : List RO) (c k n : Int) (w : World) (e : Ending) (w' : World) : Prop :=
  ∃ a' l' c' L', e = .returned (.tuple #[.agg #[.slice a' l' c'], .int .i64 (newN (memR L) c k n), .int .i64 (newE c k n)]) ∧ RmV (fun g => N g ∨ w.heap.size ≤ g) w' (.slice a' l' c') L' ∧ memR L' = newF (memR L) c k n ∧ Below w.heap.size w w'
/-- In New: the memory handed in, the result, the object under way. -/
structure NwS (w : World) (v : Value) (c k : Int) (i : Nat) (wr : World) (z u : Value) : Prop where
  b0 : B1 w.heap.size v wr
  b1 : B1 (w.heap.size + 1) (.slice none 0 0) wr
  bx : Box (w.heap.size + 2) (.int .i64 c) (.int .i64 k) z u wr
  r1 : wr.ownsRow (w.heap.size + 3) 3 1 z (blk c k i).w.length ((blk c k i).w.map (Value.int .i64))
  r2 : wr.ownsRow (w.heap.size + 3) 5 1 u (blk c k i).b.length ((blk c k i).b.map (Value.int .u8))
  bl : Below w.heap.size w wr
  sz : w.heap.size + 3 ≤ wr.heap.size
theorem blk_zero (c k : Int) : blk c k 0 = ⟨c, k, [], []⟩ := by unfold blk; simp
theorem blk_w {c k : Int} (h : k = 1) (i : Nat) : (blk c k i).w = List.replicate i 2 ∧ (blk c k i).b = [] := by subst h; exact ⟨rfl, rfl⟩
theorem blk_b {c k : Int} (h : k = 2) (i : Nat) : (blk c k i).w = [] ∧ (blk c k i).b = List.replicate i 0 := by subst h; exact ⟨rfl, rfl⟩
theorem nws_start (w : World) (v : Value) (c k : Int) : NwS w v c k 0 (((w.alloc (.cells #[v] 29)).alloc (.cells #[.slice none 0 0] 29)).alloc (.cells #[.int .i64 c, .int .i64 k, .slice none 0 0, .slice none 0 0] 33)) (.slice none 0 0) (.slice none 0 0) := by
  have s1 : (w.alloc (.cells #[v] 29)).heap.size = w.heap.size + 1 := by simp
  have s2 : ((w.alloc (.cells #[v] 29)).alloc (.cells #[.slice none 0 0] 29)).heap.size = w.heap.size + 2 := by simp
  have x1 := b1_new (w.alloc (.cells #[v] 29)) (.slice none 0 0) 29
  rw [s1] at x1
  have x2 := box_new ((w.alloc (.cells #[v] 29)).alloc (.cells #[.slice none 0 0] 29)) (.int .i64 c) (.int .i64 k) (.slice none 0 0) (.slice none 0 0)
  rw [s2] at x2
  refine ⟨((b1_new w v 29).next (below_new _ _)).next (below_new _ _), x1.next (below_new _ _), x2, ?_, ?_, ((below_new _ _).alloc (by simp) _).alloc (by simp; omega) _, by simp⟩
  · rw [blk_zero]; exact World.ownsRow_nil _ _ _ _
  · rw [blk_zero]; exact World.ownsRow_nil _ _ _ _
section
variable {w wr w' : World} {v : Value} {c k : Int} {i : Nat} {z u : Value}
theorem NwS.next (h : NwS w v c k i wr z u) (b : Below wr.heap.size wr w') : NwS w v c k i w' z u :=
  ⟨h.b0.next b, h.b1.next b, h.bx.next b, own_kept h.r1 b, own_kept h.r2 b, h.bl.trans (b.mono h.bl.size), Nat.le_trans h.sz b.size⟩
theorem NwS.high (h : NwS w v c k i wr z u) (b : Below (w.heap.size + 3) wr w') (hz : w'.ownsRow (w.heap.size + 3) 3 1 z (blk c k i).w.length ((blk c k i).w.map (Value.int .i64))) (hu : w'.ownsRow (w.heap.size + 3) 5 1 u (blk c k i).b.length ((blk c k i).b.map (Value.int .u8))) : NwS w v c k i w' z u :=
  ⟨h.b0.kept b (by omega), h.b1.kept b (by omega), h.bx.kept b (by omega) h.sz, hz, hu, h.bl.trans (b.mono (by omega)), Nat.le_trans h.sz b.size⟩
/-- One word more. -/
theorem NwS.word (h : NwS w v c 1 i wr z u) {o : Obj} {a' : Option Addr} {c' : Nat} {w3 : World} (ho : w3.ownsRow (w.heap.size + 3) 3 1 (.slice a' (i + 1) c') (i + 1) ((List.replicate i (2 : Int)).map (Value.int .i64) ++ [.int .i64 2])) (hg : (wr.alloc o).grownBy w3 z.ownBlock) :
    NwS w v c 1 (i + 1) (w3.setCell ⟨w.heap.size + 2, 2, none⟩ (.slice a' (i + 1) c')) (.slice a' (i + 1) c') u := by
  have hs := h.sz
  have b3 : Below (w.heap.size + 3) wr w3 := ((below_new wr o).mono hs).trans (grown_below hg (fun g hg => (h.r1.lt g hg).1) (by simp; omega))
  have hu3 : w3.ownsRow (w.heap.size + 3) 5 1 u (blk c 1 i).b.length ((blk c 1 i).b.map (Value.int .u8)) := by
    refine own_only (own_kept h.r2 (below_new wr o)) (only_grown hg) fun g hg' e => ?_
    exact own_apart h.r1 h.r2 g e hg'
  have e1 : (List.replicate i (2 : Int)).map (Value.int .i64) ++ [.int .i64 2] = (List.replicate (i + 1) (2 : Int)).map (Value.int .i64) := by rw [List.replicate_succ', List.map_append]; rfl
  rw [e1] at ho
  refine ⟨(h.b0.kept b3 (by omega)).other (by omega) _ _, (h.b1.kept b3 (by omega)).other (by omega) _ _, (h.bx.kept b3 (by omega) hs).put2 _, ?_, ?_, (h.bl.trans (b3.mono (by omega))).setCell (p := ⟨w.heap.size + 2, 2, none⟩) (by show w.heap.size ≤ w.heap.size + 2; omega) _, by have := b3.size; simp [World.setCell]; omega⟩
  · have := own_set (q := w.heap.size + 2) (j := 2) (u := .slice a' (i + 1) c') ho (by omega)
    simpa [blk] using this
  · have := own_set (q := w.heap.size + 2) (j := 2) (u := .slice a' (i + 1) c') hu3 (by omega)
    simpa [blk] using this
/-- One byte more. -/
theorem NwS.byte (h : NwS w v c 2 i wr z u) {o : Obj} {a' : Option Addr} {c' : Nat} {w3 : World} (ho : w3.ownsRow (w.heap.size + 3) 5 1 (.slice a' (i + 1) c') (i + 1) ((List.replicate i (0 : Int)).map (Value.int .u8) ++ [.int .u8 0])) (hg : (wr.alloc o).grownBy w3 u.ownBlock) :
    NwS w v c 2 (i + 1) (w3.setCell ⟨w.heap.size + 2, 3, none⟩ (.slice a' (i + 1) c')) z (.slice a' (i + 1) c') := by
  have hs := h.sz
  have b3 : Below (w.heap.size + 3) wr w3 := ((below_new wr o).mono hs).trans (grown_below hg (fun g hg => (h.r2.lt g hg).1) (by simp; omega))
  have hu3 : w3.ownsRow (w.heap.size + 3) 3 1 z (blk c 2 i).w.length ((blk c 2 i).w.map (Value.int .i64)) := by
    refine own_only (own_kept h.r1 (below_new wr o)) (only_grown hg) fun g hg' e => ?_
    exact own_apart h.r1 h.r2 g hg' e
  have e1 : (List.replicate i (0 : Int)).map (Value.int .u8) ++ [.int .u8 0] = (List.replicate (i + 1) (0 : Int)).map (Value.int .u8) := by rw [List.replicate_succ', List.map_append]; rfl
  rw [e1] at ho
  refine ⟨(h.b0.kept b3 (by omega)).other (by omega) _ _, (h.b1.kept b3 (by omega)).other (by omega) _ _, (h.bx.kept b3 (by omega) hs).put3 _, ?_, ?_, (h.bl.trans (b3.mono (by omega))).setCell (p := ⟨w.heap.size + 2, 3, none⟩) (by show w.heap.size ≤ w.heap.size + 2; omega) _, by have := b3.size; simp [World.setCell]; omega⟩
  · have := own_set (q := w.heap.size + 2) (j := 3) (u := .slice a' (i + 1) c') hu3 (by omega)
    simpa [blk] using this
  · have := own_set (q := w.heap.size + 2) (j := 3) (u := .slice a' (i + 1) c') ho (by omega)
    simpa [blk] using this
end
theorem new_ways (c k n : Int) : (okN c k n = true ∧ namB c = true ∧ (k = 1 ∨ k = 2) ∧ 0 ≤ n ∧ n ≤ 1000) ∨ (okN c k n = false ∧ (namB c = false ∨ (namB c = true ∧ (k < 1 ∨ (1 ≤ k ∧ (2 < k ∨ (k ≤ 2 ∧ (n < 0 ∨ (0 ≤ n ∧ 1000 < n))))))))) := by
  cases h : okN c k n with
  | true =>
    left
    simp only [okN, Bool.and_eq_true, decide_eq_true_eq] at h
    exact ⟨rfl, h.1.1, h.1.2, h.2.1, h.2.2⟩
  | false =>
    right
    refine ⟨rfl, ?_⟩
    cases hb : namB c with
    | false => exact .inl rfl
    | true =>
      right
      refine ⟨rfl, ?_⟩
      have hn : ¬ ((k = 1 ∨ k = 2) ∧ 0 ≤ n ∧ n ≤ 1000) := by
        rintro ⟨h1, h2⟩
        simp only [okN, hb, Bool.true_and] at h
        rw [decide_eq_true h1, decide_eq_true h2] at h
        cases h
      omega
theorem two_rest (w : World) (v u : Value) : B1 w.heap.size v ((w.alloc (.cells #[v] 29)).alloc (.cells #[u] 29)) ∧ B1 (w.heap.size + 1) u ((w.alloc (.cells #[v] 29)).alloc (.cells #[u] 29)) ∧ Below w.heap.size w ((w.alloc (.cells #[v] 29)).alloc (.cells #[u] 29)) := by
  have x1 := b1_new (w.alloc (.cells #[v] 29)) u 29
  rw [show (w.alloc (.cells #[v] 29)).heap.size = w.heap.size + 1 by simp] at x1
  exact ⟨(b1_new w v 29).next (below_new _ _), x1, (below_new _ _).alloc (by simp) _⟩
set_option maxHeartbeats 2000000 in
theorem new10_no {N : Nat → Prop} {w : World} {v : Value} {L : List RO} (h : RmV N w v L) (c k n : Int) (hc : In64 c) (hN : okN c k n = false) (hw : namB c = false ∨ (namB c = true ∧ (k < 1 ∨ (1 ≤ k ∧ (2 < k ∨ (k ≤ 2 ∧ (n < 0 ∨ (0 ≤ n ∧ 1000 < n)))))))) :
    Calls Try.prog 31 #[.agg #[v], .int .i64 c, .int .i64 k, .int .i64 n] w (New10 N L c k n w) := by
  have HM := Lib.hid (fun w => named_ref c w hc.1 hc.2)
  have HV := Lib.hid h
  obtain ⟨a, cc, rfl⟩ := h.form
  obtain ⟨x0, x1, _⟩ := two_rest w (.slice a L.length cc) (.slice none 0 0)
  have GO := Lib.hid (two_rest w (.slice a L.length cc) (.slice a L.length cc)).2
  have HF : Hid (∀ e w', e = .returned (.tuple #[.agg #[.slice a L.length cc], .int .i64 0, .int .i64 2]) → Below w.heap.size w w' → New10 N L c k n w e w') := Lib.hid fun e w' he hb => by
    subst he
    refine ⟨_, _, _, L, ?_, (HV.out.fresh hb).mono fun g hg => .inl hg, ?_, hb⟩
    · unfold newN newE; simp [hN]
    · unfold newF; simp [hN]
  obtain ⟨c0, f0, l0⟩ := x0
  obtain ⟨c1, f1, l1⟩ := x1
  generalize hQ : New10 N L c k n w = Q at *
  clear hQ h hN
  rcases hw with hb | ⟨hb, hk⟩
  · rw [hb] at HM
    generalize namV c = z at *
    clear hb
    go_enter Try.func31, Try.ntmps31
    go_wp2_with (go_at_call 52; refine (HM.out _).mono ?_; rintro e w1 ⟨rfl, rfl⟩)
    refine bodyPost_ret (res_m3 rfl rfl GO.out.1) rfl (HF.out _ _ rfl GO.out.2)
  · rw [hb] at HM
    generalize namV c = z at *
    clear hb
    rcases hk with hk | ⟨hk, hk2 | ⟨hk2, hn | ⟨hn, hn2⟩⟩⟩
    all_goals
      go_enter Try.func31, Try.ntmps31
      go_wp2_with (go_at_call 52; refine (HM.out _).mono ?_; rintro e w1 ⟨rfl, rfl⟩)
      refine bodyPost_ret (res_m3 rfl rfl GO.out.1) rfl (HF.out _ _ rfl GO.out.2)
theorem memR_push (L : List RO) {p : RO} (h : p.1.k ≠ 0) : memR (L ++ [p]) = memR L ++ [some p.1] := by
  rw [memR_app]
  simp [memR, h]
end Go.Proofs.Ytmaeoefimkppoaa.Fl
