/- Texts one behind the other: Xb Xc Xk. -/
import Derived.Test.YtmaeoefimkppoaaMb
import Derived.Maps.AppendAt

/- The chapter's memory in variables; objects appended to rows of one's own. -/
namespace Go.Proofs.Ytmaeoefimkppoaa.Fl
set_option maxRecDepth 1000000
open Go.ChangeShapes Go.WideShapes Go.ChangeAt Go.RowKit
open Go.Proofs.Ytmaeoefimkppoaa.Wd

/-- A variable of one cell. -/
def B1 (p : Nat) (v : Value) (w : World) : Prop := w.cell? ⟨p, 0, none⟩ = some v ∧ w.frozen? ⟨p, 0, none⟩ = false ∧ p < w.heap.size
section
variable {w w' : World} {p : Nat} {v v' : Value} {F : Nat → Prop}
theorem B1.only (h : B1 p v w) (o : Only F w w') (hF : ¬ F p) : B1 p v w' :=
  ⟨(Only.cell o (p := ⟨p, 0, none⟩) h.2.2 hF).trans h.1, (Only.frozen o (p := ⟨p, 0, none⟩) h.2.2 hF).trans h.2.1, Nat.lt_of_lt_of_le h.2.2 o.size⟩
theorem B1.next (h : B1 p v w) (b : Below w.heap.size w w') : B1 p v w' := h.only (only_below b) id
theorem B1.kept {B : Nat} (h : B1 p v w) (b : Below B w w') (hp : p < B) : B1 p v w' :=
  ⟨(b.cell (p := ⟨p, 0, none⟩) hp).trans h.1, (by have := b.frozen (p := ⟨p, 0, none⟩) hp; rw [this]; exact h.2.1), Nat.lt_of_lt_of_le h.2.2 b.size⟩
theorem b1_new (w : World) (v : Value) (t : TypeId) : B1 w.heap.size v (w.alloc (.cells #[v] t)) := by
  refine ⟨?_, ?_, by simp⟩
  · rw [World.cell?_alloc_at _ _ _ _ rfl]; rfl
  · unfold World.frozen?
    rw [heap_alloc_new]
    simp
theorem B1.put (h : B1 p v w) (v' : Value) : B1 p v' (w.setCell ⟨p, 0, none⟩ v') :=
  ⟨World.cell?_setCell_same _ _ _ h.1, by rw [World.frozen?_setCell]; exact h.2.1, by simpa [World.setCell] using h.2.2⟩
theorem B1.other {g : Nat} (h : B1 p v w) (hg : p ≠ g) (j : Nat) (u : Value) : B1 p v (w.setCell ⟨g, j, none⟩ u) :=
  h.only ((Only.refl (· = g) w).setCell ⟨g, j, none⟩ rfl u) hg
theorem load_b1 {a : Option Addr} {l c : Nat} (hb : B1 p (.slice a l c) w) : (loadVar 29 ⟨p, 0, none⟩).run Try.prog w = .ok (.agg #[.slice a l c]) w := by
  obtain ⟨h1, _, _⟩ := hb
  go_simp
theorem res_m3 {fn : Func} {q u t : Tmp} (h : fn.results = #[.cell q 29, .tmp u, .tmp t]) {tmps : Array Value} {a : Option Addr} {l c : Nat} (hp : tmps.getD q undef = .pointer (some ⟨p, 0, none⟩)) (hb : B1 p (.slice a l c) w) :
    (results fn tmps).run Try.prog w = .ok (.tuple #[.agg #[.slice a l c], tmps.getD u undef, tmps.getD t undef]) w := by
  simp only [results, h]
  rw [Array.getD_eq_getD_getElem?] at hp
  simp [hp, asAddr, load_b1 hb]
theorem res_m1 {fn : Func} {q : Tmp} (h : fn.results = #[.cell q 29]) {tmps : Array Value} {a : Option Addr} {l c : Nat} (hp : tmps.getD q undef = .pointer (some ⟨p, 0, none⟩)) (hb : B1 p (.slice a l c) w) :
    (results fn tmps).run Try.prog w = .ok (.agg #[.slice a l c]) w := by
  simp only [results, h]
  rw [Array.getD_eq_getD_getElem?] at hp
  simp [hp, asAddr, load_b1 hb]
end
theorem frozen_new (w : World) (cs : Array Value) (t : TypeId) (j : Nat) : (w.alloc (.cells cs t)).frozen? ⟨w.heap.size, j, none⟩ = false := by
  unfold World.frozen?
  rw [heap_alloc_new]
  simp

/-- Objects in memory of one's own, from B on; what they hold lies in blocks of the kind N. -/
structure RnK (w : World) (B : Nat) (N : Nat → Prop) (v : Value) (L : List RO) : Prop where
  own : w.ownsRow B 33 4 v L.length (flat4 L)
  each : ∀ p ∈ L, RIn N w p
section
variable {w w' : World} {B : Nat} {N M : Nat → Prop} {v : Value} {L : List RO}
theorem rnk_nil (w : World) (B : Nat) (N : Nat → Prop) : RnK w B N (.slice none 0 0) [] := ⟨World.ownsRow_nil _ _ _ _, fun p hp => by cases hp⟩
theorem RnK.rm (h : RnK w B N v L) : RmV (fun b => N b ∨ B ≤ b) w v L := by
  have hb : ∀ p ∈ L, RIn (fun b => N b ∨ B ≤ b) w p := fun p hp => (h.each p hp).kind (fun _ _ h => .inl h)
  rcases h.own.2 with ⟨rfl, h0⟩ | ⟨g, cap, cur, rfl, hg, hh, hn, _⟩
  · have : L = [] := List.eq_nil_of_length_eq_zero h0
    subst this
    exact ⟨none, 0, rfl, Nat.le_refl _, hb, .inl rfl⟩
  · refine ⟨_, cap, rfl, hn, hb, .inr ⟨g, 0, rfl, .inr hg, fun j u hu => ?_⟩⟩
    have := World.ownsRow.cells h.own (g := g) rfl j u hu
    rwa [add_plain] at this
theorem RnK.fresh (h : RnK w B N v L) (b : Below w.heap.size w w') : RnK w' B N v L := ⟨own_only4 h.own (only_below b) fun _ _ h => h, fun p hp => (h.each p hp).fresh b⟩
theorem RnK.mono (h : RnK w B N v L) (hM : ∀ b, N b → M b) : RnK w B M v L := ⟨h.own, fun p hp => (h.each p hp).kind fun b _ hb => hM b hb⟩
theorem RnK.form (h : RnK w B N v L) : ∃ a c, v = .slice a L.length c := h.rm.form
theorem flat4_one (h : ∀ p ∈ L, RIn N w p) : ∀ u ∈ flat4 L, u.oneCell' = true := by
  intro u hu
  simp only [flat4, List.mem_flatMap] at hu
  obtain ⟨p, hp, hu⟩ := hu
  exact (h p hp).one u hu
theorem only_grown {row : Option Nat} (h : w.grownBy w' row) : Only (fun b => row = some b) w w' :=
  ⟨h.os, h.tape, h.output, h.size, fun k hk hn => h.block k hk fun e => hn e.symm⟩
/-- 'append(l, more...)' where l is one's own. -/
theorem append_rows (w : World) (v u : Value) (L M' : List RO) (h : RnK w B N v L) (hN : ∀ b, N b → v.ownBlock ≠ some b) (hu : RmV M w u M') (hM : ∀ b, M b → v.ownBlock ≠ some b ∧ N b) (hl : L.length + M'.length ≤ 2000000) (hB : B ≤ w.heap.size) (ty : TypeId) :
    ∃ v1 w1, (Builtin.append_ #[27, 27] ty #[v, u]).run Try.prog w = .ok v1 w1 ∧ RnK w1 B N v1 (L ++ M') ∧ w.grownBy w1 v.ownBlock ∧ (v1.ownBlock = v.ownBlock ∨ v1.ownBlock = some w.heap.size) := by
  obtain ⟨i0, hi, hz0, hz1, hz2⟩ := info_parts Try.info33
  obtain ⟨a, c, rfl, hc, hb, hcell⟩ := hu
  rcases a with _ | ad
  · have h0 : M' = [] := by
      rcases hcell with h | ⟨b, off, ha, _⟩
      · exact h
      · cases ha
    subst h0
    refine ⟨v, w, ?_, by rw [List.append_nil]; exact h, ⟨rfl, rfl, rfl, Nat.le_refl _, fun _ _ _ => rfl⟩, .inl rfl⟩
    rcases h.own.2 with ⟨rfl, h0⟩ | ⟨g, cap, cur, rfl, hb2, hg, hn, _⟩
    · simp [Builtin.append_, run_underlying Try.underlying27, sizeOf, typeInfo, hi, Builtin.lenOf, Builtin.firstCells]
    · have := run_append_room_src (P := Try.prog) (w := w) 27 27 ty 33 i0 Try.underlying27 hi g 0 L.length cap (.slice none 0 c) 0 [] (Src.ofNil _ Try.underlying27 c) (by omega) (by simp) (by simp)
      simpa [World.setCells] using this
  · obtain ⟨v1, w1, h1, h2, h3, _, h5⟩ := run_append_own_at (P := Try.prog) w B 27 ty 33 i0 _ 4 64 Try.underlying27 hi hz0 hz1 hz2 rfl (by decide) v L.length (flat4 L) h.own ad M'.length c (flat4 M') (flat4_len M') (fun j u hu => by
      rcases hcell with h | ⟨b, off, ha, _, h⟩
      · rw [h] at hu; simp [flat4] at hu
      · cases ha
        rw [add_plain]
        exact h j u hu) (flat4_one hb) (by unfold maxLen; omega) (by omega) hB
    have ho := only_grown h3
    refine ⟨v1, w1, h1, ⟨?_, fun p hp => ?_⟩, h3, h5⟩
    · rw [flat4_append, List.length_append]; exact h2
    · rcases List.mem_append.1 hp with hp | hp
      · exact (h.each p hp).only ho hN
      · exact ((hb p hp).only ho fun b hb => (hM b hb).1).kind fun b _ hb => (hM b hb).2
/-- 'append(l, object)'. -/
theorem append_row (w : World) (v : Value) (L : List RO) (h : RnK w B N v L) (hN : ∀ b, N b → v.ownBlock ≠ some b) (p : RO) (hp : RIn N w p) (g : Nat) (hg : ∀ j u, (cells4 p)[j]? = some u → w.cell? ⟨g, j, none⟩ = some u) (hl : L.length ≤ 2000000) (hB : B ≤ w.heap.size) (ty : TypeId) :
    ∃ v1 w1, (Builtin.append_ #[27, 27] ty #[v, .slice (some ⟨g, 0, none⟩) 1 1]).run Try.prog w = .ok v1 w1 ∧ RnK w1 B N v1 (L ++ [p]) ∧ w.grownBy w1 v.ownBlock ∧ (v1.ownBlock = v.ownBlock ∨ v1.ownBlock = some w.heap.size) := by
  obtain ⟨i0, hi, hz0, hz1, hz2⟩ := info_parts Try.info33
  obtain ⟨v1, w1, h1, h2, h3, _, h5⟩ := run_append_own_at (P := Try.prog) w B 27 ty 33 i0 _ 4 64 Try.underlying27 hi hz0 hz1 hz2 rfl (by decide) v L.length (flat4 L) h.own ⟨g, 0, none⟩ 1 1 (cells4 p) rfl (fun j u hu => by
      rw [add_plain, Nat.zero_add]
      exact hg j u hu) hp.one (by unfold maxLen; omega) (by omega) hB
  have ho := only_grown h3
  refine ⟨v1, w1, h1, ⟨?_, fun r hr => ?_⟩, h3, h5⟩
  · rw [flat4_append, List.length_append]
    have e : flat4 [p] = cells4 p := by simp [flat4]
    rw [e]; exact h2
  · rcases List.mem_append.1 hr with hr | hr
    · exact (h.each r hr).only ho hN
    · rw [List.mem_singleton.1 hr]; exact hp.only ho hN
end
def put4L (xs : List Value) (p : Nat) (r : RO) : List Value := (((xs.set p (.int .i64 r.1.c)).set (p + 1) (.int .i64 r.1.k)).set (p + 2) r.2.1).set (p + 3) r.2.2
theorem flat4_set (r : RO) : ∀ (L : List RO) (j : Nat), j < L.length → put4L (flat4 L) (j * 4) r = flat4 (L.set j r)
  | [], j, hj => by simp at hj
  | x :: L, 0, hj => by
    rw [List.set_cons_zero, flat4_cons, flat4_cons]
    simp [put4L, cells4]
  | x :: L, j + 1, hj => by
    have ih := flat4_set r L j (by simpa using hj)
    rw [List.set_cons_succ, flat4_cons, flat4_cons, ← ih]
    have hl : (cells4 x).length = 4 := rfl
    have key : ∀ (xs : List Value) (q : Nat) (u : Value), (cells4 x ++ xs).set ((j + 1) * 4 + q) u = cells4 x ++ xs.set (j * 4 + q) u := fun xs q u => by
      rw [List.set_append_right _ _ (by omega)]
      congr 2
      omega
    have key0 : ∀ (xs : List Value) (u : Value), (cells4 x ++ xs).set ((j + 1) * 4) u = cells4 x ++ xs.set (j * 4) u := fun xs u => key xs 0 u
    simp only [put4L, key, key0]
/-- The world behind a store of an object. -/
def put4W (w : World) (g p : Nat) (r : RO) : World := (((w.setCell ⟨g, p, none⟩ (.int .i64 r.1.c)).setCell ⟨g, p + 1, none⟩ (.int .i64 r.1.k)).setCell ⟨g, p + 2, none⟩ r.2.1).setCell ⟨g, p + 3, none⟩ r.2.2
theorem put4_only {F : Nat → Prop} {a w : World} {g p : Nat} {r : RO} (h : Only F a w) (hp : F g) : Only F a (put4W w g p r) :=
  (((h.setCell ⟨g, p, none⟩ hp _).setCell ⟨g, p + 1, none⟩ hp _).setCell ⟨g, p + 2, none⟩ hp _).setCell ⟨g, p + 3, none⟩ hp _
theorem RnK.put {w : World} {B g cap : Nat} {N : Nat → Prop} {L : List RO} (h : RnK w B N (.slice (some ⟨g, 0, none⟩) L.length cap) L) (hN : ∀ b, N b → b ≠ g) {j : Nat} (hj : j < L.length) (r : RO) (hr : RIn N w r) :
    RnK (put4W w g (j * 4) r) B N (.slice (some ⟨g, 0, none⟩) L.length cap) (L.set j r) := by
  have h1 := (h.own.stored (j * 4) (.int .i64 r.1.c)).1
  have h2 := (h1.stored (j * 4 + 1) (.int .i64 r.1.k)).1
  have h3 := (h2.stored (j * 4 + 2) r.2.1).1
  have h4 := (h3.stored (j * 4 + 3) r.2.2).1
  have on : Only (· = g) w (put4W w g (j * 4) r) := put4_only (Only.refl _ _) rfl
  refine ⟨?_, fun p hp => ?_⟩
  · have e := flat4_set r L j hj
    rw [← e, List.length_set]
    exact h4
  · rcases List.mem_or_eq_of_mem_set hp with hp | hp
    · exact (h.each p hp).only on hN
    · rw [hp]; exact hr.only on hN
end Go.Proofs.Ytmaeoefimkppoaa.Fl

/- What New of the chapter tells. -/
namespace Go.Proofs.Ytmaeoefimkppoaa.Fl
set_option maxRecDepth 1000000
open Go.ChangeShapes Go.WideShapes Go.ChangeAt Go.RowKit
open Go.Proofs.Ytmaeoefimkppoaa.Wd

/-- What New of the chapter leaves, and tells. -/
def New10 (N : Nat → Prop) (L : List RO) (c k n : Int) (w : World) (e : Ending) (w' : World) : Prop :=
  ∃ a' l' c' L', e = .returned (.tuple #[.agg #[.slice a' l' c'], .int .i64 (newN (memR L) c k n), .int .i64 (newE c k n)]) ∧ RmV (fun g => N g ∨ w.heap.size ≤ g) w' (.slice a' l' c') L' ∧ memR L' = newF (memR L) c k n ∧ Below w.heap.size w w'
/-- In New: the memory handed in, the result, the object under way. -/
structure NwS (w : World) (v : Value) (c k : Int) (i : Nat) (wr : World) (z u : Value) : Prop where
  b0 : B1 w.heap.size v wr
  b1 : B1 (w.heap.size + 1) (.slice none 0 0) wr
  bx : Box (w.heap.size + 2) (.int .i64 c) (.int .i64 k) z u wr
  r1 : wr.ownsRow (w.heap.size + 3) 3 1 z (blk c k i).w.length ((blk c k i).w.map (Value.int .i64))
  r2 : wr.ownsRow (w.heap.size + 3) 5 1 u (blk c k i).b.length ((blk c k i).b.map (Value.int .u8))
  bl : Below w.heap.size w wr
  sz : w.heap.size + 3 ≤ wr.heap.size
theorem blk_zero (c k : Int) : blk c k 0 = ⟨c, k, [], []⟩ := by unfold blk; simp
theorem blk_w {c k : Int} (h : k = 1) (i : Nat) : (blk c k i).w = List.replicate i 2 ∧ (blk c k i).b = [] := by subst h; exact ⟨rfl, rfl⟩
theorem blk_b {c k : Int} (h : k = 2) (i : Nat) : (blk c k i).w = [] ∧ (blk c k i).b = List.replicate i 0 := by subst h; exact ⟨rfl, rfl⟩
theorem nws_start (w : World) (v : Value) (c k : Int) : NwS w v c k 0 (((w.alloc (.cells #[v] 29)).alloc (.cells #[.slice none 0 0] 29)).alloc (.cells #[.int .i64 c, .int .i64 k, .slice none 0 0, .slice none 0 0] 33)) (.slice none 0 0) (.slice none 0 0) := by
  have s1 : (w.alloc (.cells #[v] 29)).heap.size = w.heap.size + 1 := by simp
  have s2 : ((w.alloc (.cells #[v] 29)).alloc (.cells #[.slice none 0 0] 29)).heap.size = w.heap.size + 2 := by simp
  have x1 := b1_new (w.alloc (.cells #[v] 29)) (.slice none 0 0) 29
  rw [s1] at x1
  have x2 := box_new ((w.alloc (.cells #[v] 29)).alloc (.cells #[.slice none 0 0] 29)) (.int .i64 c) (.int .i64 k) (.slice none 0 0) (.slice none 0 0)
  rw [s2] at x2
  refine ⟨((b1_new w v 29).next (below_new _ _)).next (below_new _ _), x1.next (below_new _ _), x2, ?_, ?_, ((below_new _ _).alloc (by simp) _).alloc (by simp; omega) _, by simp⟩
  · rw [blk_zero]; exact World.ownsRow_nil _ _ _ _
  · rw [blk_zero]; exact World.ownsRow_nil _ _ _ _
section
variable {w wr w' : World} {v : Value} {c k : Int} {i : Nat} {z u : Value}
theorem NwS.next (h : NwS w v c k i wr z u) (b : Below wr.heap.size wr w') : NwS w v c k i w' z u :=
  ⟨h.b0.next b, h.b1.next b, h.bx.next b, own_kept h.r1 b, own_kept h.r2 b, h.bl.trans (b.mono h.bl.size), Nat.le_trans h.sz b.size⟩
theorem NwS.high (h : NwS w v c k i wr z u) (b : Below (w.heap.size + 3) wr w') (hz : w'.ownsRow (w.heap.size + 3) 3 1 z (blk c k i).w.length ((blk c k i).w.map (Value.int .i64))) (hu : w'.ownsRow (w.heap.size + 3) 5 1 u (blk c k i).b.length ((blk c k i).b.map (Value.int .u8))) : NwS w v c k i w' z u :=
  ⟨h.b0.kept b (by omega), h.b1.kept b (by omega), h.bx.kept b (by omega) h.sz, hz, hu, h.bl.trans (b.mono (by omega)), Nat.le_trans h.sz b.size⟩
/-- One word more. -/
theorem NwS.word (h : NwS w v c 1 i wr z u) {o : Obj} {a' : Option Addr} {c' : Nat} {w3 : World} (ho : w3.ownsRow (w.heap.size + 3) 3 1 (.slice a' (i + 1) c') (i + 1) ((List.replicate i (2 : Int)).map (Value.int .i64) ++ [.int .i64 2])) (hg : (wr.alloc o).grownBy w3 z.ownBlock) :
    NwS w v c 1 (i + 1) (w3.setCell ⟨w.heap.size + 2, 2, none⟩ (.slice a' (i + 1) c')) (.slice a' (i + 1) c') u := by
  have hs := h.sz
  have b3 : Below (w.heap.size + 3) wr w3 := ((below_new wr o).mono hs).trans (grown_below hg (fun g hg => (h.r1.lt g hg).1) (by simp; omega))
  have hu3 : w3.ownsRow (w.heap.size + 3) 5 1 u (blk c 1 i).b.length ((blk c 1 i).b.map (Value.int .u8)) := by
    refine own_only (own_kept h.r2 (below_new wr o)) (only_grown hg) fun g hg' e => ?_
    exact own_apart h.r1 h.r2 g e hg'
  have e1 : (List.replicate i (2 : Int)).map (Value.int .i64) ++ [.int .i64 2] = (List.replicate (i + 1) (2 : Int)).map (Value.int .i64) := by rw [List.replicate_succ', List.map_append]; rfl
  rw [e1] at ho
  refine ⟨(h.b0.kept b3 (by omega)).other (by omega) _ _, (h.b1.kept b3 (by omega)).other (by omega) _ _, (h.bx.kept b3 (by omega) hs).put2 _, ?_, ?_, (h.bl.trans (b3.mono (by omega))).setCell (p := ⟨w.heap.size + 2, 2, none⟩) (by show w.heap.size ≤ w.heap.size + 2; omega) _, by have := b3.size; simp [World.setCell]; omega⟩
  · have := own_set (q := w.heap.size + 2) (j := 2) (u := .slice a' (i + 1) c') ho (by omega)
    simpa [blk] using this
  · have := own_set (q := w.heap.size + 2) (j := 2) (u := .slice a' (i + 1) c') hu3 (by omega)
    simpa [blk] using this
/-- One byte more. -/
theorem NwS.byte (h : NwS w v c 2 i wr z u) {o : Obj} {a' : Option Addr} {c' : Nat} {w3 : World} (ho : w3.ownsRow (w.heap.size + 3) 5 1 (.slice a' (i + 1) c') (i + 1) ((List.replicate i (0 : Int)).map (Value.int .u8) ++ [.int .u8 0])) (hg : (wr.alloc o).grownBy w3 u.ownBlock) :
    NwS w v c 2 (i + 1) (w3.setCell ⟨w.heap.size + 2, 3, none⟩ (.slice a' (i + 1) c')) z (.slice a' (i + 1) c') := by
  have hs := h.sz
  have b3 : Below (w.heap.size + 3) wr w3 := ((below_new wr o).mono hs).trans (grown_below hg (fun g hg => (h.r2.lt g hg).1) (by simp; omega))
  have hu3 : w3.ownsRow (w.heap.size + 3) 3 1 z (blk c 2 i).w.length ((blk c 2 i).w.map (Value.int .i64)) := by
    refine own_only (own_kept h.r1 (below_new wr o)) (only_grown hg) fun g hg' e => ?_
    exact own_apart h.r1 h.r2 g hg' e
  have e1 : (List.replicate i (0 : Int)).map (Value.int .u8) ++ [.int .u8 0] = (List.replicate (i + 1) (0 : Int)).map (Value.int .u8) := by rw [List.replicate_succ', List.map_append]; rfl
  rw [e1] at ho
  refine ⟨(h.b0.kept b3 (by omega)).other (by omega) _ _, (h.b1.kept b3 (by omega)).other (by omega) _ _, (h.bx.kept b3 (by omega) hs).put3 _, ?_, ?_, (h.bl.trans (b3.mono (by omega))).setCell (p := ⟨w.heap.size + 2, 3, none⟩) (by show w.heap.size ≤ w.heap.size + 2; omega) _, by have := b3.size; simp [World.setCell]; omega⟩
  · have := own_set (q := w.heap.size + 2) (j := 3) (u := .slice a' (i + 1) c') hu3 (by omega)
    simpa [blk] using this
  · have := own_set (q := w.heap.size + 2) (j := 3) (u := .slice a' (i + 1) c') ho (by omega)
    simpa [blk] using this
end
theorem new_ways (c k n : Int) : (okN c k n = true ∧ namB c = true ∧ (k = 1 ∨ k = 2) ∧ 0 ≤ n ∧ n ≤ 1000) ∨ (okN c k n = false ∧ (namB c = false ∨ (namB c = true ∧ (k < 1 ∨ (1 ≤ k ∧ (2 < k ∨ (k ≤ 2 ∧ (n < 0 ∨ (0 ≤ n ∧ 1000 < n))))))))) := by
  cases h : okN c k n with
  | true =>
    left
    simp only [okN, Bool.and_eq_true, decide_eq_true_eq] at h
    exact ⟨rfl, h.1.1, h.1.2, h.2.1, h.2.2⟩
  | false =>
    right
    refine ⟨rfl, ?_⟩
    cases hb : namB c with
    | false => exact .inl rfl
    | true =>
      right
      refine ⟨rfl, ?_⟩
      have hn : ¬ ((k = 1 ∨ k = 2) ∧ 0 ≤ n ∧ n ≤ 1000) := by
        rintro ⟨h1, h2⟩
        simp only [okN, hb, Bool.true_and] at h
        rw [decide_eq_true h1, decide_eq_true h2] at h
        cases h
      omega
theorem two_rest (w : World) (v u : Value) : B1 w.heap.size v ((w.alloc (.cells #[v] 29)).alloc (.cells #[u] 29)) ∧ B1 (w.heap.size + 1) u ((w.alloc (.cells #[v] 29)).alloc (.cells #[u] 29)) ∧ Below w.heap.size w ((w.alloc (.cells #[v] 29)).alloc (.cells #[u] 29)) := by
  have x1 := b1_new (w.alloc (.cells #[v] 29)) u 29
  rw [show (w.alloc (.cells #[v] 29)).heap.size = w.heap.size + 1 by simp] at x1
  exact ⟨(b1_new w v 29).next (below_new _ _), x1, (below_new _ _).alloc (by simp) _⟩
set_option maxHeartbeats 2000000 in
theorem new10_no {N : Nat → Prop} {w : World} {v : Value} {L : List RO} (h : RmV N w v L) (c k n : Int) (hc : In64 c) (hN : okN c k n = false) (hw : namB c = false ∨ (namB c = true ∧ (k < 1 ∨ (1 ≤ k ∧ (2 < k ∨ (k ≤ 2 ∧ (n < 0 ∨ (0 ≤ n ∧ 1000 < n)))))))) :
    Calls Try.prog 31 #[.agg #[v], .int .i64 c, .int .i64 k, .int .i64 n] w (New10 N L c k n w) := by
  have HM := Lib.hid (fun w => named_ref c w hc.1 hc.2)
  have HV := Lib.hid h
  obtain ⟨a, cc, rfl⟩ := h.form
  obtain ⟨x0, x1, _⟩ := two_rest w (.slice a L.length cc) (.slice none 0 0)
  have GO := Lib.hid (two_rest w (.slice a L.length cc) (.slice a L.length cc)).2
  have HF : Hid (∀ e w', e = .returned (.tuple #[.agg #[.slice a L.length cc], .int .i64 0, .int .i64 2]) → Below w.heap.size w w' → New10 N L c k n w e w') := Lib.hid fun e w' he hb => by
    subst he
    refine ⟨_, _, _, L, ?_, (HV.out.fresh hb).mono fun g hg => .inl hg, ?_, hb⟩
    · unfold newN newE; simp [hN]
    · unfold newF; simp [hN]
  obtain ⟨c0, f0, l0⟩ := x0
  obtain ⟨c1, f1, l1⟩ := x1
  generalize hQ : New10 N L c k n w = Q at *
  clear hQ h hN
  rcases hw with hb | ⟨hb, hk⟩
  · rw [hb] at HM
    generalize namV c = z at *
    clear hb
    go_enter Try.func31, Try.ntmps31
    go_wp2_with (go_at_call 52; refine (HM.out _).mono ?_; rintro e w1 ⟨rfl, rfl⟩)
    refine bodyPost_ret (res_m3 rfl rfl GO.out.1) rfl (HF.out _ _ rfl GO.out.2)
  · rw [hb] at HM
    generalize namV c = z at *
    clear hb
    rcases hk with hk | ⟨hk, hk2 | ⟨hk2, hn | ⟨hn, hn2⟩⟩⟩
    all_goals
      go_enter Try.func31, Try.ntmps31
      go_wp2_with (go_at_call 52; refine (HM.out _).mono ?_; rintro e w1 ⟨rfl, rfl⟩)
      refine bodyPost_ret (res_m3 rfl rfl GO.out.1) rfl (HF.out _ _ rfl GO.out.2)
theorem memR_push (L : List RO) {p : RO} (h : p.1.k ≠ 0) : memR (L ++ [p]) = memR L ++ [some p.1] := by
  rw [memR_app]
  simp [memR, h]
end Go.Proofs.Ytmaeoefimkppoaa.Fl

/- What New of the chapter tells where it makes something. -/
namespace Go.Proofs.Ytmaeoefimkppoaa.Fl
set_option maxRecDepth 1000000
open Go.ChangeShapes Go.WideShapes Go.ChangeAt Go.RowKit
open Go.Proofs.Ytmaeoefimkppoaa.Wd

set_option maxHeartbeats 4000000 in
theorem new10_yes {N : Nat → Prop} {w : World} {v : Value} {L : List RO} (h : RmV N w v L) (hl : L.length ≤ 1000000) (c k : Int) (n : Nat) (hc : In64 c) (hN : okN c k n = true) (hb : namB c = true) (hk : k = 1 ∨ k = 2) (hn : n ≤ 1000) :
    Calls Try.prog 31 #[.agg #[v], .int .i64 c, .int .i64 k, .int .i64 n] w (New10 N L c k n w) := by
  have HM := Lib.hid (fun w => named_ref c w hc.1 hc.2)
  rw [hb] at HM
  have HV := Lib.hid h
  have HL := Lib.hid hl
  have HKK := Lib.hid hk
  obtain ⟨a, cc, rfl⟩ := h.form
  have S0 := Lib.hid (nws_start w (.slice a L.length cc) c k)
  have HF : Hid (∀ (e : Ending) (w' : World) (a' : Option Addr) (c' : Nat) (L' : List RO), e = .returned (.tuple #[.agg #[.slice a' (L.length + 1) c'], .int .i64 (2 * ((L.length : Int) + 1)), .int .i64 0]) → RmV (fun g => N g ∨ w.heap.size ≤ g) w' (.slice a' (L.length + 1) c') L' → memR L' = memR L ++ [some (blk c k n)] → Below w.heap.size w w' → New10 N L c k n w e w') := Lib.hid fun e w' a' c' L' he h1 h2 h3 => by
    subst he
    refine ⟨_, _, _, L', ?_, h1, ?_, h3⟩
    · unfold newN newE; simp [hN, memR_len]
    · unfold newF; simp [hN, h2]
  have HOK : Hid (okO (blk c k n) = true ∧ ByL (blk c k n).b ∧ (blk c k n).k ≠ 0) := Lib.hid ⟨by rw [okO_blk hn]; exact hN, blk_byL _ _ _, by show k ≠ 0; omega⟩
  obtain ⟨c0, f0, l0⟩ := S0.out.b0
  obtain ⟨c1, f1, l1⟩ := S0.out.b1
  generalize hQ : New10 N L c k n w = Q at *
  generalize namV c = zc at *
  have dk1 : decide (k < 1) = false := by simp; omega
  have dk2 : decide (2 < k) = false := by simp; omega
  have dn0 : decide ((n : Int) < 0) = false := by simp
  have dn1 : decide ((1000 : Int) < n) = false := by simp; omega
  have dn2 : decide (1000 < n) = false := by simp; omega
  clear hQ h hN hb hk
  go_enter Try.func31, Try.ntmps31
  go_wp2_with (go_at_call 52; refine (HM.out _).mono ?_; rintro e w1 ⟨rfl, rfl⟩)
  clear dk1 dk2 dn0 dn1 dn2 c0 f0 l0 c1 f1 l1
  generalize ((w.alloc (.cells #[.slice a L.length cc] 29)).alloc (.cells #[.slice none 0 0] 29)).alloc (.cells #[.int .i64 c, .int .i64 k, .slice none 0 0, .slice none 0 0] 33) = w3 at *
  go_loopw [14] (fun s wr => ∃ i : Nat, i ≤ n ∧ s = .int .i64 i ∧ ∃ z u, NwS w (.slice a L.length cc) c k i wr z u) (fun s _ => n - (RowKit.intOf s).toNat)
  case atStart => exact ⟨0, Nat.zero_le _, rfl, _, _, S0.out⟩
  case round =>
    obtain ⟨i, hi, rfl, z, u, hs⟩ := hrel
    have S := Lib.hid hs
    clear hs
    by_cases hlt : i < n
    · have d1 : decide ((i : Int) < n) = true := by simpa using hlt
      have d2 : decide (i < n) = true := by simpa using hlt
      have hw2 : IntKind.i64.wrap ((i : Int) + 1) = (i : Int) + 1 := by rw [IntKind.wrap_i64]; omega
      have hsz := S.out.sz
      rcases HKK.out with rfl | rfl
      · have hown := S.out.r1
        rw [(blk_w rfl i).1, List.length_replicate] at hown
        obtain ⟨az, cz, rfl⟩ := own_form hown
        obtain ⟨⟨q0, q1, q2, q3⟩, qf, _⟩ := S.out.bx
        obtain ⟨i0, hi0, hz0, hz1, hz2⟩ := info_parts Try.info3
        go_wp2_with (at_builtin; refine wpList_append_own_at _ rfl _ _ 30 rfl (w.heap.size + 3) 3 i0 (.int .i64 0) 1 8 Try.underlying30 hi0 hz0 hz1 hz2 rfl (by decide) _ _ _ rfl (hown.alloc _) ⟨wr.heap.size, 0, none⟩ 1 1 [.int .i64 2] rfl rfl ?c1 ?c2 ?c3 ?c4 ?c5 ?_)
        case c2 => rfl
        case c3 => unfold maxLen; omega
        case c4 => omega
        case c5 => omega
        intro v' w4 hown3 hgr3 hnil3 hat3
        obtain ⟨a', c', rfl⟩ := own_form hown3
        have b3 : Below (w.heap.size + 3) wr w4 := ((below_new wr _).mono hsz).trans (grown_below hgr3 (fun g hg => (hown.lt g hg).1) (by simp; omega))
        have X4 := S.out.bx.kept b3 (by omega) hsz
        have S4 := Lib.hid (S.out.word (by rw [List.map_replicate]; exact hown3) hgr3)
        clear hown3 hgr3 hnil3 hat3 hown b3 q0 q1 q2 q3 qf
        obtain ⟨⟨q0, q1, q2, q3⟩, qf, _⟩ := X4
        go_wp2_with fail
        exact ⟨⟨i + 1, by omega, by go_num, _, _, S4.out⟩, by simp [RowKit.intOf]; omega⟩
      · have hown := S.out.r2
        rw [(blk_b rfl i).2, List.length_replicate] at hown
        obtain ⟨az, cz, rfl⟩ := own_form hown
        obtain ⟨⟨q0, q1, q2, q3⟩, qf, _⟩ := S.out.bx
        obtain ⟨i0, hi0, hz0, hz1, hz2⟩ := info_parts Try.info5
        go_wp2_with (at_builtin; refine wpList_append_own_at _ rfl _ _ 31 rfl (w.heap.size + 3) 5 i0 (.int .u8 0) 1 1 Try.underlying31 hi0 hz0 hz1 hz2 rfl (by decide) _ _ _ rfl (hown.alloc _) ⟨wr.heap.size, 0, none⟩ 1 1 [.int .u8 0] rfl rfl ?d1 ?d2 ?d3 ?d4 ?d5 ?_)
        case d2 => rfl
        case d3 => unfold maxLen; omega
        case d4 => omega
        case d5 => omega
        intro v' w4 hown3 hgr3 hnil3 hat3
        obtain ⟨a', c', rfl⟩ := own_form hown3
        have b3 : Below (w.heap.size + 3) wr w4 := ((below_new wr _).mono hsz).trans (grown_below hgr3 (fun g hg => (hown.lt g hg).1) (by simp; omega))
        have X4 := S.out.bx.kept b3 (by omega) hsz
        have S4 := Lib.hid (S.out.byte (by rw [List.map_replicate]; exact hown3) hgr3)
        clear hown3 hgr3 hnil3 hat3 hown b3 q0 q1 q2 q3 qf
        obtain ⟨⟨q0, q1, q2, q3⟩, qf, _⟩ := X4
        go_wp2_with fail
        exact ⟨⟨i + 1, by omega, by go_num, _, _, S4.out⟩, by simp [RowKit.intOf]; omega⟩
    · obtain rfl : n = i := by omega
      have d1 : decide ((n : Int) < n) = false := by simp
      have d2 : decide (n < n) = false := by simp
      have hsz := S.out.sz
      have PR : Hid (RIn (fun g => (N g ∧ g < w.heap.size) ∨ (w.heap.size + 3 ≤ g ∧ g < wr.heap.size)) wr (blk c k n, z, u)) := Lib.hid ⟨.inr ⟨HOK.out.1, HOK.out.2.1⟩, own_down S.out.r1 (Nat.zero_le _), own_down S.out.r2 (Nat.zero_le _), fun g hg => .inr (S.out.r1.lt g hg), fun g hg => .inr (S.out.r2.lt g hg)⟩
      obtain ⟨az, cz, e1⟩ := own_form S.out.r1
      obtain ⟨au, cu, e2⟩ := own_form S.out.r2
      generalize (blk c k n).w.length = nz at e1
      generalize (blk c k n).b.length = nu at e2
      subst e1 e2
      have VC : RmV (fun g => N g ∧ g < w.heap.size) wr (.slice a L.length cc) L := (HV.out.kind (M := fun g => N g ∧ g < w.heap.size) (fun g hg hN => ⟨hN, hg⟩)).fresh S.out.bl
      obtain ⟨v3, w4, happ, rn4, hg4, hat4⟩ := append_rows (N := fun g => (N g ∧ g < w.heap.size) ∨ (w.heap.size + 3 ≤ g ∧ g < wr.heap.size)) (M := fun g => N g ∧ g < w.heap.size) (B := wr.heap.size) wr (.slice none 0 0) _ [] L (rnk_nil _ _ _) (fun k _ e => by cases e) VC (fun k hk => ⟨fun e => (by cases e), .inl hk⟩) (by have := HL.out; simp; omega) (Nat.le_refl _) 27
      rw [List.nil_append] at rn4
      have b4 : Below wr.heap.size wr w4 := grown_below hg4 (fun g hg => by cases hg) (Nat.le_refl _)
      have HAPP := Lib.hid happ
      have S4 := Lib.hid (S.out.next b4)
      obtain ⟨a3, c3, rfl⟩ := rn4.form
      have lt3 : ∀ g, (Value.slice a3 L.length c3).ownBlock = some g → wr.heap.size ≤ g := fun g hg => (rn4.own.lt g hg).1
      obtain ⟨v6, w6, happ6, rn6, hg6, hat6⟩ := append_row (N := fun g => (N g ∧ g < w.heap.size) ∨ (w.heap.size + 3 ≤ g ∧ g < wr.heap.size)) (B := wr.heap.size) (w4.alloc (.cells #[.int .i64 c, .int .i64 k, .slice az nz cz, .slice au nu cu] 33)) (.slice a3 L.length c3) L (rn4.fresh (below_new _ _)) (fun g hg e => by
          have := lt3 g e
          rcases hg with hg | hg
          · have := hg.2; omega
          · omega) (blk c k n, .slice az nz cz, .slice au nu cu) ((PR.out.fresh b4).fresh (below_new _ _)) w4.heap.size (fun j x hx => by
          rw [World.cell?_alloc_at _ _ _ _ rfl]
          have e1 : cells4 (blk c k n, .slice az nz cz, .slice au nu cu) = [.int .i64 c, .int .i64 k, .slice az nz cz, .slice au nu cu] := rfl
          rw [e1] at hx
          simpa using hx) (by have := HL.out; omega) (by have := b4.size; simp; omega) 27
      have b6 : Below wr.heap.size w4 w6 := ((below_new w4 _).mono b4.size).trans (grown_below hg6 lt3 (by have := b4.size; simp; omega))
      have S6 : Hid (Below w.heap.size w w6 ∧ B1 (w.heap.size + 1) (.slice none 0 0) w6) := Lib.hid ⟨(S.out.bl.trans (b4.mono S.out.bl.size)).trans (b6.mono (by omega)), S4.out.b1.kept b6 (by omega)⟩
      obtain ⟨a6, c6, hv6⟩ := rn6.form
      rw [List.length_append, List.length_singleton] at hv6
      subst hv6
      have HAPP6 := Lib.hid happ6
      have R6 : Hid (RmV (fun g => ((N g ∧ g < w.heap.size) ∨ (w.heap.size + 3 ≤ g ∧ g < wr.heap.size)) ∨ wr.heap.size ≤ g) w6 (.slice a6 (L.length + 1) c6) (L ++ [(blk c k n, .slice az nz cz, .slice au nu cu)])) := Lib.hid rn6.rm
      have HMP : Hid (memR (L ++ [(blk c k n, .slice az nz cz, .slice au nu cu)]) = memR L ++ [some (blk c k n)]) := Lib.hid (memR_push L HOK.out.2.2)
      obtain ⟨k0, _, _⟩ := S.out.b0
      obtain ⟨⟨q0, q1, q2, q3⟩, _, _⟩ := S4.out.bx
      obtain ⟨m0, m1, m2⟩ := S6.out.2
      have hlw : wrap64 (2 * ((L.length : Int) + 1)) = 2 * ((L.length : Int) + 1) := IntWalk.wrap64_in _ (by have := HL.out; omega)
      have hlw2 : IntKind.i64.wrap (2 * ((L.length : Int) + 1)) = 2 * ((L.length : Int) + 1) := by have := HL.out; rw [IntKind.wrap_i64]; omega
      have HSZ := Lib.hid hsz
      clear VC happ rn4 hg4 hat4 b4 happ6 rn6 hg6 hat6 b6 lt3 hsz hi hlt hl hn
      go_upto_region 13 with (at_builtin; refine wpList_append_eq _ rfl _ _ 27 rfl _ _ _ _ rfl rfl HAPP.out ?_)
      go_wp2_with (at_builtin; refine wpList_append_eq _ rfl _ _ 27 rfl _ _ _ _ rfl rfl HAPP6.out ?_)
      refine bodyPost_ret (res_m3 rfl rfl (S6.out.2.put (.slice a6 (L.length + 1) c6))) rfl ?_
      refine HF.out _ _ _ _ _ rfl ((R6.out.only ((Only.refl (· = w.heap.size + 1) w6).setCell ⟨w.heap.size + 1, 0, none⟩ rfl _) (fun g hg e => ?_)).mono fun g hg => ?_) HMP.out (S6.out.1.setCell (p := ⟨w.heap.size + 1, 0, none⟩) (by show w.heap.size ≤ w.heap.size + 1; omega) _)
      · have := HSZ.out
        rcases hg with (hg | hg) | hg
        · have := hg.2; omega
        · omega
        · omega
      · have := HSZ.out
        rcases hg with (hg | hg) | hg
        · exact .inl hg.1
        · exact .inr (by omega)
        · exact .inr (by omega)
theorem cnew_any {N : Nat → Prop} {w : World} {v : Value} {L : List RO} (h : RmV N w v L) (hl : L.length ≤ 1000000) (c k n : Int) (hc : In64 c) :
    Calls Try.prog 31 #[.agg #[v], .int .i64 c, .int .i64 k, .int .i64 n] w (New10 N L c k n w) := by
  rcases new_ways c k n with ⟨h1, h2, h3, h4, h5⟩ | ⟨h1, h2⟩
  · obtain ⟨q, rfl⟩ := Int.eq_ofNat_of_zero_le h4
    exact new10_yes h hl c k q hc h1 h2 h3 (by omega)
  · exact new10_no h c k n hc h1 h2
end Go.Proofs.Ytmaeoefimkppoaa.Fl
