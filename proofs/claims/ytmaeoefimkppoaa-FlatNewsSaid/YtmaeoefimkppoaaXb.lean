/- The chapter's memory in variables; objects appended to rows of one's own. -/
import Derived.Test.YtmaeoefimkppoaaXa
import Derived.Maps.AppendAt
namespace Go.Proofs.Ytmaeoefimkppoaa.Fl
set_option maxRecDepth 1000000
open Go.ChangeShapes Go.WideShapes Go.ChangeAt Go.RowKit
open Go.Proofs.Ytmaeoefimkppoaa.Wd

/-- A variable of one cell. -/
def B1 (p : Nat) (v : Value) (w : World) : Prop := w.cell? ⟨p, 0, none⟩ = some v ∧ w.frozen? ⟨p, 0, none⟩ = false ∧ p < w.heap.size
section
variable {w w' : World} {p : Nat} {v v' : Value} {F : Nat → Prop}
theorem B1.only (h : B1 p v w) (o : Only F w w') (hF : ¬ F p) : B1 p v w' :=
  ⟨(Only.cell o (p := ⟨p, 0, none⟩) h.2.2 hF).trans h.1, (Only.frozen o (p := ⟨p, 0, none⟩) h.2.2 hF).trans h.2.1, Nat.lt_of_lt_of_le h.2.2 o.size⟩
theorem B1.next (h : B1 p v w) (b : Below w.heap.size w w') : B1 p v w' := h.only (only_below b) id
theorem B1.kept {B : Nat} (h : B1 p v w) (b : Below B w w') (hp : p < B) : B1 p v w' :=
  ⟨(b.cell (p := ⟨p, 0, none⟩) hp).trans h.1, (by have := b.frozen (p := ⟨p, 0, none⟩) hp; rw [this]; exact h.2.1), Nat.lt_of_lt_of_le h.2.2 b.size⟩
theorem b1_new (w : World) (v : Value) (t : TypeId) : B1 w.heap.size v (w.alloc (.cells #[v] t)) := by
  refine ⟨?_, ?_, by simp⟩
  · rw [World.cell?_alloc_at _ _ _ _ rfl]; rfl
  · unfold World.frozen?
    rw [heap_alloc_new]
    simp
theorem B1.put (h : B1 p v w) (v' : Value) : B1 p v' (w.setCell ⟨p, 0, none⟩ v') :=
  ⟨World.cell?_setCell_same _ _ _ h.1, by rw [World.frozen?_setCell]; exact h.2.1, by simpa [World.setCell] using h.2.2⟩
theorem B1.other {g : Nat} (h : B1 p v w) (hg : p ≠ g) (j : Nat) (u : Value) : B1 p v (w.setCell ⟨g, j, none⟩ u) :=
  h.only ((Only.refl (· = g) w).setCell ⟨g, j, none⟩ rfl u) hg
theorem load_b1 {a : Option Addr} {l c : Nat} (hb : B1 p (.slice a l c) w) : (loadVar 29 ⟨p, 0, none⟩).run Try.prog w = .ok (.agg #[.slice a l c]) w := by
  obtain ⟨h1, _, _⟩ := hb
  go_simp
theorem res_m3 {fn : Func} {q u t : Tmp} (h : fn.results = #[.cell q 29, .tmp u, .tmp t]) {tmps : Array Value} {a : Option Addr} {l c : Nat} (hp : tmps.getD q undef = .pointer (some ⟨p, 0, none⟩)) (hb : B1 p (.slice a l c) w) :
    (results fn tmps).run Try.prog w = .ok (.tuple #[.agg #[.slice a l c], tmps.getD u undef, tmps.getD t undef]) w := by
  simp only [results, h]
  rw [Array.getD_eq_getD_getElem?] at hp
  simp [hp, asAddr, load_b1 hb]
theorem res_m1 {fn : Func} {q : Tmp} (h : fn.results = #[.cell q 29]) {tmps : Array Value} {a : Option Addr} {l c : Nat} (hp : tmps.getD q undef = .pointer (some ⟨p, 0, none⟩)) (hb : B1 p (.slice a l c) w) :
    (results fn tmps).run Try.prog w = .ok (.agg #[.slice a l c]) w := by
  simp only [results, h]
  rw [Array.getD_eq_getD_getElem?] at hp
  simp [hp, asAddr, load_b1 hb]
end
theorem frozen_new (w : World) (cs : Array Value) (t : TypeId) (j : Nat) : (w.alloc (.cells cs t)).frozen? ⟨w.heap.size, j, none⟩ = false := by
  unfold World.frozen?
  rw [heap_alloc_new]
  simp

/-- Objects in memory of one's own, from B on; what they hold lies in blocks of the kind N. -/
structure RnK (w : World) (B : Nat) (N : Nat → Prop) (v : Value) (L : List RO) : Prop where
  own : w.ownsRow B 33 4 v L.length (flat4 L)
  each : ∀ p ∈ L, RIn N w p
section
variable {w w' : World} {B : Nat} {N M : Nat → Prop} {v : Value} {L : List RO}
theorem rnk_nil (w : World) (B : Nat) (N : Nat → Prop) : RnK w B N (.slice none 0 0) [] := ⟨World.ownsRow_nil _ _ _ _, fun p hp => by cases hp⟩
theorem RnK.rm (h : RnK w B N v L) : RmV (fun b => N b ∨ B ≤ b) w v L := by
  have hb : ∀ p ∈ L, RIn (fun b => N b ∨ B ≤ b) w p := fun p hp => (h.each p hp).kind (fun _ _ h => .inl h)
  rcases h.own.2 with ⟨rfl, h0⟩ | ⟨g, cap, cur, rfl, hg, hh, hn, _⟩
  · have : L = [] := List.eq_nil_of_length_eq_zero h0
    subst this
    exact ⟨none, 0, rfl, Nat.le_refl _, hb, .inl rfl⟩
  · refine ⟨_, cap, rfl, hn, hb, .inr ⟨g, 0, rfl, .inr hg, fun j u hu => ?_⟩⟩
    have := World.ownsRow.cells h.own (g := g) rfl j u hu
    rwa [add_plain] at this
theorem RnK.fresh (h : RnK w B N v L) (b : Below w.heap.size w w') : RnK w' B N v L := ⟨own_only4 h.own (only_below b) fun _ _ h => h, fun p hp => (h.each p hp).fresh b⟩
theorem RnK.mono (h : RnK w B N v L) (hM : ∀ b, N b → M b) : RnK w B M v L := ⟨h.own, fun p hp => (h.each p hp).kind fun b _ hb => hM b hb⟩
theorem RnK.form (h : RnK w B N v L) : ∃ a c, v = .slice a L.length c := h.rm.form
theorem flat4_one (h : ∀ p ∈ L, RIn N w p) : ∀ u ∈ flat4 L, u.oneCell' = true := by
  intro u hu
  simp only [flat4, List.mem_flatMap] at hu
  obtain ⟨p, hp, hu⟩ := hu
  exact (h p hp).one u hu
theorem only_grown {row : Option Nat} (h : w.grownBy w' row) : Only (fun b => row = some b) w w' :=
  ⟨h.os, h.tape, h.output, h.size, fun k hk hn => h.block k hk fun e => hn e.symm⟩
/-- 'append(l, more...)' where l is one's own. -/
theorem append_rows (w : World) (v u : Value) (L M' : List RO) (h : RnK w B N v L) (hN : ∀ b, N b → v.ownBlock ≠ some b) (hu : RmV M w u M') (hM : ∀ b, M b → v.ownBlock ≠ some b ∧ N b) (hl : L.length + M'.length ≤ 2000000) (hB : B ≤ w.heap.size) (ty : TypeId) :
    ∃ v1 w1, (Builtin.append_ #[27, 27] ty #[v, u]).run Try.prog w = .ok v1 w1 ∧ RnK w1 B N v1 (L ++ M') ∧ w.grownBy w1 v.ownBlock ∧ (v1.ownBlock = v.ownBlock ∨ v1.ownBlock = some w.heap.size) := by
  obtain ⟨i0, hi, hz0, hz1, hz2⟩ := info_parts Try.info33
  obtain ⟨a, c, rfl, hc, hb, hcell⟩ := hu
  rcases a with _ | ad
  · have h0 : M' = [] := by
      rcases hcell with h | ⟨b, off, ha, _⟩
      · exact h
      · cases ha
    subst h0
    refine ⟨v, w, ?_, by rw [List.append_nil]; exact h, ⟨rfl, rfl, rfl, Nat.le_refl _, fun _ _ _ => rfl⟩, .inl rfl⟩
    rcases h.own.2 with ⟨rfl, h0⟩ | ⟨g, cap, cur, rfl, hb2, hg, hn, _⟩
    · simp [Builtin.append_, run_underlying Try.underlying27, sizeOf, typeInfo, hi, Builtin.lenOf, Builtin.firstCells]
    · have := run_append_room_src (P := Try.prog) (w := w) 27 27 ty 33 i0 Try.underlying27 hi g 0 L.length cap (.slice none 0 c) 0 [] (Src.ofNil _ Try.underlying27 c) (by omega) (by simp) (by simp)
      simpa [World.setCells] using this
  · obtain ⟨v1, w1, h1, h2, h3, _, h5⟩ := run_append_own_at (P := Try.prog) w B 27 ty 33 i0 _ 4 64 Try.underlying27 hi hz0 hz1 hz2 rfl (by decide) v L.length (flat4 L) h.own ad M'.length c (flat4 M') (flat4_len M') (fun j u hu => by
      rcases hcell with h | ⟨b, off, ha, _, h⟩
      · rw [h] at hu; simp [flat4] at hu
      · cases ha
        rw [add_plain]
        exact h j u hu) (flat4_one hb) (by unfold maxLen; omega) (by omega) hB
    have ho := only_grown h3
    refine ⟨v1, w1, h1, ⟨?_, fun p hp => ?_⟩, h3, h5⟩
    · rw [flat4_append, List.length_append]; exact h2
    · rcases List.mem_append.1 hp with hp | hp
      · exact (h.each p hp).only ho hN
      · exact ((hb p hp).only ho fun b hb => (hM b hb).1).kind fun b _ hb => (hM b hb).2
/-- 'append(l, object)'. -/
theorem append_row (w : World) (v : Value) (L : List RO) (h : RnK w B N v L) (hN : ∀ b, N b → v.ownBlock ≠ some b) (p : RO) (hp : RIn N w p) (g : Nat) (hg : ∀ j u, (cells4 p)[j]? = some u → w.cell? ⟨g, j, none⟩ = some u) (hl : L.length ≤ 2000000) (hB : B ≤ w.heap.size) (ty : TypeId) :
    ∃ v1 w1, (Builtin.append_ #[27, 27] ty #[v, .slice (some ⟨g, 0, none⟩) 1 1]).run Try.prog w = .ok v1 w1 ∧ RnK w1 B N v1 (L ++ [p]) ∧ w.grownBy w1 v.ownBlock ∧ (v1.ownBlock = v.ownBlock ∨ v1.ownBlock = some w.heap.size) := by
  obtain ⟨i0, hi, hz0, hz1, hz2⟩ := info_parts Try.info33
  obtain ⟨v1, w1, h1, h2, h3, _, h5⟩ := run_append_own_at (P := Try.prog) w B 27 ty 33 i0 _ 4 64 Try.underlying27 hi hz0 hz1 hz2 rfl (by decide) v L.length (flat4 L) h.own ⟨g, 0, none⟩ 1 1 (cells4 p) rfl (fun j u hu => by
      rw [add_plain, Nat.zero_add]
      exact hg j u hu) hp.one (by unfold maxLen; omega) (by omega) hB
  have ho := only_grown h3
  refine ⟨v1, w1, h1, ⟨?_, fun r hr => ?_⟩, h3, h5⟩
  · rw [flat4_append, List.length_append]
    have e : flat4 [p] = cells4 p := by simp [flat4]
    rw [e]; exact h2
  · rcases List.mem_append.1 hr with hr | hr
    · exact (h.each r hr).only ho hN
    · rw [List.mem_singleton.1 hr]; exact hp.only ho hN
end
def put4L (xs : List Value) (p : Nat) (r : RO) : List Value := (((xs.set p (.int .i64 r.1.c)).set (p + 1) (.int .i64 r.1.k)).set (p + 2) r.2.1).set (p + 3) r.2.2
theorem flat4_set (r : RO) : ∀ (L : List RO) (j : Nat), j < L.length → put4L (flat4 L) (j * 4) r = flat4 (L.set j r)
  | [], j, hj => by simp at hj
  | x :: L, 0, hj => by
    rw [List.set_cons_zero, flat4_cons, flat4_cons]
    simp [put4L, cells4]
  | x :: L, j + 1, hj => by
    have ih := flat4_set r L j (by simpa using hj)
    rw [List.set_cons_succ, flat4_cons, flat4_cons, ← ih]
    have hl : (cells4 x).length = 4 := rfl
    have key : ∀ (xs : List Value) (q : Nat) (u : Value), (cells4 x ++ xs).set ((j + 1) * 4 + q) u = cells4 x ++ xs.set (j * 4 + q) u := fun xs q u => by
      rw [List.set_append_right _ _ (by omega)]
      congr 2
      omega
    have key0 : ∀ (xs : List Value) (u : Value), (cells4 x ++ xs).set ((j + 1) * 4) u = cells4 x ++ xs.set (j * 4) u := fun xs u => key xs 0 u
    simp only [put4L, key, key0]
/-- The world behind a store of an object. -/
def put4W (w : World) (g p : Nat) (r : RO) : World := (((w.setCell ⟨g, p, none⟩ (.int .i64 r.1.c)).setCell ⟨g, p + 1, none⟩ (.int .i64 r.1.k)).setCell ⟨g, p + 2, none⟩ r.2.1).setCell ⟨g, p + 3, none⟩ r.2.2
theorem put4_only {F : Nat → Prop} {a w : World} {g p : Nat} {r : RO} (h : Only F a w) (hp : F g) : Only F a (put4W w g p r) :=
  (((h.setCell ⟨g, p, none⟩ hp _).setCell ⟨g, p + 1, none⟩ hp _).setCell ⟨g, p + 2, none⟩ hp _).setCell ⟨g, p + 3, none⟩ hp _
theorem RnK.put {w : World} {B g cap : Nat} {N : Nat → Prop} {L : List RO} (h : RnK w B N (.slice (some ⟨g, 0, none⟩) L.length cap) L) (hN : ∀ b, N b → b ≠ g) {j : Nat} (hj : j < L.length) (r : RO) (hr : RIn N w r) :
    RnK (put4W w g (j * 4) r) B N (.slice (some ⟨g, 0, none⟩) L.length cap) (L.set j r) := by
  have h1 := (h.own.stored (j * 4) (.int .i64 r.1.c)).1
  have h2 := (h1.stored (j * 4 + 1) (.int .i64 r.1.k)).1
  have h3 := (h2.stored (j * 4 + 2) r.2.1).1
  have h4 := (h3.stored (j * 4 + 3) r.2.2).1
  have on : Only (· = g) w (put4W w g (j * 4) r) := put4_only (Only.refl _ _) rfl
  refine ⟨?_, fun p hp => ?_⟩
  · have e := flat4_set r L j hj
    rw [← e, List.length_set]
    exact h4
  · rcases List.mem_or_eq_of_mem_set hp with hp | hp
    · exact (h.each p hp).only on hN
    · rw [hp]; exact hr.only on hN
end Go.Proofs.Ytmaeoefimkppoaa.Fl
