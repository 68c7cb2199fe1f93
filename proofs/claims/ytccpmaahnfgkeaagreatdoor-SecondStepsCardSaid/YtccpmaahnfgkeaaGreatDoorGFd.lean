/- Spaces of the chapter in boxes; entries appended. -/
import Derived.Test.YtccpmaahnfgkeaaGreatDoorGFc
namespace Go.Proofs.YtccpmaahnfgkeaaGreatDoor
set_option maxRecDepth 1000000
open Go.ChangeShapes Go.WideShapes Go.ChangeAt Go.RowKit
open Wd (Ob okO encO refsO ObjAt In64 I64)

theorem Tryz.info49 : (Tryz.prog.info? 49).map (fun i => (i.zero, i.size, i.bytes)) = some (some (.agg #[.int .i64 0, .int .i64 0, .int .i64 0, .slice none 0 0, .slice none 0 0, .int .i64 0, .int .i64 0, .int .i64 0]), 8, 96) := by kernel_rfl

/-- A space of the chapter in a variable. -/
def BoxS (w : World) (p : Nat) (v : Value) (n m : Int) : Prop :=
  w.cell? ⟨p, 0, none⟩ = some v ∧ w.cell? ⟨p, 1, none⟩ = some (.int .i64 n) ∧ w.cell? ⟨p, 2, none⟩ = some (.int .i64 m) ∧ (∀ j, w.frozen? ⟨p, j, none⟩ = false) ∧ p < w.heap.size
section
variable {w w' : World} {p : Nat} {v v' : Value} {n m n' m' : Int} {F : Nat → Prop}
theorem BoxS.only (h : BoxS w p v n m) (o : Only F w w') (hF : ¬ F p) : BoxS w' p v n m :=
  ⟨(o.cell (p := ⟨p, 0, none⟩) h.2.2.2.2 hF).trans h.1, (o.cell (p := ⟨p, 1, none⟩) h.2.2.2.2 hF).trans h.2.1, (o.cell (p := ⟨p, 2, none⟩) h.2.2.2.2 hF).trans h.2.2.1, fun j => (o.frozen (p := ⟨p, j, none⟩) h.2.2.2.2 hF).trans (h.2.2.2.1 j), Nat.lt_of_lt_of_le h.2.2.2.2 o.size⟩
theorem BoxS.fresh (h : BoxS w p v n m) (o : Below w.heap.size w w') : BoxS w' p v n m := h.only (F := fun _ => False) (Only.of_below o) id
theorem boxS_new (w : World) (v : Value) (n m : Int) (t : TypeId) : BoxS (w.alloc (.cells #[v, .int .i64 n, .int .i64 m] t)) w.heap.size v n m := by
  refine ⟨?_, ?_, ?_, fun j => frozen_top w _ _ j, by simp⟩
  · rw [World.cell?_alloc_at _ _ _ _ rfl]; rfl
  · rw [World.cell?_alloc_at _ _ _ _ rfl]; rfl
  · rw [World.cell?_alloc_at _ _ _ _ rfl]; rfl
theorem BoxS.put (h : BoxS w p v n m) (v' : Value) (n' m' : Int) : BoxS (((w.setCell ⟨p, 0, none⟩ v').setCell ⟨p, 1, none⟩ (.int .i64 n')).setCell ⟨p, 2, none⟩ (.int .i64 m')) p v' n' m' := by
  obtain ⟨h1, h2, h3, h4, h5⟩ := h
  refine ⟨?_, ?_, ?_, fun j => ?_, by simpa [World.setCell] using h5⟩
  · rw [World.cell?_setCell_other _ _ _ _ (by simp), World.cell?_setCell_other _ _ _ _ (by simp), World.cell?_setCell_same _ _ _ h1]
  · rw [World.cell?_setCell_other _ _ _ _ (by simp), World.cell?_setCell_same _ _ _ ((World.cell?_setCell_other _ _ _ _ (by simp)).trans h2)]
  · rw [World.cell?_setCell_same _ _ _ ((World.cell?_setCell_other _ _ _ _ (by simp)).trans ((World.cell?_setCell_other _ _ _ _ (by simp)).trans h3))]
  · rw [World.frozen?_setCell, World.frozen?_setCell, World.frozen?_setCell]; exact h4 j
theorem putS_only {w0 : World} (h : Only F w0 w) (hp : F p ∨ w0.heap.size ≤ p) : Only F w0 (((w.setCell ⟨p, 0, none⟩ v').setCell ⟨p, 1, none⟩ (.int .i64 n')).setCell ⟨p, 2, none⟩ (.int .i64 m')) :=
  ((h.setCell ⟨p, 0, none⟩ hp _).setCell ⟨p, 1, none⟩ hp _).setCell ⟨p, 2, none⟩ hp _
theorem load_boxS {a : Option Addr} {l c : Nat} (hb : BoxS w p (.slice a l c) n m) : (loadVar 32 ⟨p, 0, none⟩).run Tryz.prog w = .ok (.agg #[.slice a l c, .int .i64 n, .int .i64 m]) w := by
  obtain ⟨h1, h2, h3, _, _⟩ := hb
  go_simp
theorem res_S3 {fn : Func} {q u t : Tmp} (h : fn.results = #[.cell q 32, .tmp u, .tmp t]) {tmps : Array Value} {a : Option Addr} {l c : Nat} (hp : tmps.getD q undef = .pointer (some ⟨p, 0, none⟩)) (hb : BoxS w p (.slice a l c) n m) :
    (results fn tmps).run Tryz.prog w = .ok (.tuple #[.agg #[.slice a l c, .int .i64 n, .int .i64 m], tmps.getD u undef, tmps.getD t undef]) w := by
  simp only [results, h]
  rw [Array.getD_eq_getD_getElem?] at hp
  simp [hp, asAddr, load_boxS hb]
theorem res_S2 {fn : Func} {q u : Tmp} (h : fn.results = #[.cell q 32, .tmp u]) {tmps : Array Value} {a : Option Addr} {l c : Nat} (hp : tmps.getD q undef = .pointer (some ⟨p, 0, none⟩)) (hb : BoxS w p (.slice a l c) n m) :
    (results fn tmps).run Tryz.prog w = .ok (.tuple #[.agg #[.slice a l c, .int .i64 n, .int .i64 m], tmps.getD u undef]) w := by
  rw [results_cell_tmp h, hp]
  simp [Result.andThen, asAddr, load_boxS hb]
end

/-- Entries in memory of one's own, from B on; their objects lie in blocks of the kind N. -/
structure EnK (w : World) (B : Nat) (N : Nat → Prop) (v : Value) (L : List RE) : Prop where
  own : w.ownsRow B 49 8 v L.length (flat8 L)
  each : ∀ p ∈ L, ObjIn N w (objV p) p.1.o
section
variable {w w' : World} {B : Nat} {N : Nat → Prop} {v : Value} {L : List RE}
theorem EnK.sp (h : EnK w B N v L) : SpV (fun b => N b ∨ B ≤ b) w v L := by
  have hb : ∀ p ∈ L, ObjIn (fun b => N b ∨ B ≤ b) w (objV p) p.1.o := fun p hp => (h.each p hp).kind (fun _ _ h => .inl h)
  rcases h.own.2 with ⟨rfl, h0⟩ | ⟨g, cap, cur, rfl, hg, hh, hn, _⟩
  · have : L = [] := List.eq_nil_of_length_eq_zero h0
    subst this
    exact ⟨none, 0, rfl, Nat.le_refl _, hb, .inl rfl⟩
  · refine ⟨_, cap, rfl, hn, hb, .inr ⟨g, 0, rfl, .inr hg, fun j u hu => ?_⟩⟩
    have := World.ownsRow.cells h.own (g := g) rfl j u hu
    rwa [add_plain] at this
theorem EnK.fresh (h : EnK w B N v L) (b : Below w.heap.size w w') : EnK w' B N v L := ⟨own_kept h.own b, fun p hp => (h.each p hp).fresh b⟩
theorem obj_one {p : RE} {o : Ob} (h : ObjIn N w (objV p) o) : p.2.1.oneCell' = true ∧ p.2.2.oneCell' = true := by
  obtain ⟨a1, c1, a2, c2, e⟩ := h.form
  unfold objV at e
  simp only [Value.agg.injEq, Array.mk.injEq, List.cons.injEq, and_true] at e
  obtain ⟨_, _, e3, e4⟩ := e
  rw [e3, e4]; exact ⟨rfl, rfl⟩
theorem cells8_one {p : RE} {o : Ob} (h : ObjIn N w (objV p) o) : ∀ u ∈ cells8 p, u.oneCell' = true := by
  intro u hu
  obtain ⟨h1, h2⟩ := obj_one h
  simp [cells8] at hu
  rcases hu with rfl | rfl | rfl | rfl | rfl | rfl | rfl | rfl
  · rfl
  · rfl
  · rfl
  · exact h1
  · exact h2
  · rfl
  · rfl
  · rfl
theorem flat8_one (h : ∀ p ∈ L, ObjIn N w (objV p) p.1.o) : ∀ u ∈ flat8 L, u.oneCell' = true := by
  intro u hu
  simp only [flat8, List.mem_flatMap] at hu
  obtain ⟨p, hp, hu⟩ := hu
  exact cells8_one (h p hp) u hu
/-- 'append(l, more...)' where l is one's own. -/
theorem append_ents {M : Nat → Prop} {B : Nat} (w : World) (v u : Value) (L M' : List RE) (h : EnK w B N v L) (hN : ∀ b, N b → v.ownBlock ≠ some b) (hu : SpV M w u M') (hM : ∀ b, M b → v.ownBlock ≠ some b ∧ N b) (hl : L.length + M'.length ≤ 1000000) (hB : B ≤ w.heap.size) (ty : TypeId) :
    ∃ v1 w1, (Builtin.append_ #[30, 30] ty #[v, u]).run Tryz.prog w = .ok v1 w1 ∧ EnK w1 B N v1 (L ++ M') ∧ w.grownBy w1 v.ownBlock ∧ (v1.ownBlock = v.ownBlock ∨ v1.ownBlock = some w.heap.size) := by
  obtain ⟨i0, hi, hz0, hz1, hz2⟩ := info_parts Tryz.info49
  obtain ⟨a, c, rfl, hc, hb, hcell⟩ := hu
  rcases a with _ | ad
  · have h0 : M' = [] := by
      rcases hcell with h | ⟨b, off, ha, _⟩
      · exact h
      · cases ha
    subst h0
    refine ⟨v, w, ?_, by rw [List.append_nil]; exact h, ⟨rfl, rfl, rfl, Nat.le_refl _, fun _ _ _ => rfl⟩, .inl rfl⟩
    rcases h.own.2 with ⟨rfl, h0⟩ | ⟨g, cap, cur, rfl, hb2, hg, hn, _⟩
    · simp [Builtin.append_, run_underlying Tryz.underlying30, sizeOf, typeInfo, hi, Builtin.lenOf, Builtin.firstCells]
    · have := run_append_room_src (P := Tryz.prog) (w := w) 30 30 ty 49 i0 Tryz.underlying30 hi g 0 L.length cap (.slice none 0 c) 0 [] (Src.ofNil _ Tryz.underlying30 c) (by omega) (by simp) (by simp)
      simpa [World.setCells] using this
  · obtain ⟨v1, w1, h1, h2, h3, _, h5⟩ := run_append_own_at (P := Tryz.prog) w B 30 ty 49 i0 _ 8 96 Tryz.underlying30 hi hz0 hz1 hz2 rfl (by decide) v L.length (flat8 L) h.own ad M'.length c (flat8 M') (flat8_len M') (fun j u hu => by
      rcases hcell with h | ⟨b, off, ha, _, h⟩
      · rw [h] at hu; simp [flat8] at hu
      · cases ha
        rw [add_plain]
        exact h j u hu) (flat8_one hb) (by unfold maxLen; omega) (by omega) hB
    have ho : Only (fun b => v.ownBlock = some b) w w1 := (Only.refl _ w).grown h3 (fun k hk => .inl hk)
    refine ⟨v1, w1, h1, ⟨?_, fun p hp => ?_⟩, h3, h5⟩
    · rw [flat8_append, List.length_append]; exact h2
    · rcases List.mem_append.1 hp with hp | hp
      · exact (h.each p hp).only ho hN
      · exact ((hb p hp).only ho fun b hb => (hM b hb).1).kind fun b _ hb => (hM b hb).2
/-- 'append(l, entry)'. -/
theorem append_ent {B : Nat} (w : World) (v : Value) (L : List RE) (h : EnK w B N v L) (hN : ∀ b, N b → v.ownBlock ≠ some b) (p : RE) (hp : ObjIn N w (objV p) p.1.o) (g : Nat) (hg : ∀ j u, (cells8 p)[j]? = some u → w.cell? ⟨g, j, none⟩ = some u) (hl : L.length ≤ 1000000) (hB : B ≤ w.heap.size) (ty : TypeId) :
    ∃ v1 w1, (Builtin.append_ #[30, 30] ty #[v, .slice (some ⟨g, 0, none⟩) 1 1]).run Tryz.prog w = .ok v1 w1 ∧ EnK w1 B N v1 (L ++ [p]) ∧ w.grownBy w1 v.ownBlock := by
  obtain ⟨i0, hi, hz0, hz1, hz2⟩ := info_parts Tryz.info49
  obtain ⟨v1, w1, h1, h2, h3, _⟩ := run_append_own (P := Tryz.prog) w B 30 ty 49 i0 _ 8 96 Tryz.underlying30 hi hz0 hz1 hz2 rfl (by decide) v L.length (flat8 L) h.own ⟨g, 0, none⟩ 1 1 (cells8 p) rfl (fun j u hu => by
      rw [add_plain, Nat.zero_add]
      exact hg j u hu) (cells8_one hp) (by unfold maxLen; omega) (by omega) hB
  have ho : Only (fun b => v.ownBlock = some b) w w1 := (Only.refl _ w).grown h3 (fun k hk => .inl hk)
  refine ⟨v1, w1, h1, ⟨?_, fun r hr => ?_⟩, h3⟩
  · rw [flat8_append, List.length_append]
    have e : flat8 [p] = cells8 p := by simp [flat8]
    rw [e]; exact h2
  · rcases List.mem_append.1 hr with hr | hr
    · exact (h.each r hr).only ho hN
    · rw [List.mem_singleton.1 hr]; exact hp.only ho hN
end
end Go.Proofs.YtccpmaahnfgkeaaGreatDoor
