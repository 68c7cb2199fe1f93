/- How a row of objects that comes in is read. -/
import Derived.Test.YtmaeoefimkppoaaFGt
namespace Go.Proofs.Ytmaeoefimkppoaa.Fl
set_option maxRecDepth 1000000
open Go.ChangeShapes Go.WideShapes Go.ChangeAt Go.RowKit
open Go.Proofs.Ytmaeoefimkppoaa.Wd

/-! Objects in a row: four cells each. -/
/-- The four cells at p read as the object o. -/
def ObjCells (w : World) (b p : Nat) (o : Ob) : Prop :=
  ∃ wv bv, w.cell? ⟨b, p, none⟩ = some (.int .i64 o.c) ∧ w.cell? ⟨b, p + 1, none⟩ = some (.int .i64 o.k) ∧ w.cell? ⟨b, p + 2, none⟩ = some wv ∧ w.cell? ⟨b, p + 3, none⟩ = some bv ∧
    ObjAt w (.agg #[.int .i64 o.c, .int .i64 o.k, wv, bv]) o ∧ o.w.length ≤ maxLen ∧ o.b.length ≤ maxLen
theorem ints_field {H : Type} {enc : TypeId × Value → H} {W : World} {fuel : Nat} {cs : List Value} {x : DataW H × List MemPlace} {j : Nat} (hl : j < cs.length)
    (h : DataW.trod enc Try.prog W 0 (fun _ => true) true fuel 30 ((cs.drop j).take (Try.prog.cellsOf 30)) = some x) : ∃ v xs, cs[j]? = some v ∧ Wd.RowI W v xs ∧ xs.length ≤ maxLen := by
  have e : Try.prog.cellsOf 30 = 1 := by kernel_rfl
  rw [e, List.drop_eq_getElem_cons hl, List.take_succ_cons, List.take_zero] at h
  obtain ⟨xs, h1, h2⟩ := Wd.rowI_of h
  exact ⟨_, xs, List.getElem?_eq_getElem hl, h1, h2⟩
theorem bytes_field4 {H : Type} {enc : TypeId × Value → H} {W : World} {fuel : Nat} {cs : List Value} {x : DataW H × List MemPlace} {j : Nat} (hl : j < cs.length)
    (h : DataW.trod enc Try.prog W 0 (fun _ => true) true fuel 31 ((cs.drop j).take (Try.prog.cellsOf 31)) = some x) : ∃ v xs, cs[j]? = some v ∧ Wd.RowB W v xs ∧ xs.length ≤ maxLen := by
  rw [show Try.prog.cellsOf 31 = 1 by kernel_rfl, List.drop_eq_getElem_cons hl, List.take_succ_cons, List.take_zero] at h
  obtain ⟨xs, h1, h2⟩ := Wd.rowB_of h
  exact ⟨_, xs, List.getElem?_eq_getElem hl, h1, h2⟩
/-- What four cells that read as an object are. -/
theorem obj_of_trod {H : Type} {enc : TypeId × Value → H} {W : World} {fuel : Nat} {cs : List Value} {x : DataW H × List MemPlace} (hcl : 4 ≤ cs.length)
    (ht : DataW.trod enc Try.prog W 0 (fun _ => true) true fuel 33 (cs.take 4) = some x) :
    ∃ (o : Ob) (wv bv : Value), cs[0]? = some (.int .i64 o.c) ∧ cs[1]? = some (.int .i64 o.k) ∧ cs[2]? = some wv ∧ cs[3]? = some bv ∧ ObjAt W (.agg #[.int .i64 o.c, .int .i64 o.k, wv, bv]) o ∧ o.w.length ≤ maxLen ∧ o.b.length ≤ maxLen := by
  obtain ⟨xs, n', _, _, _, hxl, hfs⟩ := DataW.trod_struct Try.underlying33 ht
  have hxl4 : xs.length = 4 := hxl
  have g0 := hfs 0 _ rfl
  have g1 := hfs 1 _ rfl
  have g2 := hfs 2 _ rfl
  have g3 := hfs 3 _ rfl
  rw [List.getElem?_eq_getElem (by omega)] at g0 g1 g2 g3
  have hl4 : (cs.take 4).length = 4 := by rw [List.length_take]; omega
  obtain ⟨c, c1, c2⟩ := int_field (j := 0) (by omega) g0
  obtain ⟨k, k1, k2⟩ := int_field (j := 1) (by omega) g1
  obtain ⟨wv, ws, n1, n2, n3⟩ := ints_field (j := 2) (by omega) g2
  obtain ⟨bv, bs, m1, m2, m3⟩ := bytes_field4 (j := 3) (by omega) g3
  rw [List.getElem?_take_of_lt (by omega)] at c1 k1 n1 m1
  exact ⟨⟨c, k, ws, bs⟩, wv, bv, c1, k1, n1, m1, ⟨wv, bv, rfl, n2, m2, wf_i64 c2, wf_i64 k2⟩, n3, m3⟩

/-- The slice value v has objects, as the list os tells. -/
def Objs (w : World) (v : Value) (os : List Ob) : Prop :=
  ∃ a c, v = .slice a os.length c ∧ os.length ≤ maxLen ∧ (os = [] ∨ ∃ b off, a = some ⟨b, off, none⟩ ∧ ∀ i (hi : i < os.length), ObjCells w b (off + i * 4) os[i])
theorem open_objs {H : Type} {enc : TypeId × Value → H} {W : World} {base : Nat} {v : Value} {d : DataW H} {ps : List MemPlace} (hok : Value.okWide Try.prog W .any base 27 v)
    (h : DataW.Trod enc Try.prog W 0 (fun _ => true) true 27 v d ps) : ∃ os, Objs W v os := by
  obtain ⟨a0, len, cap, rfl⟩ := okWide_slice Try.underlying27 hok
  obtain ⟨fuel, hf⟩ := h
  rcases Deep.open_slice Try.underlying27 hf with ⟨hcs, _⟩ | ⟨a, len', cap', m, n, D, Pl, hcs, _, hl, hm, hmm, _, hi⟩
  · simp [Value.cells] at hcs
    obtain ⟨rfl, rfl, rfl⟩ := hcs
    exact ⟨[], none, 0, rfl, Nat.zero_le _, .inl rfl⟩
  · simp [Value.cells] at hcs
    obtain ⟨rfl, rfl, rfl⟩ := hcs
    simp only [if_true] at hmm
    subst hmm
    have all : ∀ i, i < len → ∃ (o : Ob) (wv bv : Value), W.cell? (a.add (i * 4)) = some (.int .i64 o.c) ∧ W.cell? (a.add (i * 4 + 1)) = some (.int .i64 o.k) ∧ W.cell? (a.add (i * 4 + 2)) = some wv ∧ W.cell? (a.add (i * 4 + 3)) = some bv ∧
        ObjAt W (.agg #[.int .i64 o.c, .int .i64 o.k, wv, bv]) o ∧ o.w.length ≤ maxLen ∧ o.b.length ≤ maxLen := fun i hlt => by
      obtain ⟨cs', hc, ht⟩ := hi i (by omega)
      rw [Wd.Try.cells33] at hc
      obtain ⟨_, hcl, hat⟩ := World.cells?_some hc
      obtain ⟨o, wv, bv, e0, e1, e2, e3, ho⟩ := obj_of_trod (cs := cs') (by omega) (by rw [List.take_of_length_le (by omega)]; exact ht)
      have c0 := hat 0 (by omega)
      have c1 := hat 1 (by omega)
      have c2 := hat 2 (by omega)
      have c3 := hat 3 (by omega)
      rw [Deep.add_add] at c0 c1 c2 c3
      exact ⟨o, wv, bv, c0.trans e0, c1.trans e1, c2.trans e2, c3.trans e3, ho⟩
    by_cases h0 : len = 0
    · subst h0
      exact ⟨[], some a, _, rfl, Nat.zero_le _, .inl rfl⟩
    · obtain ⟨b, off, spot⟩ := a
      obtain ⟨_, _, _, c0, _⟩ := all 0 (by omega)
      have hspot : spot = none := by simpa [Addr.add] using World.cell?_spot c0
      subst hspot
      have all2 : ∀ i : Fin len, ∃ o, ObjCells W b (off + i.1 * 4) o := fun i => by
        obtain ⟨o, wv, bv, h⟩ := all i.1 i.2
        simp only [add_plain] at h
        exact ⟨o, wv, bv, h⟩
      refine ⟨List.ofFn fun i => (all2 i).choose, some ⟨b, off, none⟩, _, by rw [List.length_ofFn], by rw [List.length_ofFn]; omega, .inr ⟨b, off, rfl, fun i hi => ?_⟩⟩
      rw [List.length_ofFn] at hi
      rw [List.getElem_ofFn]
      exact (all2 ⟨i, hi⟩).choose_spec
theorem Objs.at_ {w : World} {v : Value} {os : List Ob} {k : Nat} (h : Objs w v os) (hk : k < os.length) :
    ∃ b off c, v = .slice (some ⟨b, off, none⟩) os.length c ∧ ∃ a1 c1 a2 c2, (∀ w', Below w.heap.size w w' → w'.cell? ⟨b, off + k * 4, none⟩ = some (.int .i64 os[k].c) ∧ w'.cell? ⟨b, off + k * 4 + 1, none⟩ = some (.int .i64 os[k].k) ∧
      w'.cell? ⟨b, off + k * 4 + 2, none⟩ = some (.slice a1 os[k].w.length c1) ∧ w'.cell? ⟨b, off + k * 4 + 3, none⟩ = some (.slice a2 os[k].b.length c2) ∧
      ObjAt w' (.agg #[.int .i64 os[k].c, .int .i64 os[k].k, .slice a1 os[k].w.length c1, .slice a2 os[k].b.length c2]) os[k]) ∧ os[k].w.length ≤ maxLen ∧ os[k].b.length ≤ maxLen := by
  obtain ⟨a, c, rfl, _, h⟩ := h
  obtain ⟨b, off, rfl, h'⟩ := h.resolve_left (fun e => by subst e; simp at hk)
  obtain ⟨wv, bv, c0, c1, c2, c3, ho, h1, h2⟩ := h' k hk
  have hl : b < w.heap.size := World.block_lt_of_cell? _ _ c0
  have ho2 := ho
  obtain ⟨_, _, e, ⟨_, _, a1, d1, e1, _⟩, ⟨_, _, a2, d2, e2, _⟩, _⟩ := ho2
  simp only [Value.agg.injEq, Array.mk.injEq, List.cons.injEq, true_and, and_true] at e
  obtain ⟨e3, e4⟩ := e
  subst e1 e2 e3 e4
  exact ⟨b, off, c, rfl, a1, d1, a2, d2, fun w' hb => ⟨(hb.cell (p := ⟨b, _, none⟩) hl).trans c0, (hb.cell (p := ⟨b, _, none⟩) hl).trans c1, (hb.cell (p := ⟨b, _, none⟩) hl).trans c2, (hb.cell (p := ⟨b, _, none⟩) hl).trans c3, ho.kept hb⟩, h1, h2⟩

end Go.Proofs.Ytmaeoefimkppoaa.Fl
