/- How a row of things to do, and a row of numbers, that come in are read, with how many there are at most; what the laws' own function 'long' does. -/
import Derived.Test.YtccpmaahnfgkeaaGreatDoorSLay
namespace Go.Proofs.YtccpmaahnfgkeaaGreatDoor
set_option maxRecDepth 1000000
open Go.ChangeShapes Go.WideShapes Go.ChangeAt Go.RowKit
open Wd (Ob okO encO refsO ObjAt In64 I64)

theorem Tryz.bytes37 : Tryz.prog.bytesOf 37 = 80 := by kernel_rfl
theorem Tryz.bytes3 : Tryz.prog.bytesOf 3 = 8 := by kernel_rfl
theorem Tryz.cells37 : Tryz.prog.cellsOf 37 = 6 := by kernel_rfl
/-- Something to do: what, of which object, and with which. -/
structure Dd where
  k : Int
  i : Int
  o : Ob
def DoCells (w : World) (b p : Nat) (d : Dd) : Prop := w.cell? ⟨b, p, none⟩ = some (.int .i64 d.k) ∧ w.cell? ⟨b, p + 1, none⟩ = some (.int .i64 d.i) ∧ W64 d.k ∧ W64 d.i ∧ ObjCells w b (p + 2) d.o
/-- The slice value v has things to do, as the list ds tells. -/
def Dos (w : World) (v : Value) (ds : List Dd) : Prop :=
  ∃ a c, v = .slice a ds.length c ∧ ds.length ≤ 2000000000000 ∧ (ds = [] ∨ ∃ b off, a = some ⟨b, off, none⟩ ∧ ∀ i (hi : i < ds.length), DoCells w b (off + i * 6) ds[i])
theorem open_dosz {H : Type} {enc : TypeId × Value → H} {W : World} {base : Nat} {v : Value} {d : DataW H} {ps : List MemPlace} (hok : Value.okWide Tryz.prog W .any base 22 v)
    (h : DataW.Trod enc Tryz.prog W 0 (fun _ => true) true 22 v d ps) (hd : ∀ x ∈ d.weights Tryz.prog 22, x ≤ reachBytes) : ∃ ds, Dos W v ds := by
  have er : reachBytes = 140737488351232 := rfl
  obtain ⟨a0, len, cap, rfl⟩ := okWide_slice Tryz.underlying22 hok
  obtain ⟨fuel, hf⟩ := h
  rcases Deep.open_slice Tryz.underlying22 hf with ⟨hcs, _⟩ | ⟨a, len', cap', m, n, D, Pl, hcs, _, hl, hm, hmm, hxx, hi⟩
  · simp [Value.cells] at hcs
    obtain ⟨rfl, rfl, rfl⟩ := hcs
    exact ⟨[], none, 0, rfl, Nat.zero_le _, .inl rfl⟩
  · simp [Value.cells] at hcs
    obtain ⟨rfl, rfl, rfl⟩ := hcs
    simp only [if_true] at hmm
    subst hmm
    have hdd : d = .slice ((List.range len).map D) ((List.range (m - len)).map fun j => D (len + j)) := congrArg Prod.fst hxx
    have hw : d.weights Tryz.prog 22 = (((List.range len).map D).length + ((List.range (m - len)).map fun j => D (len + j)).length) * Tryz.prog.bytesOf 37 :: (DataW.weightsAll Tryz.prog 37 ((List.range len).map D) ++ DataW.weightsAll Tryz.prog 37 ((List.range (m - len)).map fun j => D (len + j))) := by
      rw [hdd]
      simp only [DataW.weights, Tryz.underlying22]
    have hlen : len * 80 ≤ 140737488351232 := by
      have := hd _ (by rw [hw]; exact List.mem_cons_self)
      rw [Tryz.bytes37] at this
      simp at this
      omega
    have all : ∀ i, i < len → ∃ (d : Dd) (wv bv : Value), W64 d.k ∧ W64 d.i ∧ W.cell? (a.add (i * 6)) = some (.int .i64 d.k) ∧ W.cell? (a.add (i * 6 + 1)) = some (.int .i64 d.i) ∧
        W.cell? (a.add (i * 6 + 2)) = some (.int .i64 d.o.c) ∧ W.cell? (a.add (i * 6 + 2 + 1)) = some (.int .i64 d.o.k) ∧ W.cell? (a.add (i * 6 + 2 + 2)) = some wv ∧ W.cell? (a.add (i * 6 + 2 + 3)) = some bv ∧
        ObjAt W (.agg #[.int .i64 d.o.c, .int .i64 d.o.k, wv, bv]) d.o ∧ d.o.w.length ≤ maxLen ∧ d.o.b.length ≤ maxLen := fun i hlt => by
      obtain ⟨cs', hc, ht⟩ := hi i (by omega)
      rw [Tryz.cells37] at hc
      obtain ⟨_, hcl, hat⟩ := World.cells?_some hc
      obtain ⟨xs, n', _, _, _, hxl, hfs⟩ := DataW.trod_struct Tryz.underlying37 ht
      have hxl3 : xs.length = 3 := hxl
      have g0 := hfs 0 _ rfl
      have g1 := hfs 1 _ rfl
      have g2 := hfs 2 _ rfl
      rw [List.getElem?_eq_getElem (by omega)] at g0 g1 g2
      obtain ⟨k, k1, k2⟩ := int_field (j := 0) (by omega) g0
      obtain ⟨f, f1, f2⟩ := int_field (j := 1) (by omega) g1
      have g3 : DataW.trod enc Tryz.prog W 0 (fun _ => true) true n' 35 ((cs'.drop 2).take (Tryz.prog.cellsOf 35)) = _ := g2
      rw [Wd.Tryz.cells35] at g3
      obtain ⟨o, wv, bv, e0, e1, e2, e3, ho⟩ := obj_of_trod (cs := cs'.drop 2) (by rw [List.length_drop]; omega) g3
      rw [List.getElem?_drop] at e0 e1 e2 e3
      have c0 := hat 0 (by omega)
      have c1 := hat 1 (by omega)
      have c2 := hat 2 (by omega)
      have c3 := hat 3 (by omega)
      have c4 := hat 4 (by omega)
      have c5 := hat 5 (by omega)
      rw [Deep.add_add] at c0 c1 c2 c3 c4 c5
      exact ⟨⟨k, f, o⟩, wv, bv, k2, f2, c0.trans k1, c1.trans f1, c2.trans e0, c3.trans e1, c4.trans e2, c5.trans e3, ho⟩
    by_cases h0 : len = 0
    · subst h0
      exact ⟨[], some a, _, rfl, Nat.zero_le _, .inl rfl⟩
    · obtain ⟨b, off, spot⟩ := a
      obtain ⟨_, _, _, _, _, c0, _⟩ := all 0 (by omega)
      have hspot : spot = none := by simpa [Addr.add] using World.cell?_spot c0
      subst hspot
      have all2 : ∀ i : Fin len, ∃ d, DoCells W b (off + i.1 * 6) d := fun i => by
        obtain ⟨d, wv, bv, h1, h2, h3, h4, h5, h6, h7, h8, h9⟩ := all i.1 i.2
        simp only [add_plain] at h3 h4 h5 h6 h7 h8
        exact ⟨d, h3, h4, h1, h2, wv, bv, h5, h6, h7, h8, h9⟩
      refine ⟨List.ofFn fun i => (all2 i).choose, some ⟨b, off, none⟩, _, by rw [List.length_ofFn], by rw [List.length_ofFn]; omega, .inr ⟨b, off, rfl, fun i hi => ?_⟩⟩
      rw [List.length_ofFn] at hi
      rw [List.getElem_ofFn]
      exact (all2 ⟨i, hi⟩).choose_spec
theorem Dos.at_ {w : World} {v : Value} {ds : List Dd} {k : Nat} (h : Dos w v ds) (hk : k < ds.length) :
    ∃ b off c, v = .slice (some ⟨b, off, none⟩) ds.length c ∧ W64 ds[k].k ∧ W64 ds[k].i ∧ ∃ a1 c1 a2 c2, (∀ w', Below w.heap.size w w' → w'.cell? ⟨b, off + k * 6, none⟩ = some (.int .i64 ds[k].k) ∧ w'.cell? ⟨b, off + k * 6 + 1, none⟩ = some (.int .i64 ds[k].i) ∧
      w'.cell? ⟨b, off + k * 6 + 2, none⟩ = some (.int .i64 ds[k].o.c) ∧ w'.cell? ⟨b, off + k * 6 + 2 + 1, none⟩ = some (.int .i64 ds[k].o.k) ∧
      w'.cell? ⟨b, off + k * 6 + 2 + 2, none⟩ = some (.slice a1 ds[k].o.w.length c1) ∧ w'.cell? ⟨b, off + k * 6 + 2 + 3, none⟩ = some (.slice a2 ds[k].o.b.length c2) ∧
      ObjAt w' (.agg #[.int .i64 ds[k].o.c, .int .i64 ds[k].o.k, .slice a1 ds[k].o.w.length c1, .slice a2 ds[k].o.b.length c2]) ds[k].o) ∧ ds[k].o.w.length ≤ maxLen ∧ ds[k].o.b.length ≤ maxLen := by
  obtain ⟨a, c, rfl, _, h⟩ := h
  obtain ⟨b, off, rfl, h'⟩ := h.resolve_left (fun e => by subst e; simp at hk)
  obtain ⟨d0, d1, w1, w2, wv, bv, c0, c1, c2, c3, ho, h1, h2⟩ := h' k hk
  have hl : b < w.heap.size := World.block_lt_of_cell? _ _ c0
  have ho2 := ho
  obtain ⟨_, _, e, ⟨_, _, a1, f1, e1, _⟩, ⟨_, _, a2, f2, e2, _⟩, _⟩ := ho2
  simp only [Value.agg.injEq, Array.mk.injEq, List.cons.injEq, true_and, and_true] at e
  obtain ⟨e3, e4⟩ := e
  subst e1 e2 e3 e4
  exact ⟨b, off, c, rfl, w1, w2, a1, f1, a2, f2, fun w' hb => ⟨(hb.cell (p := ⟨b, _, none⟩) hl).trans d0, (hb.cell (p := ⟨b, _, none⟩) hl).trans d1, (hb.cell (p := ⟨b, _, none⟩) hl).trans c0, (hb.cell (p := ⟨b, _, none⟩) hl).trans c1, (hb.cell (p := ⟨b, _, none⟩) hl).trans c2, (hb.cell (p := ⟨b, _, none⟩) hl).trans c3, ho.kept hb⟩, h1, h2⟩

/-- A row of numbers that came in: not longer than memory. -/
theorem open_intsz {H : Type} {enc : TypeId × Value → H} {W : World} {base : Nat} {v : Value} {d : DataW H} {ps : List MemPlace} (hok : Value.okWide Tryz.prog W .any base 23 v)
    (h : DataW.Trod enc Tryz.prog W 0 (fun _ => true) true 23 v d ps) (hd : ∀ x ∈ d.weights Tryz.prog 23, x ≤ reachBytes) : ∃ xs, Ints (· < W.heap.size) W v xs ∧ (∀ y ∈ xs, W64 y) ∧ xs.length ≤ 20000000000000 := by
  have er : reachBytes = 140737488351232 := rfl
  obtain ⟨a0, len, cap, rfl⟩ := okWide_slice Tryz.underlying23 hok
  obtain ⟨fuel, hf⟩ := h
  have hf2 := hf
  obtain ⟨xs, hr, _⟩ := Wd.rowI_of (v := .slice a0 len cap) (x := (d, ps)) (fuel := fuel) hf
  have hlen : xs.length = len := by
    obtain ⟨_, _, _, _, e, _⟩ := hr
    injection e with _ e2 _
    exact e2.symm
  refine ⟨xs, ints_of hr (fun _ _ _ _ _ h => h), fun y hy => wf_of (hr.2.1 y hy).1 (hr.2.1 y hy).2, ?_⟩
  rw [hlen]
  rcases Deep.open_slice Tryz.underlying23 hf2 with ⟨hcs, _⟩ | ⟨a, len', cap', m, n, D, Pl, hcs, _, hl, hm, hmm, hxx, hi⟩
  · simp [Value.cells] at hcs
    omega
  · simp [Value.cells] at hcs
    obtain ⟨rfl, rfl, rfl⟩ := hcs
    simp only [if_true] at hmm
    subst hmm
    have hdd : d = .slice ((List.range len).map D) ((List.range (m - len)).map fun j => D (len + j)) := congrArg Prod.fst hxx
    have hw : d.weights Tryz.prog 23 = (((List.range len).map D).length + ((List.range (m - len)).map fun j => D (len + j)).length) * Tryz.prog.bytesOf 3 :: (DataW.weightsAll Tryz.prog 3 ((List.range len).map D) ++ DataW.weightsAll Tryz.prog 3 ((List.range (m - len)).map fun j => D (len + j))) := by
      rw [hdd]
      simp only [DataW.weights, Tryz.underlying23]
    have := hd _ (by rw [hw]; exact List.mem_cons_self)
    rw [Tryz.bytes3] at this
    simp at this
    omega

def LongPost (w : World) (e : Ending) (w' : World) : Prop := ∃ b, e = .returned (.bool b) ∧ ∃ d, w' = w.drewN d
theorem long_any (v : Value) (ds : List Dd) (w : World) (h : Dos w v ds) : Calls Tryz.prog 4 #[v] w (LongPost w) := by
  have HV := Lib.hid h
  obtain ⟨a, c, rfl, hl, _⟩ := h
  go_enter Tryz.func4, Tryz.ntmps4
  go_wp2
  go_loopw [3, 4] (fun z i wr => ∃ (k : Nat) (y : Int) (d : Nat), k ≤ ds.length ∧ i = .int .i64 k ∧ z = .int .i64 y ∧ wr = w.drewN d) (fun _ i _ => ds.length - (RowKit.intOf i).toNat)
  case atStart => exact ⟨0, 0, 0, Nat.zero_le _, rfl, rfl, rfl⟩
  case round =>
    obtain ⟨k, y, d, hk, rfl, rfl, hw⟩ := hrel
    have HW := Lib.hid hw
    by_cases hlt : k < ds.length
    · obtain ⟨b, off, c', he, _, _, a1, c1, a2, c2, hat, _, _⟩ := HV.out.at_ hlt
      obtain ⟨_, _, _, _, h4, h5, _⟩ := hat wr (by rw [hw]; exact below_drewN _ _ _)
      injection he with e1 e2 e3
      subst e1 e3
      clear hat e2 hw
      generalize ds[k] = q at *
      go_wp2
      go_quiet (fail)
      go_wp2
      go_roundw
      case rel => exact ⟨k + 1, _, d + nq, by omega, by go_num, rfl, by rw [HW.out, World.drewN_drewN]⟩
      case measure => simp [RowKit.intOf]; omega
    · clear hw
      go_wp2
      go_ret
      exact ⟨_, rfl, d, HW.out⟩
end Go.Proofs.YtccpmaahnfgkeaaGreatDoor
