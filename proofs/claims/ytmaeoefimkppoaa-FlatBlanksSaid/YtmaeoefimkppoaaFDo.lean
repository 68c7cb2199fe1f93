/- How an argument of type []websterref10.Do is read; 'long'. -/
import Derived.Test.YtmaeoefimkppoaaFIf
import Derived.SizedLaws
namespace Go.Proofs.Ytmaeoefimkppoaa.Fl
set_option maxRecDepth 1000000
open Go.ChangeShapes Go.WideShapes Go.ChangeAt Go.RowKit
open Go.Proofs.Ytmaeoefimkppoaa.Wd

theorem Try.cells38 : Try.prog.cellsOf 38 = 4 := by kernel_rfl
theorem Try.bytes38 : Try.prog.bytesOf 38 = 32 := by kernel_rfl
theorem Try.bytes3 : Try.prog.bytesOf 3 = 8 := by kernel_rfl
/-- Something to do: its kind, three numbers. -/
structure Todo where
  k : Int
  a : Int
  b : Int
  c : Int
def Todo.wf (t : Todo) : Prop := W64 t.k ∧ W64 t.a ∧ W64 t.b ∧ W64 t.c
def DoCells (w : World) (b p : Nat) (t : Todo) : Prop := w.cell? ⟨b, p, none⟩ = some (.int .i64 t.k) ∧ w.cell? ⟨b, p + 1, none⟩ = some (.int .i64 t.a) ∧ w.cell? ⟨b, p + 2, none⟩ = some (.int .i64 t.b) ∧ w.cell? ⟨b, p + 3, none⟩ = some (.int .i64 t.c)
/-- The slice value v has the things L to do. -/
def Dos (w : World) (v : Value) (L : List Todo) : Prop :=
  ∃ a c, v = .slice a L.length c ∧ (∀ t ∈ L, t.wf) ∧ (L.length = 0 ∨ ∃ b off, a = some ⟨b, off, none⟩ ∧ ∀ (j : Nat) (t : Todo), L[j]? = some t → DoCells w b (off + j * 4) t)
theorem int_field {H : Type} {enc : TypeId × Value → H} {W : World} {fuel : Nat} {cs : List Value} {x : DataW H × List MemPlace} {j : Nat} (hl : j < cs.length)
    (h : DataW.trod enc Try.prog W 0 (fun _ => true) true fuel 3 ((cs.drop j).take (Try.prog.cellsOf 3)) = some x) : ∃ n : Int, cs[j]? = some (.int .i64 n) ∧ (Lit.int .i64 n).wf = true := by
  obtain ⟨n, hn, _, hw⟩ := DataW.trod_int Try.underlying3 h
  rw [Try.cells3, List.drop_eq_getElem_cons hl] at hn
  have hn : cs[j] = .int .i64 n := (List.cons.inj hn).1
  exact ⟨n, by rw [List.getElem?_eq_getElem hl, hn], hw⟩
theorem list_of {n : Nat} {P : Nat → Todo → Prop} (h : ∀ i, i < n → ∃ t, P i t) : ∃ L : List Todo, L.length = n ∧ ∀ i t, L[i]? = some t → P i t := by
  induction n with
  | zero => exact ⟨[], rfl, fun i t hi => by simp at hi⟩
  | succ n ih =>
    obtain ⟨L, h1, h2⟩ := ih fun i hi => h i (by omega)
    obtain ⟨t, ht⟩ := h n (by omega)
    refine ⟨L ++ [t], by simp [h1], fun i t' hi => ?_⟩
    rcases Nat.lt_or_ge i L.length with h3 | h3
    · rw [List.getElem?_append_left h3] at hi; exact h2 i t' hi
    · rw [List.getElem?_append_right h3] at hi
      by_cases h4 : i - L.length = 0
      · rw [h4] at hi; simp at hi; subst hi
        rw [show i = n by omega]; exact ht
      · rw [List.getElem?_eq_none (by simp; omega)] at hi; cases hi
theorem open_dosz {H : Type} {enc : TypeId × Value → H} {W : World} {base : Nat} {v : Value} {d : DataW H} {ps : List MemPlace} (hok : Value.okWide Try.prog W .any base 22 v)
    (h : DataW.Trod enc Try.prog W 0 (fun _ => true) true 22 v d ps) (hd : ∀ x ∈ d.weights Try.prog 22, x ≤ reachBytes) : ∃ L, Dos W v L ∧ L.length ≤ 5000000000000 := by
  have er : reachBytes = 140737488351232 := rfl
  obtain ⟨a0, len, cap, rfl⟩ := okWide_slice Try.underlying22 hok
  obtain ⟨fuel, hf⟩ := h
  rcases Deep.open_slice Try.underlying22 hf with ⟨hcs, _⟩ | ⟨a, len', cap', m, n, D, Pl, hcs, _, hl, hm, hmm, hxx, hi⟩
  · simp [Value.cells] at hcs
    obtain ⟨rfl, rfl, rfl⟩ := hcs
    exact ⟨[], ⟨none, 0, rfl, fun _ ht => (by cases ht), .inl rfl⟩, Nat.zero_le _⟩
  · simp [Value.cells] at hcs
    obtain ⟨rfl, rfl, rfl⟩ := hcs
    simp only [if_true] at hmm
    subst hmm
    have hdd : d = .slice ((List.range len).map D) ((List.range (m - len)).map fun j => D (len + j)) := congrArg Prod.fst hxx
    have hw : d.weights Try.prog 22 = (((List.range len).map D).length + ((List.range (m - len)).map fun j => D (len + j)).length) * Try.prog.bytesOf 38 :: (DataW.weightsAll Try.prog 38 ((List.range len).map D) ++ DataW.weightsAll Try.prog 38 ((List.range (m - len)).map fun j => D (len + j))) := by
      rw [hdd]
      simp only [DataW.weights, Try.underlying22]
    have hlen : len * 32 ≤ 140737488351232 := by
      have := hd _ (by rw [hw]; exact List.mem_cons_self)
      rw [Try.bytes38] at this
      simp at this
      omega
    have all : ∀ i, i < len → ∃ t : Todo, t.wf ∧
        W.cell? (a.add (i * 4)) = some (.int .i64 t.k) ∧ W.cell? (a.add (i * 4 + 1)) = some (.int .i64 t.a) ∧ W.cell? (a.add (i * 4 + 2)) = some (.int .i64 t.b) ∧ W.cell? (a.add (i * 4 + 3)) = some (.int .i64 t.c) := fun i hlt => by
      obtain ⟨cs', hc, ht⟩ := hi i (by omega)
      rw [Try.cells38] at hc
      obtain ⟨_, hcl, hat⟩ := World.cells?_some hc
      obtain ⟨xs, n', _, _, _, hxl, hfs⟩ := DataW.trod_struct Try.underlying38 ht
      have hxl2 : xs.length = 4 := hxl
      have g0 := hfs 0 _ rfl
      have g1 := hfs 1 _ rfl
      have g2 := hfs 2 _ rfl
      have g3 := hfs 3 _ rfl
      rw [List.getElem?_eq_getElem (by omega)] at g0 g1 g2 g3
      obtain ⟨q, q1, q2⟩ := int_field (j := 0) (by omega) g0
      obtain ⟨k, k1, k2⟩ := int_field (j := 1) (by omega) g1
      obtain ⟨r, r1, r2⟩ := int_field (j := 2) (by omega) g2
      obtain ⟨s, s1, s2⟩ := int_field (j := 3) (by omega) g3
      have c0 := hat 0 (by omega)
      have c1 := hat 1 (by omega)
      have c2 := hat 2 (by omega)
      have c3 := hat 3 (by omega)
      rw [Deep.add_add] at c0 c1 c2 c3
      exact ⟨⟨q, k, r, s⟩, ⟨q2, k2, r2, s2⟩, c0.trans q1, c1.trans k1, c2.trans r1, c3.trans s1⟩
    obtain ⟨L, hL, hat⟩ := list_of all
    refine ⟨L, ⟨some a, _, by rw [hL], fun t ht => ?_, ?_⟩, by omega⟩
    · obtain ⟨j, hj, rfl⟩ := List.mem_iff_getElem.1 ht
      exact (hat j _ (List.getElem?_eq_getElem hj)).1
    · by_cases h0 : len = 0
      · exact .inl (by omega)
      · obtain ⟨b, off, spot⟩ := a
        obtain ⟨_, _, c0, _⟩ := all 0 (by omega)
        have hspot : spot = none := by simpa [Addr.add] using World.cell?_spot c0
        subst hspot
        refine .inr ⟨b, off, rfl, fun j t hj => ?_⟩
        have := (hat j t hj).2
        simp only [add_plain] at this
        exact this
/-- A thing to do, in a world that holds it. -/
theorem Dos.at_ {w : World} {v : Value} {L : List Todo} {k : Nat} (h : Dos w v L) (hk : k < L.length) :
    ∃ b off c t, v = .slice (some ⟨b, off, none⟩) L.length c ∧ L[k]? = some t ∧ t.wf ∧ DoCells w b (off + k * 4) t ∧ b < w.heap.size := by
  obtain ⟨a, c, rfl, hw, hz⟩ := h
  rcases hz with hz | ⟨b, off, rfl, hz⟩
  · omega
  have hc := hz k _ (List.getElem?_eq_getElem hk)
  exact ⟨b, off, c, L[k], rfl, List.getElem?_eq_getElem hk, hw _ (List.getElem_mem hk), hc, World.block_lt_of_cell? _ _ hc.1⟩
theorem Dos.fresh {w w' : World} {v : Value} {L : List Todo} {B : Nat} (h : Dos w v L) (hb : Below B w w') (hB : w.heap.size ≤ B) : Dos w' v L := by
  obtain ⟨a, c, rfl, hw, hz⟩ := h
  refine ⟨a, c, rfl, hw, hz.imp id fun ⟨b, off, ha, hz⟩ => ⟨b, off, ha, fun j t hj => ?_⟩⟩
  obtain ⟨h0, h1, h2, h3⟩ := hz j t hj
  have hl := World.block_lt_of_cell? _ _ h0
  simp only at hl
  exact ⟨(hb.cell (p := ⟨b, _, none⟩) (by simp only; omega)).trans h0, (hb.cell (p := ⟨b, _, none⟩) (by simp only; omega)).trans h1, (hb.cell (p := ⟨b, _, none⟩) (by simp only; omega)).trans h2, (hb.cell (p := ⟨b, _, none⟩) (by simp only; omega)).trans h3⟩
def LongPost (L : List Todo) (w : World) (e : Ending) (w' : World) : Prop := ∃ b, e = .returned (.bool b) ∧ (b = false → L.length ≤ 150) ∧ w = w'
set_option maxHeartbeats 2000000 in
theorem long_any (v : Value) (L : List Todo) (w : World) (h : Dos w v L) (hl : L.length ≤ 5000000000000) : Calls Try.prog 12 #[v] w (LongPost L w) := by
  have HV := Lib.hid h
  obtain ⟨a, c, rfl, _⟩ := h
  go_enter Try.func12, Try.ntmps12
  go_wp2
  go_loop [3, 4] (fun z i => ∃ k y : Nat, k ≤ L.length ∧ i = .int .i64 k ∧ z = .int .i64 y ∧ k ≤ y ∧ y ≤ 51 * k) (fun _ i => L.length - (RowKit.intOf i).toNat)
  case atStart => exact ⟨0, 0, Nat.zero_le _, rfl, rfl, by omega, by omega⟩
  case round =>
    obtain ⟨k, y, hk, rfl, rfl, hy1, hy2⟩ := hrel
    by_cases hlt : k < L.length
    · obtain ⟨b, off, c', ⟨tk, ta, tb, tc⟩, he, _, hwf, ⟨x0, _, _, x3⟩, _⟩ := HV.out.at_ hlt
      injection he with e1 e2 e3
      subst e1 e3
      have hd : decide ((k : Int) < L.length) = true := by simpa using hlt
      have hw1 : IntKind.i64.wrap ((y : Int) + 1) = (y : Int) + 1 := by rw [IntKind.wrap_i64]; omega
      have hw2 : IntKind.i64.wrap ((k : Int) + 1) = (k : Int) + 1 := by rw [IntKind.wrap_i64]; omega
      simp only at x0 x3
      clear e2
      by_cases p1 : tk = 1
      · subst p1
        by_cases p2 : 0 < tc
        · have d2 : decide (0 < tc) = true := by simpa using p2
          by_cases p3 : tc ≤ 1000
          · have d3 : decide (tc ≤ 1000) = true := by simpa using p3
            obtain ⟨q, hq⟩ : ∃ q : Nat, tc.tdiv 20 = q := ⟨(tc.tdiv 20).toNat, by rw [Int.tdiv_eq_ediv]; omega⟩
            have hq3 : tc / 20 = q := by rw [← hq, Int.tdiv_eq_ediv]; omega
            have hq2 : q ≤ 50 := by omega
            have hw3 : IntKind.i64.wrap ((y : Int) + 1 + q) = (y : Int) + 1 + q := by rw [IntKind.wrap_i64]; omega
            have hw4 : IntKind.i64.wrap (q : Int) = q := by rw [IntKind.wrap_i64]; omega
            clear p2 p3
            go_wp2
            exact ⟨⟨k + 1, y + 1 + q, by omega, by go_num, by go_num, by omega, by omega⟩, by simp [RowKit.intOf]; omega⟩
          · have d3 : decide (tc ≤ 1000) = false := by simpa using p3
            clear p2 p3
            go_wp2
            exact ⟨⟨k + 1, y + 1, by omega, by go_num, by go_num, by omega, by omega⟩, by simp [RowKit.intOf]; omega⟩
        · have d2 : decide (0 < tc) = false := by simpa using p2
          clear p2
          go_wp2
          exact ⟨⟨k + 1, y + 1, by omega, by go_num, by go_num, by omega, by omega⟩, by simp [RowKit.intOf]; omega⟩
      · have d1 : (tk == 1) = false := by simpa using p1
        clear p1
        go_wp2
        exact ⟨⟨k + 1, y + 1, by omega, by go_num, by go_num, by omega, by omega⟩, by simp [RowKit.intOf]; omega⟩
    · obtain rfl : k = L.length := by omega
      have hP : Hid (∀ b, b = decide ((150 : Int) < y) → LongPost L w (.returned (.bool b)) w) := Lib.hid fun b hb => ⟨b, rfl, fun h => by rw [h] at hb; have := of_decide_eq_false hb.symm; omega, rfl⟩
      go_wp2
      go_ret
      exact hP.out _ rfl
end Go.Proofs.Ytmaeoefimkppoaa.Fl
