/- Texts one behind the other: FDo FDn FLw FGt Xa. -/
import Derived.Test.YtmaeoefimkppoaaMa
import Derived.SizedLaws

/- How an argument of type []websterref10.Do is read; 'long'. -/
namespace Go.Proofs.Ytmaeoefimkppoaa.Fl
set_option maxRecDepth 1000000
open Go.ChangeShapes Go.WideShapes Go.ChangeAt Go.RowKit
open Go.Proofs.Ytmaeoefimkppoaa.Wd

theorem Try.cells38 : Try.prog.cellsOf 38 = 4 := by kernel_rfl
theorem Try.bytes38 : Try.prog.bytesOf 38 = 32 := by kernel_rfl
theorem Try.bytes3 : Try.prog.bytesOf 3 = 8 := by kernel_rfl
/-- Something to do: its kind, three numbers. -/
structure Todo where
  k : Int
  a : Int
  b : Int
  c : Int
def Todo.wf (t : Todo) : Prop := W64 t.k ∧ W64 t.a ∧ W64 t.b ∧ W64 t.c
def DoCells (w : World) (b p : Nat) (t : Todo) : Prop := w.cell? ⟨b, p, none⟩ = some (.int .i64 t.k) ∧ w.cell? ⟨b, p + 1, none⟩ = some (.int .i64 t.a) ∧ w.cell? ⟨b, p + 2, none⟩ = some (.int .i64 t.b) ∧ w.cell? ⟨b, p + 3, none⟩ = some (.int .i64 t.c)
/-- The slice value v has the things L to do. -/
def Dos (w : World) (v : Value) (L : List Todo) : Prop :=
  ∃ a c, v = .slice a L.length c ∧ (∀ t ∈ L, t.wf) ∧ (L.length = 0 ∨ ∃ b off, a = some ⟨b, off, none⟩ ∧ ∀ (j : Nat) (t : Todo), L[j]? = some t → DoCells w b (off + j * 4) t)
theorem int_field {H : Type} {enc : TypeId × Value → H} {W : World} {fuel : Nat} {cs : List Value} {x : DataW H × List MemPlace} {j : Nat} (hl : j < cs.length)
    (h : DataW.trod enc Try.prog W 0 (fun _ => true) true fuel 3 ((cs.drop j).take (Try.prog.cellsOf 3)) = some x) : ∃ n : Int, cs[j]? = some (.int .i64 n) ∧ (Lit.int .i64 n).wf = true := by
  obtain ⟨n, hn, _, hw⟩ := DataW.trod_int Try.underlying3 h
  rw [Try.cells3, List.drop_eq_getElem_cons hl] at hn
  have hn : cs[j] = .int .i64 n := (List.cons.inj hn).1
  exact ⟨n, by rw [List.getElem?_eq_getElem hl, hn], hw⟩
theorem list_of {n : Nat} {P : Nat → Todo → Prop} (h : ∀ i, i < n → ∃ t, P i t) : ∃ L : List Todo, L.length = n ∧ ∀ i t, L[i]? = some t → P i t := by
  induction n with
  | zero => exact ⟨[], rfl, fun i t hi => by simp at hi⟩
  | succ n ih =>
    obtain ⟨L, h1, h2⟩ := ih fun i hi => h i (by omega)
    obtain ⟨t, ht⟩ := h n (by omega)
    refine ⟨L ++ [t], by simp [h1], fun i t' hi => ?_⟩
    rcases Nat.lt_or_ge i L.length with h3 | h3
    · rw [List.getElem?_append_left h3] at hi; exact h2 i t' hi
    · rw [List.getElem?_append_right h3] at hi
      by_cases h4 : i - L.length = 0
      · rw [h4] at hi; simp at hi; subst hi
        rw [show i = n by omega]; exact ht
      · rw [List.getElem?_eq_none (by simp; omega)] at hi; cases hi
theorem open_dosz {H : Type} {enc : TypeId × Value → H} {W : World} {base : Nat} {v : Value} {d : DataW H} {ps : List MemPlace} (hok : Value.okWide Try.prog W .any base 22 v)
    (h : DataW.Trod enc Try.prog W 0 (fun _ => true) true 22 v d ps) (hd : ∀ x ∈ d.weights Try.prog 22, x ≤ reachBytes) : ∃ L, Dos W v L ∧ L.length ≤ 5000000000000 := by
  have er : reachBytes = 140737488351232 := rfl
  obtain ⟨a0, len, cap, rfl⟩ := okWide_slice Try.underlying22 hok
  obtain ⟨fuel, hf⟩ := h
  rcases Deep.open_slice Try.underlying22 hf with ⟨hcs, _⟩ | ⟨a, len', cap', m, n, D, Pl, hcs, _, hl, hm, hmm, hxx, hi⟩
  · simp [Value.cells] at hcs
    obtain ⟨rfl, rfl, rfl⟩ := hcs
    exact ⟨[], ⟨none, 0, rfl, fun _ ht => (by cases ht), .inl rfl⟩, Nat.zero_le _⟩
  · simp [Value.cells] at hcs
    obtain ⟨rfl, rfl, rfl⟩ := hcs
    simp only [if_true] at hmm
    subst hmm
    have hdd : d = .slice ((List.range len).map D) ((List.range (m - len)).map fun j => D (len + j)) := congrArg Prod.fst hxx
    have hw : d.weights Try.prog 22 = (((List.range len).map D).length + ((List.range (m - len)).map fun j => D (len + j)).length) * Try.prog.bytesOf 38 :: (DataW.weightsAll Try.prog 38 ((List.range len).map D) ++ DataW.weightsAll Try.prog 38 ((List.range (m - len)).map fun j => D (len + j))) := by
      rw [hdd]
      simp only [DataW.weights, Try.underlying22]
    have hlen : len * 32 ≤ 140737488351232 := by
      have := hd _ (by rw [hw]; exact List.mem_cons_self)
      rw [Try.bytes38] at this
      simp at this
      omega
    have all : ∀ i, i < len → ∃ t : Todo, t.wf ∧
        W.cell? (a.add (i * 4)) = some (.int .i64 t.k) ∧ W.cell? (a.add (i * 4 + 1)) = some (.int .i64 t.a) ∧ W.cell? (a.add (i * 4 + 2)) = some (.int .i64 t.b) ∧ W.cell? (a.add (i * 4 + 3)) = some (.int .i64 t.c) := fun i hlt => by
      obtain ⟨cs', hc, ht⟩ := hi i (by omega)
      rw [Try.cells38] at hc
      obtain ⟨_, hcl, hat⟩ := World.cells?_some hc
      obtain ⟨xs, n', _, _, _, hxl, hfs⟩ := DataW.trod_struct Try.underlying38 ht
      have hxl2 : xs.length = 4 := hxl
      have g0 := hfs 0 _ rfl
      have g1 := hfs 1 _ rfl
      have g2 := hfs 2 _ rfl
      have g3 := hfs 3 _ rfl
      rw [List.getElem?_eq_getElem (by omega)] at g0 g1 g2 g3
      obtain ⟨q, q1, q2⟩ := int_field (j := 0) (by omega) g0
      obtain ⟨k, k1, k2⟩ := int_field (j := 1) (by omega) g1
      obtain ⟨r, r1, r2⟩ := int_field (j := 2) (by omega) g2
      obtain ⟨s, s1, s2⟩ := int_field (j := 3) (by omega) g3
      have c0 := hat 0 (by omega)
      have c1 := hat 1 (by omega)
      have c2 := hat 2 (by omega)
      have c3 := hat 3 (by omega)
      rw [Deep.add_add] at c0 c1 c2 c3
      exact ⟨⟨q, k, r, s⟩, ⟨q2, k2, r2, s2⟩, c0.trans q1, c1.trans k1, c2.trans r1, c3.trans s1⟩
    obtain ⟨L, hL, hat⟩ := list_of all
    refine ⟨L, ⟨some a, _, by rw [hL], fun t ht => ?_, ?_⟩, by omega⟩
    · obtain ⟨j, hj, rfl⟩ := List.mem_iff_getElem.1 ht
      exact (hat j _ (List.getElem?_eq_getElem hj)).1
    · by_cases h0 : len = 0
      · exact .inl (by omega)
      · obtain ⟨b, off, spot⟩ := a
        obtain ⟨_, _, c0, _⟩ := all 0 (by omega)
        have hspot : spot = none := by simpa [Addr.add] using World.cell?_spot c0
        subst hspot
        refine .inr ⟨b, off, rfl, fun j t hj => ?_⟩
        have := (hat j t hj).2
        simp only [add_plain] at this
        exact this
/-- A thing to do, in a world that holds it. -/
theorem Dos.at_ {w : World} {v : Value} {L : List Todo} {k : Nat} (h : Dos w v L) (hk : k < L.length) :
    ∃ b off c t, v = .slice (some ⟨b, off, none⟩) L.length c ∧ L[k]? = some t ∧ t.wf ∧ DoCells w b (off + k * 4) t ∧ b < w.heap.size := by
  obtain ⟨a, c, rfl, hw, hz⟩ := h
  rcases hz with hz | ⟨b, off, rfl, hz⟩
  · omega
  have hc := hz k _ (List.getElem?_eq_getElem hk)
  exact ⟨b, off, c, L[k], rfl, List.getElem?_eq_getElem hk, hw _ (List.getElem_mem hk), hc, World.block_lt_of_cell? _ _ hc.1⟩
theorem Dos.fresh {w w' : World} {v : Value} {L : List Todo} {B : Nat} (h : Dos w v L) (hb : Below B w w') (hB : w.heap.size ≤ B) : Dos w' v L := by
  obtain ⟨a, c, rfl, hw, hz⟩ := h
  refine ⟨a, c, rfl, hw, hz.imp id fun ⟨b, off, ha, hz⟩ => ⟨b, off, ha, fun j t hj => ?_⟩⟩
  obtain ⟨h0, h1, h2, h3⟩ := hz j t hj
  have hl := World.block_lt_of_cell? _ _ h0
  simp only at hl
  exact ⟨(hb.cell (p := ⟨b, _, none⟩) (by simp only; omega)).trans h0, (hb.cell (p := ⟨b, _, none⟩) (by simp only; omega)).trans h1, (hb.cell (p := ⟨b, _, none⟩) (by simp only; omega)).trans h2, (hb.cell (p := ⟨b, _, none⟩) (by simp only; omega)).trans h3⟩
def LongPost (L : List Todo) (w : World) (e : Ending) (w' : World) : Prop := ∃ b, e = .returned (.bool b) ∧ (b = false → L.length ≤ 150) ∧ w = w'
set_option maxHeartbeats 2000000 in
theorem long_any (v : Value) (L : List Todo) (w : World) (h : Dos w v L) (hl : L.length ≤ 5000000000000) : Calls Try.prog 12 #[v] w (LongPost L w) := by
  have HV := Lib.hid h
  obtain ⟨a, c, rfl, _⟩ := h
  go_enter Try.func12, Try.ntmps12
  go_wp2
  go_loop [3, 4] (fun z i => ∃ k y : Nat, k ≤ L.length ∧ i = .int .i64 k ∧ z = .int .i64 y ∧ k ≤ y ∧ y ≤ 51 * k) (fun _ i => L.length - (RowKit.intOf i).toNat)
  case atStart => exact ⟨0, 0, Nat.zero_le _, rfl, rfl, by omega, by omega⟩
  case round =>
    obtain ⟨k, y, hk, rfl, rfl, hy1, hy2⟩ := hrel
    by_cases hlt : k < L.length
    · obtain ⟨b, off, c', ⟨tk, ta, tb, tc⟩, he, _, hwf, ⟨x0, _, _, x3⟩, _⟩ := HV.out.at_ hlt
      injection he with e1 e2 e3
      subst e1 e3
      have hd : decide ((k : Int) < L.length) = true := by simpa using hlt
      have hw1 : IntKind.i64.wrap ((y : Int) + 1) = (y : Int) + 1 := by rw [IntKind.wrap_i64]; omega
      have hw2 : IntKind.i64.wrap ((k : Int) + 1) = (k : Int) + 1 := by rw [IntKind.wrap_i64]; omega
      simp only at x0 x3
      clear e2
      by_cases p1 : tk = 1
      · subst p1
        by_cases p2 : 0 < tc
        · have d2 : decide (0 < tc) = true := by simpa using p2
          by_cases p3 : tc ≤ 1000
          · have d3 : decide (tc ≤ 1000) = true := by simpa using p3
            obtain ⟨q, hq⟩ : ∃ q : Nat, tc.tdiv 20 = q := ⟨(tc.tdiv 20).toNat, by rw [Int.tdiv_eq_ediv]; omega⟩
            have hq3 : tc / 20 = q := by rw [← hq, Int.tdiv_eq_ediv]; omega
            have hq2 : q ≤ 50 := by omega
            have hw3 : IntKind.i64.wrap ((y : Int) + 1 + q) = (y : Int) + 1 + q := by rw [IntKind.wrap_i64]; omega
            have hw4 : IntKind.i64.wrap (q : Int) = q := by rw [IntKind.wrap_i64]; omega
            clear p2 p3
            go_wp2
            exact ⟨⟨k + 1, y + 1 + q, by omega, by go_num, by go_num, by omega, by omega⟩, by simp [RowKit.intOf]; omega⟩
          · have d3 : decide (tc ≤ 1000) = false := by simpa using p3
            clear p2 p3
            go_wp2
            exact ⟨⟨k + 1, y + 1, by omega, by go_num, by go_num, by omega, by omega⟩, by simp [RowKit.intOf]; omega⟩
        · have d2 : decide (0 < tc) = false := by simpa using p2
          clear p2
          go_wp2
          exact ⟨⟨k + 1, y + 1, by omega, by go_num, by go_num, by omega, by omega⟩, by simp [RowKit.intOf]; omega⟩
      · have d1 : (tk == 1) = false := by simpa using p1
        clear p1
        go_wp2
        exact ⟨⟨k + 1, y + 1, by omega, by go_num, by go_num, by omega, by omega⟩, by simp [RowKit.intOf]; omega⟩
    · obtain rfl : k = L.length := by omega
      have hP : Hid (∀ b, b = decide ((150 : Int) < y) → LongPost L w (.returned (.bool b)) w) := Lib.hid fun b hb => ⟨b, rfl, fun h => by rw [h] at hb; have := of_decide_eq_false hb.symm; omega, rfl⟩
      go_wp2
      go_ret
      exact hP.out _ rfl
end Go.Proofs.Ytmaeoefimkppoaa.Fl

/- 'done': what a memory answers. -/
namespace Go.Proofs.Ytmaeoefimkppoaa.Fl
set_option maxRecDepth 1000000
open Go.ChangeShapes Go.WideShapes Go.ChangeAt Go.RowKit
open Go.Proofs.Ytmaeoefimkppoaa.Wd

/-- A block of seven cells, which a struct of type Told has. -/
def Tb (p : Nat) (f : Nat → Value) (w : World) : Prop := (∀ j, j < 7 → w.cell? ⟨p, j, none⟩ = some (f j)) ∧ (∀ j, w.frozen? ⟨p, j, none⟩ = false) ∧ p < w.heap.size
def tz (n c k : Int) (z u : Value) (b : Bool) (t : Int) : Nat → Value
  | 0 => .int .i64 n | 1 => .int .i64 c | 2 => .int .i64 k | 3 => z | 4 => u | 5 => .bool b | _ => .int .i64 t
def t0 : Nat → Value := tz 0 0 0 (.slice none 0 0) (.slice none 0 0) false 0
theorem Tb.set {p : Nat} {f : Nat → Value} {w : World} (h : Tb p f w) {j : Nat} (hj : j < 7) (v : Value) : Tb p (fun i => if i = j then v else f i) (w.setCell ⟨p, j, none⟩ v) := by
  refine ⟨fun i hi => ?_, fun i => by rw [World.frozen?_setCell]; exact h.2.1 i, by simpa [World.setCell] using h.2.2⟩
  by_cases e : i = j
  · subst e; rw [World.cell?_setCell_same _ _ _ (h.1 i hj)]; simp
  · rw [World.cell?_setCell_other _ _ _ _ (by intro q; injection q; omega), h.1 i hi]; simp [e]
theorem Tb.other {p q : Nat} {f : Nat → Value} {w : World} (h : Tb p f w) (hq : p ≠ q) (j : Nat) (v : Value) : Tb p f (w.setCell ⟨q, j, none⟩ v) := by
  refine ⟨fun i hi => ?_, fun i => by rw [World.frozen?_setCell]; exact h.2.1 i, by simpa [World.setCell] using h.2.2⟩
  rw [World.cell?_setCell_other _ _ _ _ (by intro q; injection q; omega)]; exact h.1 i hi
theorem Tb.only {p : Nat} {f : Nat → Value} {w w' : World} {F : Nat → Prop} (h : Tb p f w) (o : Only F w w') (hp : ¬ F p) : Tb p f w' :=
  ⟨fun j hj => (Only.cell o (p := ⟨p, j, none⟩) h.2.2 hp).trans (h.1 j hj), fun j => (Only.frozen o (p := ⟨p, j, none⟩) h.2.2 hp).trans (h.2.1 j), Nat.lt_of_lt_of_le h.2.2 o.size⟩
theorem Tb.congr {p : Nat} {f g : Nat → Value} {w : World} (h : Tb p f w) (hg : ∀ j, j < 7 → f j = g j) : Tb p g w := ⟨fun j hj => by rw [h.1 j hj, hg j hj], h.2⟩
theorem tb_new (w : World) (n c k : Int) (z u : Value) (b : Bool) (t : Int) (ty : TypeId) : Tb w.heap.size (tz n c k z u b t) (w.alloc (.cells #[.int .i64 n, .int .i64 c, .int .i64 k, z, u, .bool b, .int .i64 t] ty)) := by
  refine ⟨fun j hj => ?_, fun j => ?_, by simp⟩
  · rw [World.cell?_alloc_at _ _ _ _ rfl]
    obtain rfl | rfl | rfl | rfl | rfl | rfl | rfl : j = 0 ∨ j = 1 ∨ j = 2 ∨ j = 3 ∨ j = 4 ∨ j = 5 ∨ j = 6 := by omega
    all_goals rfl
  · unfold World.frozen?
    rw [heap_alloc_new]
    simp
theorem res_told {fn : Func} {p : Tmp} (h : fn.results = #[.cell p 35]) {tmps : Array Value} {w : World} {b : Nat} {n c k : Int} {z u : Value} {ok : Bool} {t : Int} (hp : tmps.getD p undef = .pointer (some ⟨b, 0, none⟩)) (hb : Tb b (tz n c k z u ok t) w) :
    (results fn tmps).run Try.prog w = .ok (.agg #[.int .i64 n, .int .i64 c, .int .i64 k, z, u, .bool ok, .int .i64 t]) w := by
  simp only [results, h]
  rw [Array.getD_eq_getD_getElem?] at hp
  have e0 : w.cell? ⟨b, 0, none⟩ = some (.int .i64 n) := hb.1 0 (by decide)
  have e1 : w.cell? ⟨b, 1, none⟩ = some (.int .i64 c) := hb.1 1 (by decide)
  have e2 : w.cell? ⟨b, 2, none⟩ = some (.int .i64 k) := hb.1 2 (by decide)
  have e3 : w.cell? ⟨b, 3, none⟩ = some z := hb.1 3 (by decide)
  have e4 : w.cell? ⟨b, 4, none⟩ = some u := hb.1 4 (by decide)
  have e5 : w.cell? ⟨b, 5, none⟩ = some (.bool ok) := hb.1 5 (by decide)
  have e6 : w.cell? ⟨b, 6, none⟩ = some (.int .i64 t) := hb.1 6 (by decide)
  have hl : (loadVar 35 ⟨b, 0, none⟩).run Try.prog w = .ok (.agg #[.int .i64 n, .int .i64 c, .int .i64 k, z, u, .bool ok, .int .i64 t]) w := by go_simp
  simp [hp, asAddr, hl]
/-- The world in which 'done' calls the memory. -/
def doW (w : World) (k a b c : Int) : World := ((w.alloc (.cells #[.int .i64 k, .int .i64 a, .int .i64 b, .int .i64 c] 38)).alloc (.cells #[.int .i64 0, .int .i64 0, .int .i64 0, .slice none 0 0, .slice none 0 0, .bool false, .int .i64 0] 35)).alloc (.cells #[.int .i64 0, .int .i64 0, .int .i64 0, .slice none 0 0, .slice none 0 0, .bool false, .int .i64 0] 35)
theorem doW_size (w : World) (k a b c : Int) : (doW w k a b c).heap.size = w.heap.size + 3 := by simp [doW]
theorem doW_below (w : World) (k a b c : Int) : Below w.heap.size w (doW w k a b c) := ((below_new w _).alloc (by simp) _).alloc (by simp; omega) _
theorem World.size_two (w : World) (x y : Obj) : ((w.alloc x).alloc y).heap.size = w.heap.size + 1 + 1 := by simp
theorem doW_1 (w : World) (k a b c : Int) : Tb (w.heap.size + 1) t0 (doW w k a b c) := by
  have h := tb_new (w.alloc (.cells #[.int .i64 k, .int .i64 a, .int .i64 b, .int .i64 c] 38)) 0 0 0 (.slice none 0 0) (.slice none 0 0) false 0 35
  rw [show (w.alloc (.cells #[.int .i64 k, .int .i64 a, .int .i64 b, .int .i64 c] 38)).heap.size = w.heap.size + 1 by simp] at h
  exact h.only (only_below (below_new _ _)) (fun h => h)
theorem doW_2 (w : World) (k a b c : Int) : Tb (w.heap.size + 1 + 1) t0 (doW w k a b c) := by
  have h := tb_new ((w.alloc (.cells #[.int .i64 k, .int .i64 a, .int .i64 b, .int .i64 c] 38)).alloc (.cells #[.int .i64 0, .int .i64 0, .int .i64 0, .slice none 0 0, .slice none 0 0, .bool false, .int .i64 0] 35)) 0 0 0 (.slice none 0 0) (.slice none 0 0) false 0 35
  rw [World.size_two] at h
  exact h
/-- What a memory may not change meanwhile. -/
def KD (K : Nat → Prop) (n : Nat) : Nat → Prop := fun g => K g ∨ (n ≤ g ∧ g < n + 3)
theorem doW_mem {w : World} {K : Nat → Prop} {m : Nat} {E : Mem} (h : MemB K w m E) (k a b c : Int) : MemB (KD K w.heap.size) (doW w k a b c) m E :=
  h.keep (doW_below w k a b c) fun g hg => hg.imp id fun ⟨h1, h2⟩ => ⟨h1, by rw [doW_size]; exact h2⟩
/-- What 'done' leaves. -/
def DonePost (K : Nat → Prop) (m : Nat) (n : Int) (o : Ob) (ok : Bool) (t : Int) (E' : Mem) (w : World) (e : Ending) (w' : World) : Prop :=
  ∃ z u, e = .returned (.agg #[.int .i64 n, .int .i64 o.c, .int .i64 o.k, z, u, .bool ok, .int .i64 t]) ∧ OwnO w.heap.size w' (.agg #[.int .i64 o.c, .int .i64 o.k, z, u]) o ∧ MemB K w' m E' ∧ Keeps K w w'
def F12 (n : Nat) : Nat → Prop := fun g => g = n + 1 ∨ g = n + 1 + 1
theorem done_end {w w4 w5 : World} {K : Nat → Prop} {m : Nat} {E E' : Mem} {k a b c : Int} {v : Value} {o : Ob} (h0 : MemB K w m E) (hM : MemB (KD K w.heap.size) w4 m E') (hK : Keeps (KD K w.heap.size) (doW w k a b c) w4) (ho : Only (F12 w.heap.size) w4 w5) (hO : OwnO (w.heap.size + 3) w4 v o) :
    OwnO w.heap.size w5 v o ∧ MemB K w5 m E' ∧ Keeps K w w5 := by
  refine ⟨?_, ?_, ?_⟩
  · obtain ⟨x, y, rfl, h1, h2⟩ := hO
    have hF : ∀ (v : Value) (n : Nat) (e : TypeId) (xs : List Value), w4.ownsRow (w.heap.size + 3) e 1 v n xs → ∀ g, v.ownBlock = some g → ¬ F12 w.heap.size g := fun v n e xs h g hg hf => by
      have := (h.lt g hg).1
      unfold F12 at hf
      omega
    exact ⟨x, y, rfl, own_down (own_only h1 ho (hF _ _ _ _ h1)) (by omega), own_down (own_only h2 ho (hF _ _ _ _ h2)) (by omega)⟩
  · exact (hM.only ho fun g hg => .inr (by unfold F12 at hg; omega)).keep (Below.refl _ _) fun g hg => .inl (.inl hg)
  · refine (Keeps.of_below (doW_below w k a b c)).trans ((hK.mono fun g hg => .inl hg).trans ⟨ho.os, ho.tape, ho.output, ho.size, fun g hg hn => ho.block g hg fun hf => hn fun hk => ?_⟩)
    have := h0.kb g hk
    unfold F12 at hf
    omega
/-- What a call behind which the two structs are as they were leaves of them. -/
theorem Tb.keeps {w w4 : World} {K : Nat → Prop} {k a b c : Int} (hK : Keeps (KD K w.heap.size) (doW w k a b c) w4) : Tb (w.heap.size + 1) t0 w4 ∧ Tb (w.heap.size + 1 + 1) t0 w4 :=
  ⟨(doW_1 w k a b c).only hK fun h => h (.inr (by omega)), (doW_2 w k a b c).only hK fun h => h (.inr (by omega))⟩
def Cz (p : Nat) (w : World) : Prop := w.cell? ⟨p, 0, none⟩ = some (.int .i64 0) ∧ w.cell? ⟨p, 1, none⟩ = some (.int .i64 0) ∧ w.cell? ⟨p, 2, none⟩ = some (.int .i64 0) ∧ w.cell? ⟨p, 3, none⟩ = some (.slice none 0 0) ∧ w.cell? ⟨p, 4, none⟩ = some (.slice none 0 0) ∧ w.cell? ⟨p, 5, none⟩ = some (.bool false) ∧ w.cell? ⟨p, 6, none⟩ = some (.int .i64 0) ∧ (∀ j, w.frozen? ⟨p, j, none⟩ = false)
theorem Tb.cz {p : Nat} {w : World} (h : Tb p t0 w) : Cz p w := ⟨h.1 0 (by decide), h.1 1 (by decide), h.1 2 (by decide), h.1 3 (by decide), h.1 4 (by decide), h.1 5 (by decide), h.1 6 (by decide), h.2.1⟩
theorem Tb.all {p : Nat} {f : Nat → Value} {w : World} (h : Tb p f w) (n c k : Int) (z u : Value) (b : Bool) (t : Int) :
    Tb p (tz n c k z u b t) (((((((w.setCell ⟨p, 0, none⟩ (.int .i64 n)).setCell ⟨p, 1, none⟩ (.int .i64 c)).setCell ⟨p, 2, none⟩ (.int .i64 k)).setCell ⟨p, 3, none⟩ z).setCell ⟨p, 4, none⟩ u).setCell ⟨p, 5, none⟩ (.bool b)).setCell ⟨p, 6, none⟩ (.int .i64 t)) := by
  refine ((((((((h.set (j := 0) (by decide) _).set (j := 1) (by decide) _).set (j := 2) (by decide) _).set (j := 3) (by decide) _).set (j := 4) (by decide) _).set (j := 5) (by decide) _).set (j := 6) (by decide) _)).congr fun j hj => ?_
  obtain rfl | rfl | rfl | rfl | rfl | rfl | rfl : j = 0 ∨ j = 1 ∨ j = 2 ∨ j = 3 ∨ j = 4 ∨ j = 5 ∨ j = 6 := by omega
  all_goals rfl
theorem only7 {F : Nat → Prop} {a w : World} {p : Nat} (h : Only F a w) (hp : F p) (n c k z u b t : Value) :
    Only F a (((((((w.setCell ⟨p, 0, none⟩ n).setCell ⟨p, 1, none⟩ c).setCell ⟨p, 2, none⟩ k).setCell ⟨p, 3, none⟩ z).setCell ⟨p, 4, none⟩ u).setCell ⟨p, 5, none⟩ b).setCell ⟨p, 6, none⟩ t) :=
  ((((((h.setCell _ hp _).setCell _ hp _).setCell _ hp _).setCell _ hp _).setCell _ hp _).setCell _ hp _).setCell _ hp _
-- THE KINDS
set_option maxHeartbeats 2000000 in
theorem done_new {w : World} {K : Nat → Prop} {m : Nat} {E : Mem} (h : MemB K w m E) (hfew : E.length < 1000000) (a b c : Int) (ha : In64 a) (hb : In64 b) :
    Calls Try.prog 15 #[ifM m, .agg #[.int .i64 1, .int .i64 a, .int .i64 b, .int .i64 c]] w (DonePost K m (newN E a b c) zeroO false (newE a b c) (newF E a b c) w) := by
  have H0 := Lib.hid h
  have HC := Lib.hid (new_any (doW_mem h 1 a b c) hfew a b c ha hb)
  unfold NewPost at HC
  generalize newN E a b c = n at *
  generalize newE a b c = t at *
  generalize newF E a b c = E' at *
  clear h
  go_enter Try.func15, Try.ntmps15
  go_wp2_with (go_at_call 30; refine HC.out.mono ?_; rintro e w4 ⟨rfl, hm, hk⟩; have M4 := Lib.hid hm; have K4 := Lib.hid hk; obtain ⟨b1, b2⟩ := Tb.keeps hk; have B1 := Lib.hid b1; have B2 := Lib.hid b2; obtain ⟨p0, p1, p2, p3, p4, p5, p6, pf⟩ := b1.cz; obtain ⟨q0, q1, q2, q3, q4, q5, q6, qf⟩ := b2.cz; have l1 := b1.2.2; have l2 := b2.2.2; clear hm hk b1 b2)
  refine bodyPost_ret (res_told rfl rfl (Tb.all ((B1.out.other (by omega) _ _).other (by omega) _ _) _ _ _ _ _ _ _)) rfl ?_
  exact ⟨_, _, rfl, done_end H0.out M4.out K4.out (only7 (((Only.refl _ _).setCell _ (.inr rfl) _).setCell _ (.inr rfl) _) (.inl rfl) _ _ _ _ _ _ _) (ownO_zero _ _)⟩
set_option maxHeartbeats 2000000 in
theorem done_obj {w : World} {K : Nat → Prop} {m : Nat} {E : Mem} (h : MemB K w m E) (a b c : Int) (ha : In64 a) :
    Calls Try.prog 15 #[ifM m, .agg #[.int .i64 2, .int .i64 a, .int .i64 b, .int .i64 c]] w (DonePost K m 0 (objF E a) false (errF E a) E w) := by
  have H0 := Lib.hid h
  have HC : Hid (Calls Try.prog 22 #[.pointer (some ⟨m, 0, none⟩), .int .i64 a] (doW w 2 a b c) fun e w4 => ∃ a3 n3 c3 a4 n4 c4, e = .returned (.tuple #[.agg #[.int .i64 (objF E a).c, .int .i64 (objF E a).k, .slice a3 n3 c3, .slice a4 n4 c4], .int .i64 (errF E a)]) ∧
      Hid (OwnO (w.heap.size + 3) w4 (.agg #[.int .i64 (objF E a).c, .int .i64 (objF E a).k, .slice a3 n3 c3, .slice a4 n4 c4]) (objF E a)) ∧ Hid (MemB (KD K w.heap.size) w4 m E) ∧ Hid (Keeps (KD K w.heap.size) (doW w 2 a b c) w4)) := Lib.hid ((obj_any (doW_mem h 2 a b c) a ha).mono fun e w4 ⟨v, he, hv, hb⟩ => by
    obtain ⟨z, u, rfl, g1, g2⟩ := hv
    obtain ⟨a3, c3, rfl⟩ := own_form g1
    obtain ⟨a4, c4, rfl⟩ := own_form g2
    exact ⟨_, _, _, _, _, _, he, ⟨_, _, rfl, own_down g1 (by rw [doW_size]; exact Nat.le_refl _), own_down g2 (by rw [doW_size]; exact Nat.le_refl _)⟩, (doW_mem h 2 a b c).fresh hb, Keeps.of_below hb⟩)
  have HO : Hid (∀ (w5 : World) (z u : Value), OwnO w.heap.size w5 (.agg #[.int .i64 (objF E a).c, .int .i64 (objF E a).k, z, u]) (objF E a) ∧ MemB K w5 m E ∧ Keeps K w w5 → DonePost K m 0 (objF E a) false (errF E a) E w (.returned (.agg #[.int .i64 0, .int .i64 (objF E a).c, .int .i64 (objF E a).k, z, u, .bool false, .int .i64 (errF E a)])) w5) := Lib.hid fun w5 z u h => ⟨_, _, rfl, h⟩
  generalize DonePost K m 0 (objF E a) false (errF E a) E w = Q at *
  generalize errF E a = t at *
  generalize objF E a = ob at *
  generalize ob.c = oc at *
  generalize ob.k = ok at *
  clear h
  go_enter Try.func15, Try.ntmps15
  go_wp2_with fail
  refine HC.out.mono ?_
  rintro e w4 ⟨a3, n3, c3, a4, n4, c4, rfl, OO, M4, K4⟩
  obtain ⟨b1, b2⟩ := Tb.keeps K4.out
  have B1 := Lib.hid b1
  have B2 := Lib.hid b2
  obtain ⟨q0, q1, q2, q3, q4, q5, q6, qf⟩ := b2.cz
  have l2 := b2.2.2
  clear b1 b2
  go_upto_region 21 with fail
  have BA := Lib.hid ((((B1.out.other (q := w.heap.size + 1 + 1) (by omega) 1 (.int .i64 oc)).other (q := w.heap.size + 1 + 1) (by omega) 2 (.int .i64 ok)).other (q := w.heap.size + 1 + 1) (by omega) 3 (.slice a3 n3 c3)).other (q := w.heap.size + 1 + 1) (by omega) 4 (.slice a4 n4 c4))
  have BB := Lib.hid (((((B2.out.set (j := 1) (by decide) (.int .i64 oc)).set (j := 2) (by decide) (.int .i64 ok)).set (j := 3) (by decide) (.slice a3 n3 c3)).set (j := 4) (by decide) (.slice a4 n4 c4)).congr (g := tz 0 oc ok (.slice a3 n3 c3) (.slice a4 n4 c4) false 0) fun j hj => by
    obtain rfl | rfl | rfl | rfl | rfl | rfl | rfl : j = 0 ∨ j = 1 ∨ j = 2 ∨ j = 3 ∨ j = 4 ∨ j = 5 ∨ j = 6 := by omega
    all_goals rfl)
  have HN := Lib.hid ((((((Only.refl (F12 w.heap.size) w4).setCell ⟨w.heap.size + 1 + 1, 1, none⟩ (.inr rfl) (.int .i64 oc)).setCell ⟨w.heap.size + 1 + 1, 2, none⟩ (.inr rfl) (.int .i64 ok)).setCell ⟨w.heap.size + 1 + 1, 3, none⟩ (.inr rfl) (.slice a3 n3 c3)).setCell ⟨w.heap.size + 1 + 1, 4, none⟩ (.inr rfl) (.slice a4 n4 c4)))
  clear q0 q1 q2 q3 q4 q5 q6 qf l2
  generalize (((w4.setCell ⟨w.heap.size + 1 + 1, 1, none⟩ (.int .i64 oc)).setCell ⟨w.heap.size + 1 + 1, 2, none⟩ (.int .i64 ok)).setCell ⟨w.heap.size + 1 + 1, 3, none⟩ (.slice a3 n3 c3)).setCell ⟨w.heap.size + 1 + 1, 4, none⟩ (.slice a4 n4 c4) = w5 at *
  obtain ⟨p0, p1, p2, p3, p4, p5, p6, pf⟩ := (show Cz _ _ from BA.out.cz)
  have q0 : w5.cell? ⟨w.heap.size + 1 + 1, 0, none⟩ = some (.int .i64 0) := BB.out.1 0 (by decide)
  have q1 : w5.cell? ⟨w.heap.size + 1 + 1, 1, none⟩ = some (.int .i64 oc) := BB.out.1 1 (by decide)
  have q2 : w5.cell? ⟨w.heap.size + 1 + 1, 2, none⟩ = some (.int .i64 ok) := BB.out.1 2 (by decide)
  have q3 : w5.cell? ⟨w.heap.size + 1 + 1, 3, none⟩ = some (.slice a3 n3 c3) := BB.out.1 3 (by decide)
  have q4 : w5.cell? ⟨w.heap.size + 1 + 1, 4, none⟩ = some (.slice a4 n4 c4) := BB.out.1 4 (by decide)
  have q5 : w5.cell? ⟨w.heap.size + 1 + 1, 5, none⟩ = some (.bool false) := BB.out.1 5 (by decide)
  have q6 : w5.cell? ⟨w.heap.size + 1 + 1, 6, none⟩ = some (.int .i64 0) := BB.out.1 6 (by decide)
  have qf := BB.out.2.1
  have l1 := BA.out.2.2
  have l2 := BB.out.2.2
  go_wp2
  refine bodyPost_ret (res_told rfl rfl (Tb.all (BA.out.other (by omega) _ _) _ _ _ _ _ _ _)) rfl ?_
  exact HO.out _ _ _ (done_end H0.out M4.out K4.out (only7 (HN.out.setCell _ (.inr rfl) _) (.inl rfl) _ _ _ _ _ _ _) OO.out)
set_option maxHeartbeats 2000000 in
theorem done_fetch {w : World} {K : Nat → Prop} {m : Nat} {E : Mem} (h : MemB K w m E) (a b c : Int) (ha : In64 a) :
    Calls Try.prog 15 #[ifM m, .agg #[.int .i64 3, .int .i64 a, .int .i64 b, .int .i64 c]] w (DonePost K m (fetchN E a b) zeroO false (opE E a 1 b) E w) := by
  have H0 := Lib.hid h
  have HC := Lib.hid (fetch_any (doW_mem h 3 a b c) a b ha)
  unfold ReadPost at HC
  generalize fetchN E a b = n at *
  generalize opE E a 1 b = t at *
  clear h
  go_enter Try.func15, Try.ntmps15
  go_wp2_with (go_at_call 36; refine HC.out.mono ?_; rintro e w4 ⟨rfl, hb⟩; have hk : Keeps (KD K w.heap.size) (doW w 3 a b c) w4 := Keeps.of_below hb; have hm := (doW_mem H0.out 3 a b c).fresh hb; clear hb; have M4 := Lib.hid hm; have K4 := Lib.hid hk; obtain ⟨b1, b2⟩ := Tb.keeps hk; have B1 := Lib.hid b1; have B2 := Lib.hid b2; obtain ⟨p0, p1, p2, p3, p4, p5, p6, pf⟩ := b1.cz; obtain ⟨q0, q1, q2, q3, q4, q5, q6, qf⟩ := b2.cz; have l1 := b1.2.2; have l2 := b2.2.2; clear hm hk b1 b2)
  refine bodyPost_ret (res_told rfl rfl (Tb.all ((B1.out.other (by omega) _ _).other (by omega) _ _) _ _ _ _ _ _ _)) rfl ?_
  exact ⟨_, _, rfl, done_end H0.out M4.out K4.out (only7 (((Only.refl _ _).setCell _ (.inr rfl) _).setCell _ (.inr rfl) _) (.inl rfl) _ _ _ _ _ _ _) (ownO_zero _ _)⟩
set_option maxHeartbeats 2000000 in
theorem done_set {w : World} {K : Nat → Prop} {m : Nat} {E : Mem} (h : MemB K w m E) (a b c : Int) (ha : In64 a) (hc : In64 c) :
    Calls Try.prog 15 #[ifM m, .agg #[.int .i64 4, .int .i64 a, .int .i64 b, .int .i64 c]] w (DonePost K m 0 zeroO false (setE E a b c) (setF E a b c) w) := by
  have H0 := Lib.hid h
  have HC := Lib.hid (set_any (doW_mem h 4 a b c) a b c ha hc)
  unfold WrPost at HC
  generalize setE E a b c = t at *
  generalize setF E a b c = E' at *
  clear h
  go_enter Try.func15, Try.ntmps15
  go_wp2_with (go_at_call 32; refine HC.out.mono ?_; rintro e w4 ⟨rfl, hm, hk⟩; have M4 := Lib.hid hm; have K4 := Lib.hid hk; obtain ⟨b1, b2⟩ := Tb.keeps hk; have B1 := Lib.hid b1; have B2 := Lib.hid b2; obtain ⟨p0, p1, p2, p3, p4, p5, p6, pf⟩ := b1.cz; obtain ⟨q0, q1, q2, q3, q4, q5, q6, qf⟩ := b2.cz; have l1 := b1.2.2; have l2 := b2.2.2; clear hm hk b1 b2)
  refine bodyPost_ret (res_told rfl rfl (Tb.all (B1.out.other (by omega) _ _) _ _ _ _ _ _ _)) rfl ?_
  exact ⟨_, _, rfl, done_end H0.out M4.out K4.out (only7 ((Only.refl _ _).setCell _ (.inr rfl) _) (.inl rfl) _ _ _ _ _ _ _) (ownO_zero _ _)⟩
set_option maxHeartbeats 2000000 in
theorem done_byte {w : World} {K : Nat → Prop} {m : Nat} {E : Mem} (h : MemB K w m E) (a b c : Int) (ha : In64 a) :
    Calls Try.prog 15 #[ifM m, .agg #[.int .i64 5, .int .i64 a, .int .i64 b, .int .i64 c]] w (DonePost K m (byteN E a b) zeroO false (opE E a 2 b) E w) := by
  have H0 := Lib.hid h
  have HC := Lib.hid (byte_any (doW_mem h 5 a b c) a b ha)
  unfold ReadPost at HC
  generalize byteN E a b = n at *
  generalize opE E a 2 b = t at *
  clear h
  go_enter Try.func15, Try.ntmps15
  go_wp2_with (go_at_call 35; refine HC.out.mono ?_; rintro e w4 ⟨rfl, hb⟩; have hk : Keeps (KD K w.heap.size) (doW w 5 a b c) w4 := Keeps.of_below hb; have hm := (doW_mem H0.out 5 a b c).fresh hb; clear hb; have M4 := Lib.hid hm; have K4 := Lib.hid hk; obtain ⟨b1, b2⟩ := Tb.keeps hk; have B1 := Lib.hid b1; have B2 := Lib.hid b2; obtain ⟨p0, p1, p2, p3, p4, p5, p6, pf⟩ := b1.cz; obtain ⟨q0, q1, q2, q3, q4, q5, q6, qf⟩ := b2.cz; have l1 := b1.2.2; have l2 := b2.2.2; clear hm hk b1 b2)
  refine bodyPost_ret (res_told rfl rfl (Tb.all ((B1.out.other (by omega) _ _).other (by omega) _ _) _ _ _ _ _ _ _)) rfl ?_
  exact ⟨_, _, rfl, done_end H0.out M4.out K4.out (only7 (((Only.refl _ _).setCell _ (.inr rfl) _).setCell _ (.inr rfl) _) (.inl rfl) _ _ _ _ _ _ _) (ownO_zero _ _)⟩
set_option maxHeartbeats 2000000 in
theorem done_setb {w : World} {K : Nat → Prop} {m : Nat} {E : Mem} (h : MemB K w m E) (a b c : Int) (ha : In64 a) (hc : In64 c) :
    Calls Try.prog 15 #[ifM m, .agg #[.int .i64 6, .int .i64 a, .int .i64 b, .int .i64 c]] w (DonePost K m 0 zeroO false (setbE E a b c) (setbF E a b c) w) := by
  have H0 := Lib.hid h
  have HC := Lib.hid (setb_any (doW_mem h 6 a b c) a b c ha hc)
  unfold WrPost at HC
  generalize setbE E a b c = t at *
  generalize setbF E a b c = E' at *
  clear h
  go_enter Try.func15, Try.ntmps15
  go_wp2_with (go_at_call 34; refine HC.out.mono ?_; rintro e w4 ⟨rfl, hm, hk⟩; have M4 := Lib.hid hm; have K4 := Lib.hid hk; obtain ⟨b1, b2⟩ := Tb.keeps hk; have B1 := Lib.hid b1; have B2 := Lib.hid b2; obtain ⟨p0, p1, p2, p3, p4, p5, p6, pf⟩ := b1.cz; obtain ⟨q0, q1, q2, q3, q4, q5, q6, qf⟩ := b2.cz; have l1 := b1.2.2; have l2 := b2.2.2; clear hm hk b1 b2)
  refine bodyPost_ret (res_told rfl rfl (Tb.all (B1.out.other (by omega) _ _) _ _ _ _ _ _ _)) rfl ?_
  exact ⟨_, _, rfl, done_end H0.out M4.out K4.out (only7 ((Only.refl _ _).setCell _ (.inr rfl) _) (.inl rfl) _ _ _ _ _ _ _) (ownO_zero _ _)⟩
set_option maxHeartbeats 2000000 in
theorem done_become {w : World} {K : Nat → Prop} {m : Nat} {E : Mem} (h : MemB K w m E) (a b c : Int) (ha : In64 a) (hb : In64 b) :
    Calls Try.prog 15 #[ifM m, .agg #[.int .i64 7, .int .i64 a, .int .i64 b, .int .i64 c]] w (DonePost K m 0 zeroO false (becE E a b) (becF E a b) w) := by
  have H0 := Lib.hid h
  have HC := Lib.hid (become_any (doW_mem h 7 a b c) a b ha hb)
  unfold WrPost at HC
  generalize becE E a b = t at *
  generalize becF E a b = E' at *
  clear h
  go_enter Try.func15, Try.ntmps15
  go_wp2_with (go_at_call 28; refine HC.out.mono ?_; rintro e w4 ⟨rfl, hm, hk⟩; have M4 := Lib.hid hm; have K4 := Lib.hid hk; obtain ⟨b1, b2⟩ := Tb.keeps hk; have B1 := Lib.hid b1; have B2 := Lib.hid b2; obtain ⟨p0, p1, p2, p3, p4, p5, p6, pf⟩ := b1.cz; obtain ⟨q0, q1, q2, q3, q4, q5, q6, qf⟩ := b2.cz; have l1 := b1.2.2; have l2 := b2.2.2; clear hm hk b1 b2)
  refine bodyPost_ret (res_told rfl rfl (Tb.all (B1.out.other (by omega) _ _) _ _ _ _ _ _ _)) rfl ?_
  exact ⟨_, _, rfl, done_end H0.out M4.out K4.out (only7 ((Only.refl _ _).setCell _ (.inr rfl) _) (.inl rfl) _ _ _ _ _ _ _) (ownO_zero _ _)⟩
set_option maxHeartbeats 2000000 in
theorem done_next {w : World} {K : Nat → Prop} {m : Nat} {E : Mem} (h : MemB K w m E) (a b c : Int) (ha : In64 a) :
    Calls Try.prog 15 #[ifM m, .agg #[.int .i64 8, .int .i64 a, .int .i64 b, .int .i64 c]] w (DonePost K m (nextN E a) zeroO (nextB E a) 0 E w) := by
  have H0 := Lib.hid h
  have HC := Lib.hid ((next_any (doW_mem h 8 a b c) a ha))
  unfold NextPost at HC
  generalize nextN E a = n at *
  generalize nextB E a = ok at *
  clear h
  go_enter Try.func15, Try.ntmps15
  go_wp2_with (go_at_call 37; refine HC.out.mono ?_; rintro e w4 ⟨rfl, hw⟩; have hk : Keeps (KD K w.heap.size) (doW w 8 a b c) w4 := by { rw [← hw]; exact Keeps.refl _ _ }; have hm : MemB (KD K w.heap.size) w4 m E := by { rw [← hw]; exact doW_mem H0.out 8 a b c }; clear hw; have M4 := Lib.hid hm; have K4 := Lib.hid hk; obtain ⟨b1, b2⟩ := Tb.keeps hk; have B1 := Lib.hid b1; have B2 := Lib.hid b2; obtain ⟨p0, p1, p2, p3, p4, p5, p6, pf⟩ := b1.cz; obtain ⟨q0, q1, q2, q3, q4, q5, q6, qf⟩ := b2.cz; have l1 := b1.2.2; have l2 := b2.2.2; clear hm hk b1 b2)
  refine bodyPost_ret (res_told rfl rfl (Tb.all (((B1.out.other (by omega) _ _).other (by omega) _ _).other (by omega) _ _) _ _ _ _ _ _ _)) rfl ?_
  exact ⟨_, _, rfl, done_end H0.out M4.out K4.out (only7 ((((Only.refl _ _).setCell _ (.inr rfl) _).setCell _ (.inr rfl) _).setCell _ (.inr rfl) _) (.inl rfl) _ _ _ _ _ _ _) (ownO_zero _ _)⟩
theorem row3 (w : World) (a b c : Int) (ha : In64 a) (hb : In64 b) (hc : In64 c) : RowI (w.alloc (.cells #[.int .i64 a, .int .i64 b, .int .i64 c] 3)) (.slice (some ⟨w.heap.size, 0, none⟩) 3 3) [a, b, c] := by
  refine ⟨⟨_, _, rfl, .inr ⟨w.heap.size, 0, rfl, fun i hi => ?_⟩⟩, fun x hx => ?_, _, _, rfl, Nat.le_refl _⟩
  · rw [World.cell?_alloc_at _ _ _ _ rfl]
    obtain rfl | rfl | rfl : i = 0 ∨ i = 1 ∨ i = 2 := by simp at hi; omega
    all_goals rfl
  · simp at hx
    rcases hx with rfl | rfl | rfl
    · exact ha
    · exact hb
    · exact hc
set_option maxHeartbeats 2000000 in
theorem done_coll {w : World} {K : Nat → Prop} {m : Nat} {E : Mem} (h : MemB K w m E) (k a b c : Int) (hk : k < 1 ∨ 8 < k) (ha : In64 a) (hb : In64 b) (hc : In64 c) :
    Calls Try.prog 15 #[ifM m, .agg #[.int .i64 k, .int .i64 a, .int .i64 b, .int .i64 c]] w (DonePost K m (collN E (refsL [a, b, c])) zeroO false 0 (collF E (refsL [a, b, c])) w) := by
  have H0 := Lib.hid h
  have HC : Hid (Calls Try.prog 29 #[.pointer (some ⟨m, 0, none⟩), .slice (some ⟨w.heap.size + 1 + 1 + 1, 0, none⟩) 3 3] ((doW w k a b c).alloc (.cells #[.int .i64 a, .int .i64 b, .int .i64 c] 3)) fun e w4 => e = .returned (.tuple #[.int .i64 (collN E (refsL [a, b, c])), .int .i64 0]) ∧ MemB (KD K w.heap.size) w4 m (collF E (refsL [a, b, c])) ∧ Keeps (KD K w.heap.size) (doW w k a b c) w4) := by
    have hr := row3 (doW w k a b c) a b c ha hb hc
    rw [show (doW w k a b c).heap.size = w.heap.size + 1 + 1 + 1 from doW_size w k a b c] at hr
    exact Lib.hid ((collect_any ((doW_mem h k a b c).fresh (below_new _ _)) _ _ hr (by decide : 3 ≤ 1000)).mono fun e w4 ⟨he, hm, hkk⟩ => ⟨he, hm, (Keeps.of_below (below_new _ _)).trans hkk⟩)
  have d1 : (k == 1) = false := by simp; omega
  have d2 : (k == 2) = false := by simp; omega
  have d3 : (k == 3) = false := by simp; omega
  have d4 : (k == 4) = false := by simp; omega
  have d5 : (k == 5) = false := by simp; omega
  have d6 : (k == 6) = false := by simp; omega
  have d7 : (k == 7) = false := by simp; omega
  have d8 : (k == 8) = false := by simp; omega
  generalize collN E (refsL [a, b, c]) = n at *
  generalize collF E (refsL [a, b, c]) = E' at *
  clear h hk
  go_enter Try.func15, Try.ntmps15
  go_wp2_with (go_at_call 29; refine HC.out.mono ?_; rintro e w4 ⟨rfl, hm, hk⟩; have M4 := Lib.hid hm; have K4 := Lib.hid hk; obtain ⟨b1, b2⟩ := Tb.keeps hk; have B1 := Lib.hid b1; have B2 := Lib.hid b2; obtain ⟨p0, p1, p2, p3, p4, p5, p6, pf⟩ := b1.cz; obtain ⟨q0, q1, q2, q3, q4, q5, q6, qf⟩ := b2.cz; have l1 := b1.2.2; have l2 := b2.2.2; clear hm hk b1 b2)
  refine bodyPost_ret (res_told rfl rfl (Tb.all ((B1.out.other (by omega) _ _).other (by omega) _ _) _ _ _ _ _ _ _)) rfl ?_
  exact ⟨_, _, rfl, done_end H0.out M4.out K4.out (only7 (((Only.refl _ _).setCell _ (.inr rfl) _).setCell _ (.inr rfl) _) (.inl rfl) _ _ _ _ _ _ _) (ownO_zero _ _)⟩
/-- What is told, and left. -/
noncomputable def dN (E : Mem) (d : Todo) : Int := if d.k = 1 then newN E d.a d.b d.c else if d.k = 3 then fetchN E d.a d.b else if d.k = 5 then byteN E d.a d.b else if d.k = 8 then nextN E d.a else if 1 ≤ d.k ∧ d.k ≤ 8 then 0 else collN E (refsL [d.a, d.b, d.c])
def dO (E : Mem) (d : Todo) : Ob := if d.k = 2 then objF E d.a else zeroO
def dB (E : Mem) (d : Todo) : Bool := if d.k = 8 then nextB E d.a else false
def dE (E : Mem) (d : Todo) : Int := if d.k = 1 then newE d.a d.b d.c else if d.k = 2 then errF E d.a else if d.k = 3 then opE E d.a 1 d.b else if d.k = 4 then setE E d.a d.b d.c else if d.k = 5 then opE E d.a 2 d.b else if d.k = 6 then setbE E d.a d.b d.c else if d.k = 7 then becE E d.a d.b else 0
noncomputable def dF (E : Mem) (d : Todo) : Mem := if d.k = 1 then newF E d.a d.b d.c else if d.k = 4 then setF E d.a d.b d.c else if d.k = 6 then setbF E d.a d.b d.c else if d.k = 7 then becF E d.a d.b else if 1 ≤ d.k ∧ d.k ≤ 8 then E else collF E (refsL [d.a, d.b, d.c])
theorem w64_in {n : Int} (h : W64 n) : In64 n := wf_i64 h
theorem done_any {w : World} {K : Nat → Prop} {m : Nat} {E : Mem} (h : MemB K w m E) (hfew : E.length < 1000000) (d : Todo) (hd : d.wf) :
    Calls Try.prog 15 #[ifM m, .agg #[.int .i64 d.k, .int .i64 d.a, .int .i64 d.b, .int .i64 d.c]] w (DonePost K m (dN E d) (dO E d) (dB E d) (dE E d) (dF E d) w) := by
  obtain ⟨k, a, b, c⟩ := d
  obtain ⟨_, ha, hb, hc⟩ := hd
  have ha := w64_in ha
  have hb := w64_in hb
  have hc := w64_in hc
  by_cases hk : k < 1 ∨ 8 < k
  · have e0 : ∀ n : Int, 1 ≤ n → n ≤ 8 → k ≠ n := fun n h1 h2 => by omega
    have e9 : ¬ (1 ≤ k ∧ k ≤ 8) := by omega
    simp only [dN, dO, dB, dE, dF, e0 1 (by decide) (by decide), e0 2 (by decide) (by decide), e0 3 (by decide) (by decide), e0 4 (by decide) (by decide), e0 5 (by decide) (by decide), e0 6 (by decide) (by decide), e0 7 (by decide) (by decide), e0 8 (by decide) (by decide), e9, if_false]
    exact done_coll h k a b c hk ha hb hc
  · obtain rfl | rfl | rfl | rfl | rfl | rfl | rfl | rfl : k = 1 ∨ k = 2 ∨ k = 3 ∨ k = 4 ∨ k = 5 ∨ k = 6 ∨ k = 7 ∨ k = 8 := by omega
    · exact done_new h hfew a b c ha hb
    · exact done_obj h a b c ha
    · exact done_fetch h a b c ha
    · exact done_set h a b c ha hc
    · exact done_byte h a b c ha
    · exact done_setb h a b c ha hc
    · exact done_become h a b c ha hb
    · exact done_next h a b c ha
end Go.Proofs.Ytmaeoefimkppoaa.Fl

/- What the laws of layer 10 have in common: an object that is read, plain lists. -/
namespace Go.Proofs.Ytmaeoefimkppoaa.Fl
set_option maxRecDepth 1000000
open Go.ChangeShapes Go.WideShapes Go.ChangeAt Go.RowKit
open Go.Proofs.Ytmaeoefimkppoaa.Wd

/-- The object as a value with its parts in sight. -/
theorem obj_form {w : World} {K : Nat → Prop} {m : Nat} {E : Mem} (h : MemB K w m E) (o : Int) (ho : In64 o) :
    Calls Try.prog 22 #[.pointer (some ⟨m, 0, none⟩), .int .i64 o] w fun e w' => ∃ a1 n1 c1 a2 n2 c2, e = .returned (.tuple #[.agg #[.int .i64 (objF E o).c, .int .i64 (objF E o).k, .slice a1 n1 c1, .slice a2 n2 c2], .int .i64 (errF E o)]) ∧ Hid (OwnO w.heap.size w' (.agg #[.int .i64 (objF E o).c, .int .i64 (objF E o).k, .slice a1 n1 c1, .slice a2 n2 c2]) (objF E o)) ∧ Below w.heap.size w w' :=
  (obj_any h o ho).mono fun e w' ⟨v, he, hv, hb⟩ => by
    obtain ⟨z, u, rfl, g1, g2⟩ := hv
    obtain ⟨a3, c3, rfl⟩ := own_form g1
    obtain ⟨a4, c4, rfl⟩ := own_form g2
    exact ⟨_, _, _, _, _, _, he, ⟨_, _, rfl, g1, g2⟩, hb⟩
theorem two_at {xs : List Int} {j : Nat} (hj : j < xs.length) : (twoL xs).getD j 0 = 2 * xs.getD j 0 := by
  simp [twoL, List.getD, List.getElem?_map, List.getElem?_eq_getElem hj]
theorem err_two {E : Mem} {i : Int} (h1 : 1 ≤ i) (h2 : i ≤ 1000000) : errF E (2 * i) = if (at_ E i).isSome = true then 0 else 4 := by
  unfold errF
  rw [nam_two h1 h2]
theorem rise_next {xs : List Int} (h : xs.Pairwise (· < ·)) {j : Nat} (hj : j + 1 < xs.length) : xs.getD j 0 < xs.getD (j + 1) 0 := by
  have := List.pairwise_iff_getElem.1 h j (j + 1) (by omega) hj (by omega)
  simpa [List.getD, List.getElem?_eq_getElem hj, List.getElem?_eq_getElem (show j < xs.length by omega)] using this
/-- How many of the first k numbers have an object. -/
def cntE (E : Mem) (k : Nat) : Nat := (((List.range k).map fun j => ((j + 1 : Nat) : Int)).filter fun i => (at_ E i).isSome).length
theorem cntE_all (E : Mem) : cntE E E.length = (ids E).length := rfl
theorem cntE_next (E : Mem) (k : Nat) : cntE E (k + 1) = cntE E k + if (at_ E ((k + 1 : Nat) : Int)).isSome = true then 1 else 0 := by
  unfold cntE
  rw [List.range_succ, List.map_append, List.filter_append, List.length_append]
  congr 1
  simp only [List.map_cons, List.map_nil, List.filter_cons, List.filter_nil]
  split <;> simp_all
theorem cntE_le (E : Mem) (k : Nat) : cntE E k ≤ k := by
  unfold cntE
  refine Nat.le_trans (List.length_filter_le _ _) ?_
  simp
theorem nxt_last {E : Mem} (h : E.length + 1 ≤ 1000000) : nextN E (2 * ((E.length : Int) + 1)) = 0 ∧ nextB E (2 * ((E.length : Int) + 1)) = false := by
  have hn : nxt E (2 * ((E.length : Int) + 1)) = none := by
    unfold nxt
    rw [nam_two (by omega) (by omega), List.find?_eq_none]
    intro x hx
    have := (ids_rng hx).2
    simp
    omega
  unfold nextN nextB
  rw [hn]
  exact ⟨rfl, rfl⟩
theorem dF_len (E : Mem) (d : Todo) : (dF E d).length ≤ E.length + 1 := by
  have h1 : (newF E d.a d.b d.c).length ≤ E.length + 1 := by
    unfold newF; split
    · simp
    · omega
  have h2 : (setF E d.a d.b d.c).length = E.length := by
    unfold setF; split
    · exact set_len _ _ _
    · rfl
  have h3 : (setbF E d.a d.b d.c).length = E.length := by
    unfold setbF; split
    · exact set_len _ _ _
    · rfl
  have h4 : (becF E d.a d.b).length = E.length := by
    unfold becF; split
    · rw [set_len, set_len]
    · rfl
  have h5 : (collF E (refsL [d.a, d.b, d.c])).length = E.length := mask_len _ _
  unfold dF
  split
  · exact h1
  split
  · omega
  split
  · omega
  split
  · omega
  split <;> omega
end Go.Proofs.Ytmaeoefimkppoaa.Fl

/- An object that was asked for, in a variable; become twice, collected from all: plain. -/
namespace Go.Proofs.Ytmaeoefimkppoaa.Fl
set_option maxRecDepth 1000000
open Go.ChangeShapes Go.WideShapes Go.ChangeAt Go.RowKit
open Go.Proofs.Ytmaeoefimkppoaa.Wd

/-- The variable in block p holds the object o, in memory that nobody changes. -/
def Got (K : Nat → Prop) (w : World) (p : Nat) (o : Ob) : Prop := OkZ o ∧ K p ∧ ∃ a1 n1 c1 a2 n2 c2, Box p (.int .i64 o.c) (.int .i64 o.k) (.slice a1 n1 c1) (.slice a2 n2 c2) w ∧
  w.ownsRow 0 3 1 (.slice a1 n1 c1) o.w.length (o.w.map (Value.int .i64)) ∧ w.ownsRow 0 5 1 (.slice a2 n2 c2) o.b.length (o.b.map (Value.int .u8)) ∧
  (∀ g, (Value.slice a1 n1 c1).ownBlock = some g → K g) ∧ (∀ g, (Value.slice a2 n2 c2).ownBlock = some g → K g)
theorem Got.keeps {K : Nat → Prop} {w w' : World} {p : Nat} {o : Ob} (h : Got K w p o) (k : Keeps K w w') : Got K w' p o := by
  obtain ⟨h1, h2, a1, n1, c1, a2, n2, c2, hb, r1, r2, g1, g2⟩ := h
  exact ⟨h1, h2, a1, n1, c1, a2, n2, c2, hb.only k fun hn => hn h2, k.own r1 g1, k.own r2 g2, g1, g2⟩
theorem Got.mono {K K' : Nat → Prop} {w : World} {p : Nat} {o : Ob} (h : Got K w p o) (hk : ∀ g, K g → K' g) : Got K' w p o := by
  obtain ⟨h1, h2, a1, n1, c1, a2, n2, c2, hb, r1, r2, g1, g2⟩ := h
  exact ⟨h1, hk _ h2, a1, n1, c1, a2, n2, c2, hb, r1, r2, fun g hg => hk g (g1 g hg), fun g hg => hk g (g2 g hg)⟩
theorem Got.next {K : Nat → Prop} {w w' : World} {p : Nat} {o : Ob} (h : Got K w p o) (hb : Below w.heap.size w w') : Got K w' p o := h.keeps (Keeps.of_below hb)
theorem Got.lt {K : Nat → Prop} {w : World} {p : Nat} {o : Ob} (h : Got K w p o) : p < w.heap.size := by
  obtain ⟨_, _, _, _, _, _, _, _, hb, _⟩ := h
  exact hb.2.2
/-- What a load of the variable needs. -/
theorem Got.look {K : Nat → Prop} {w : World} {p : Nat} {o : Ob} (h : Got K w p o) : ∃ a1 n1 c1 a2 n2 c2, w.cell? ⟨p, 0, none⟩ = some (.int .i64 o.c) ∧ w.cell? ⟨p, 1, none⟩ = some (.int .i64 o.k) ∧ w.cell? ⟨p, 2, none⟩ = some (.slice a1 n1 c1) ∧ w.cell? ⟨p, 3, none⟩ = some (.slice a2 n2 c2) ∧
    Hid (ObjAt w (.agg #[.int .i64 o.c, .int .i64 o.k, .slice a1 n1 c1, .slice a2 n2 c2]) o) := by
  obtain ⟨h1, h2, a1, n1, c1, a2, n2, c2, ⟨⟨q0, q1, q2, q3⟩, _, _⟩, r1, r2, g1, g2⟩ := h
  exact ⟨a1, n1, c1, a2, n2, c2, q0, q1, q2, q3, OwnO.obj (q := 0) ⟨_, _, rfl, r1, r2⟩ h1⟩
theorem Got.short {K : Nat → Prop} {w : World} {p : Nat} {o : Ob} (h : Got K w p o) : Short o := by
  have := okZ_short h.1
  exact ⟨by omega, by omega⟩
theorem got_obj {w : World} {K : Nat → Prop} {m : Nat} {E : Mem} (h : MemB K w m E) (o : Int) (ho : In64 o) :
    Calls Try.prog 22 #[.pointer (some ⟨m, 0, none⟩), .int .i64 o] w fun e w' => ∃ a1 n1 c1 a2 n2 c2, e = .returned (.tuple #[.agg #[.int .i64 (objF E o).c, .int .i64 (objF E o).k, .slice a1 n1 c1, .slice a2 n2 c2], .int .i64 (errF E o)]) ∧
      Hid (∃ K', (∀ g, K g → K' g) ∧ MemB K' (w'.alloc (.cells #[.int .i64 (objF E o).c, .int .i64 (objF E o).k, .slice a1 n1 c1, .slice a2 n2 c2] 33)) m E ∧ Got K' (w'.alloc (.cells #[.int .i64 (objF E o).c, .int .i64 (objF E o).k, .slice a1 n1 c1, .slice a2 n2 c2] 33)) w'.heap.size (objF E o) ∧
        Below w.heap.size w (w'.alloc (.cells #[.int .i64 (objF E o).c, .int .i64 (objF E o).k, .slice a1 n1 c1, .slice a2 n2 c2] 33))) :=
  (obj_any h o ho).mono fun e w' ⟨v, he, hv, hb⟩ => by
    obtain ⟨z, u, rfl, g1, g2⟩ := hv
    obtain ⟨a1, c1, rfl⟩ := own_form g1
    obtain ⟨a2, c2, rfl⟩ := own_form g2
    refine ⟨_, _, _, _, _, _, he, fun g => K g ∨ (w.heap.size ≤ g ∧ g < w'.heap.size + 1), fun g hg => .inl hg, ?_, ⟨objF_okZ h.good o, .inr ⟨hb.size, Nat.lt_succ_self _⟩, _, _, _, _, _, _, box_new _ _ _ _ _, own_down (own_kept g1 (below_new _ _)) (Nat.zero_le _), own_down (own_kept g2 (below_new _ _)) (Nat.zero_le _), fun g hg => .inr ⟨(g1.lt g hg).1, Nat.lt_succ_of_lt (g1.lt g hg).2⟩, fun g hg => .inr ⟨(g2.lt g hg).1, Nat.lt_succ_of_lt (g2.lt g hg).2⟩⟩, hb.trans ((below_new _ _).mono hb.size)⟩
    exact h.keep (hb.trans ((below_new _ _).mono hb.size)) fun g hg => hg.imp id fun ⟨h1, h2⟩ => ⟨h1, by simpa using h2⟩
theorem err_two_ways (E : Mem) (o : Int) : (errF E o = 0 ∧ (at_ E (namV o)).isSome = true) ∨ (errF E o = 4 ∧ at_ E (namV o) = none) := by
  unfold errF
  cases h : at_ E (namV o) with
  | none => exact .inr ⟨rfl, rfl⟩
  | some x => exact .inl ⟨rfl, rfl⟩
theorem bec_twice {E : Mem} {a b : Int} (ha : (at_ E (namV a)).isSome = true) (hb : (at_ E (namV b)).isSome = true) :
    becE E a b = 0 ∧ objF (becF E a b) a = objF E b ∧ objF (becF E a b) b = objF E a ∧ becE (becF E a b) b a = 0 ∧ becF (becF E a b) b a = E := by
  obtain ⟨x, hx⟩ := Option.isSome_iff_exists.1 ha
  obtain ⟨y, hy⟩ := Option.isSome_iff_exists.1 hb
  have h0 : becE E a b = 0 := by unfold becE errF; rw [hx, hy]; rfl
  have hF : becF E a b = setAt (setAt E (namV a) (at_ E (namV b))) (namV b) (at_ E (namV a)) := by unfold becF; rw [if_pos h0]
  have ra := at_rng hx
  have rb := at_rng hy
  have h1 : ∀ k, at_ (becF E a b) k = if k = namV b then at_ E (namV a) else if k = namV a then at_ E (namV b) else at_ E k := fun k => by
    rw [hF, at_set _ _ rb.1 (by rw [set_len]; exact rb.2), at_set _ _ ra.1 ra.2]
  have hA : at_ (becF E a b) (namV a) = at_ E (namV b) := by
    rw [h1]
    by_cases e : namV a = namV b
    · rw [if_pos e, e]
    · rw [if_neg e, if_pos rfl]
  have hB : at_ (becF E a b) (namV b) = at_ E (namV a) := by rw [h1, if_pos rfl]
  have hl : (becF E a b).length = E.length := by rw [hF, set_len, set_len]
  have h2 : becE (becF E a b) b a = 0 := by unfold becE errF; rw [hA, hB, hx, hy]; rfl
  refine ⟨h0, by unfold objF; rw [hA], by unfold objF; rw [hB], h2, ?_⟩
  unfold becF at h2 ⊢
  rw [if_pos h0] at h2 ⊢
  rw [if_pos h2, ← hF, hA, hB]
  refine at_ext (by rw [set_len, set_len, hl]) fun k => ?_
  rw [at_set _ _ ra.1 (by rw [set_len, hl]; exact ra.2), at_set _ _ rb.1 (by rw [hl]; exact rb.2), h1]
  by_cases e1 : k = namV a
  · rw [if_pos e1, e1]
  · rw [if_neg e1]
    by_cases e2 : k = namV b
    · rw [if_pos e2, e2]
    · rw [if_neg e2, if_neg e2, if_neg e1]
theorem bec_not {E : Mem} {a b : Int} (h : at_ E (namV a) = none ∨ at_ E (namV b) = none) : becE E a b = 4 := by
  unfold becE errF
  rcases h with h | h
  · rw [h]; rfl
  · rw [h]; cases at_ E (namV a) <;> rfl
theorem refs_two : ∀ xs : List Int, (∀ x ∈ xs, 1 ≤ x ∧ x ≤ 1000000) → refsL (twoL xs) = xs
  | [], _ => rfl
  | x :: xs, h => by
    have hx := h x List.mem_cons_self
    have ih := refs_two xs fun y hy => h y (List.mem_cons_of_mem _ hy)
    have hb : namB (2 * x) = true := by unfold namB; simp; omega
    have hv := nam_two hx.1 hx.2
    unfold twoL refsL at ih ⊢
    rw [List.map_cons, List.filterMap_cons]
    simp only [hb, if_true, hv]
    rw [ih]
theorem coll_all {E : Mem} (hE : E.length ≤ 1000000) : refsL (twoL (ids E)) = ids E ∧ collF E (ids E) = E ∧ collN E (ids E) = 0 := by
  have h1 : collF E (ids E) = E := by
    unfold collF
    refine at_ext (mask_len _ _) fun i => ?_
    rw [at_mask]
    split
    · rfl
    · rename_i h
      cases hx : at_ E i with
      | none => rfl
      | some x => exact absurd (comesB_iff.2 (.root (mem_ids.2 (by rw [hx]; rfl)) (by rw [hx]; rfl))) h
  refine ⟨refs_two _ fun x hx => ?_, h1, ?_⟩
  · have := ids_rng hx
    omega
  · unfold collN
    rw [h1]; omega
theorem two_ok {xs : List Int} (h : ∀ x ∈ xs, 1 ≤ x ∧ x ≤ 1000000) : I64 (twoL xs) := fun y hy => by
  unfold twoL at hy
  obtain ⟨x, hx, rfl⟩ := List.mem_map.1 hy
  have := h x hx
  exact ⟨by omega, by omega⟩
/-- Behind something that was done: the memory, what may not be changed, and that the law's own caller's memory is as it was. -/
def St (W W0 : World) (K : Nat → Prop) (w : World) (m : Nat) (E : Mem) : Prop := MemB K w m E ∧ (∀ g, g < W.heap.size → K g) ∧ Keeps (· < W.heap.size) W0 w
theorem st_obj {W W0 w : World} {K : Nat → Prop} {m : Nat} {E : Mem} (h : St W W0 K w m E) (o : Int) (ho : In64 o) :
    Calls Try.prog 22 #[.pointer (some ⟨m, 0, none⟩), .int .i64 o] w fun e w' => ∃ a1 n1 c1 a2 n2 c2, e = .returned (.tuple #[.agg #[.int .i64 (objF E o).c, .int .i64 (objF E o).k, .slice a1 n1 c1, .slice a2 n2 c2], .int .i64 (errF E o)]) ∧
      Hid (∃ K', St W W0 K' (w'.alloc (.cells #[.int .i64 (objF E o).c, .int .i64 (objF E o).k, .slice a1 n1 c1, .slice a2 n2 c2] 33)) m E ∧ (∀ p x, Got K w p x → Got K' (w'.alloc (.cells #[.int .i64 (objF E o).c, .int .i64 (objF E o).k, .slice a1 n1 c1, .slice a2 n2 c2] 33)) p x) ∧
        Got K' (w'.alloc (.cells #[.int .i64 (objF E o).c, .int .i64 (objF E o).k, .slice a1 n1 c1, .slice a2 n2 c2] 33)) w'.heap.size (objF E o)) :=
  (got_obj h.1 o ho).mono fun e w' ⟨a1, n1, c1, a2, n2, c2, he, G⟩ => by
    obtain ⟨K', i, hm, hg, hb⟩ := G.out
    exact ⟨_, _, _, _, _, _, he, K', ⟨hm, fun g hg => i g (h.2.1 g hg), h.2.2.trans (Keeps.of_below hb)⟩, fun p x hx => (hx.next hb).mono i, hg⟩
theorem st_bec {W W0 w : World} {K : Nat → Prop} {m : Nat} {E : Mem} (h : St W W0 K w m E) (a b : Int) (ha : In64 a) (hb : In64 b) :
    Calls Try.prog 28 #[.pointer (some ⟨m, 0, none⟩), .int .i64 a, .int .i64 b] w fun e w' => e = .returned (.int .i64 (becE E a b)) ∧ Hid (St W W0 K w' m (becF E a b) ∧ ∀ p x, Got K w p x → Got K w' p x) :=
  (become_any h.1 a b ha hb).mono fun _ _ ⟨he, hm, hk⟩ => ⟨he, ⟨hm, h.2.1, h.2.2.trans (hk.mono h.2.1)⟩, fun _ _ hx => hx.keeps hk⟩
theorem st_next {W W0 w w' : World} {K : Nat → Prop} {m : Nat} {E : Mem} (h : St W W0 K w m E) (hb : Below w.heap.size w w') : St W W0 K w' m E := ⟨h.1.fresh hb, h.2.1, h.2.2.trans (Keeps.of_below hb)⟩
/-- A row that was told stays, whatever the memory does. -/
def Rw (K : Nat → Prop) (w : World) (v : Value) (xs : List Int) : Prop := w.ownsRow 0 3 1 v xs.length (xs.map (Value.int .i64)) ∧ I64 xs ∧ ∀ g, v.ownBlock = some g → K g
theorem Rw.keeps {K : Nat → Prop} {w w' : World} {v : Value} {xs : List Int} (h : Rw K w v xs) (k : Keeps K w w') : Rw K w' v xs := ⟨k.own h.1 h.2.2, h.2⟩
theorem Rw.row {K : Nat → Prop} {w : World} {v : Value} {xs : List Int} (h : Rw K w v xs) : RowI w v xs := RowI.own h.1 h.2.1
theorem Rw.mono {K K' : Nat → Prop} {w : World} {v : Value} {xs : List Int} (h : Rw K w v xs) (hk : ∀ g, K g → K' g) : Rw K' w v xs := ⟨h.1, h.2.1, fun g hg => hk g (h.2.2 g hg)⟩
theorem ids_two {E : Mem} (hE : E.length ≤ 1000000) : I64 (twoL (ids E)) := two_ok fun x hx => by have := ids_rng hx; omega
theorem st_all {W W0 w : World} {K : Nat → Prop} {m : Nat} {E : Mem} (h : St W W0 K w m E) :
    Calls Try.prog 19 #[ifM m] w fun e w' => ∃ a c, e = .returned (.slice a (twoL (ids E)).length c) ∧ Hid (∃ K', St W W0 K' w' m E ∧ (∀ g, K g → K' g) ∧ Keeps K w w' ∧ Rw K' w' (.slice a (twoL (ids E)).length c) (twoL (ids E))) :=
  (all_any h.1).mono fun e w' ⟨v, he, hv, hb⟩ => by
    obtain ⟨a, c, rfl⟩ := own_form hv
    refine ⟨a, c, he, fun g => K g ∨ (w.heap.size ≤ g ∧ g < w'.heap.size), ⟨h.1.keep hb fun g hg => hg, fun g hg => .inl (h.2.1 g hg), h.2.2.trans (Keeps.of_below hb)⟩, fun g hg => .inl hg, Keeps.of_below hb, own_down hv (Nat.zero_le _), ids_two h.1.few, fun g hg => .inr (hv.lt g hg)⟩
theorem st_coll {W W0 w : World} {K : Nat → Prop} {m : Nat} {E : Mem} (h : St W W0 K w m E) (v : Value) (xs : List Int) (hv : RowI w v xs) (hl : xs.length ≤ 1000) :
    Calls Try.prog 29 #[.pointer (some ⟨m, 0, none⟩), v] w fun e w' => e = .returned (.tuple #[.int .i64 (collN E (refsL xs)), .int .i64 0]) ∧ Hid (St W W0 K w' m (collF E (refsL xs)) ∧ Keeps K w w') :=
  (collect_any h.1 v xs hv hl).mono fun _ _ ⟨he, hm, hk⟩ => ⟨he, ⟨hm, h.2.1, h.2.2.trans (hk.mono h.2.1)⟩, hk⟩
theorem same_got {w : World} {v1 v2 : Value} {a : Ob} (h1 : ObjAt w v1 a) (h2 : ObjAt w v2 a) (hs : Short a) : Calls Try.prog 25 #[v1, v2] w fun e w' => e = .returned (.bool true) ∧ Below w.heap.size w w' :=
  (same_ref v1 v2 a a w h1 h2 hs hs).mono fun e w' ⟨he, hb⟩ => ⟨by rw [he, sameO_self], hb⟩
end Go.Proofs.Ytmaeoefimkppoaa.Fl

/- The chapter's memory: its objects in a row, what 'find' tells. -/
namespace Go.Proofs.Ytmaeoefimkppoaa.Fl
set_option maxRecDepth 1000000
open Go.ChangeShapes Go.WideShapes Go.ChangeAt Go.RowKit
open Go.Proofs.Ytmaeoefimkppoaa.Wd

/-- An object of the chapter's memory, with the slice values of its words and bytes. -/
abbrev RO := Ob × Value × Value
def roV (p : RO) : Value := .agg #[.int .i64 p.1.c, .int .i64 p.1.k, p.2.1, p.2.2]
def cells4 (p : RO) : List Value := [.int .i64 p.1.c, .int .i64 p.1.k, p.2.1, p.2.2]
def flat4 (L : List RO) : List Value := L.flatMap cells4
theorem flat4_cons (p : RO) (L : List RO) : flat4 (p :: L) = cells4 p ++ flat4 L := by simp [flat4]
theorem flat4_append (L M : List RO) : flat4 (L ++ M) = flat4 L ++ flat4 M := by simp [flat4]
theorem flat4_len (L : List RO) : (flat4 L).length = L.length * 4 := by
  induction L with
  | nil => rfl
  | cons x xs ih => rw [flat4_cons]; simp [cells4, ih]; omega
theorem flat4_at : ∀ (L : List RO) (i : Nat) (p : RO), L[i]? = some p → ∀ j, j < 4 → (flat4 L)[i * 4 + j]? = (cells4 p)[j]?
  | [], i, p, h, _, _ => by simp at h
  | y :: L, 0, p, h, j, hj => by
    simp at h
    subst h
    rw [flat4_cons, List.getElem?_append_left (by simp [cells4]; omega)]
    simp
  | y :: L, i + 1, p, h, j, hj => by
    have ih := flat4_at L i p (by simpa using h) j hj
    rw [flat4_cons, List.getElem?_append_right (by simp [cells4]; omega), ← ih]
    congr 1
    simp [cells4]
    omega
/-- An object in memory that nobody changes: its rows lie in blocks of the kind N. -/
structure RIn (N : Nat → Prop) (w : World) (p : RO) : Prop where
  ok : OkZ p.1
  rw : w.ownsRow 0 3 1 p.2.1 p.1.w.length (p.1.w.map (Value.int .i64))
  rb : w.ownsRow 0 5 1 p.2.2 p.1.b.length (p.1.b.map (Value.int .u8))
  nw : ∀ g, p.2.1.ownBlock = some g → N g
  nb : ∀ g, p.2.2.ownBlock = some g → N g
section
variable {N M F : Nat → Prop} {w w' : World} {p : RO} {v : Value} {L : List RO}
theorem RIn.only (h : RIn N w p) (o : Only F w w') (hF : ∀ b, N b → ¬ F b) : RIn N w' p :=
  ⟨h.ok, own_only h.rw o fun g hg => hF g (h.nw g hg), own_only h.rb o fun g hg => hF g (h.nb g hg), h.nw, h.nb⟩
theorem RIn.fresh (h : RIn N w p) (b : Below w.heap.size w w') : RIn N w' p := h.only (only_below b) fun _ _ h => h
theorem RIn.kind (h : RIn N w p) (hM : ∀ b, b < w.heap.size → N b → M b) : RIn M w p :=
  ⟨h.ok, h.rw, h.rb, fun g hg => hM g (own_lt h.rw hg) (h.nw g hg), fun g hg => hM g (own_lt h.rb hg) (h.nb g hg)⟩
theorem RIn.obj (h : RIn N w p) : ObjAt w (roV p) p.1 := OwnO.obj (q := 0) ⟨_, _, rfl, h.rw, h.rb⟩ h.ok
theorem RIn.form (h : RIn N w p) : ∃ a1 c1 a2 c2, p.2.1 = .slice a1 p.1.w.length c1 ∧ p.2.2 = .slice a2 p.1.b.length c2 := by
  obtain ⟨a1, c1, h1⟩ := own_form h.rw
  obtain ⟨a2, c2, h2⟩ := own_form h.rb
  exact ⟨a1, c1, a2, c2, h1, h2⟩
theorem RIn.one (h : RIn N w p) : ∀ u ∈ cells4 p, u.oneCell' = true := by
  obtain ⟨a1, c1, a2, c2, h1, h2⟩ := h.form
  intro u hu
  simp [cells4] at hu
  rcases hu with rfl | rfl | rfl | rfl
  · rfl
  · rfl
  · rw [h1]; rfl
  · rw [h2]; rfl
theorem zero_in (N : Nat → Prop) (w : World) : RIn N w (zeroO, .slice none 0 0, .slice none 0 0) :=
  ⟨.inl rfl, World.ownsRow_nil _ _ _ _, World.ownsRow_nil _ _ _ _, fun g hg => (by cases hg), fun g hg => (by cases hg)⟩
/-- The slice value v has the objects L; all of it lies in blocks of the kind N. -/
def RmV (N : Nat → Prop) (w : World) (v : Value) (L : List RO) : Prop :=
  ∃ a c, v = .slice a L.length c ∧ L.length ≤ c ∧ (∀ p ∈ L, RIn N w p) ∧
    (L = [] ∨ ∃ b off, a = some ⟨b, off, none⟩ ∧ N b ∧ ∀ j u, (flat4 L)[j]? = some u → w.cell? ⟨b, off + j, none⟩ = some u)
theorem RmV.only (h : RmV N w v L) (o : Only F w w') (hF : ∀ b, N b → ¬ F b) : RmV N w' v L := by
  obtain ⟨a, c, hv, hc, hb, h⟩ := h
  refine ⟨a, c, hv, hc, fun p hp => (hb p hp).only o hF, h.imp id ?_⟩
  rintro ⟨b, off, ha, hN, h⟩
  exact ⟨b, off, ha, hN, fun j u hu => (Only.cell o (p := ⟨b, off + j, none⟩) (World.block_lt_of_cell? _ _ (h j u hu)) (hF b hN)).trans (h j u hu)⟩
theorem RmV.fresh (h : RmV N w v L) (b : Below w.heap.size w w') : RmV N w' v L := h.only (only_below b) fun _ _ h => h
theorem RmV.keeps (h : RmV N w v L) (k : Keeps N w w') : RmV N w' v L := h.only k fun _ hb hn => hn hb
theorem RmV.kind (h : RmV N w v L) (hM : ∀ b, b < w.heap.size → N b → M b) : RmV M w v L := by
  obtain ⟨a, c, hv, hc, hb, h⟩ := h
  by_cases hL : L = []
  · exact ⟨a, c, hv, hc, fun p hp => (by rw [hL] at hp; cases hp), .inl hL⟩
  · obtain ⟨b, off, ha, hN, h⟩ := h.resolve_left hL
    refine ⟨a, c, hv, hc, fun p hp => (hb p hp).kind hM, .inr ⟨b, off, ha, hM b ?_ hN, h⟩⟩
    obtain ⟨p, t, rfl⟩ := List.exists_cons_of_ne_nil hL
    exact World.block_lt_of_cell? _ _ (h 0 (.int .i64 p.1.c) (by rw [flat4_cons]; rfl))
theorem RmV.mono (h : RmV N w v L) (hM : ∀ b, N b → M b) : RmV M w v L := h.kind fun b _ hb => hM b hb
theorem RmV.form (h : RmV N w v L) : ∃ a c, v = .slice a L.length c := by
  obtain ⟨a, c, hv, _⟩ := h
  exact ⟨a, c, hv⟩
theorem RmV.each (h : RmV N w v L) {p : RO} (hp : p ∈ L) : RIn N w p := by
  obtain ⟨_, _, _, _, hb, _⟩ := h
  exact hb p hp
theorem rmv_nil (N : Nat → Prop) (w : World) : RmV N w (.slice none 0 0) [] := ⟨none, 0, rfl, Nat.le_refl _, fun p hp => (by cases hp), .inl rfl⟩
/-- The object behind i others, in memory. -/
structure RowAt (N : Nat → Prop) (w : World) (b off i : Nat) (p : RO) : Prop where
  c0 : w.cell? ⟨b, off + i * 4, none⟩ = some (.int .i64 p.1.c)
  c1 : w.cell? ⟨b, off + i * 4 + 1, none⟩ = some (.int .i64 p.1.k)
  c2 : w.cell? ⟨b, off + i * 4 + 2, none⟩ = some p.2.1
  c3 : w.cell? ⟨b, off + i * 4 + 3, none⟩ = some p.2.2
  ob : RIn N w p
theorem RmV.at_ (h : RmV N w v L) (i : Nat) (hi : i < L.length) : ∃ b off c, v = .slice (some ⟨b, off, none⟩) L.length c ∧ N b ∧ RowAt N w b off i L[i] := by
  obtain ⟨a, c, hv, _, ho, h⟩ := h
  obtain ⟨b, off, rfl, hN, h⟩ := h.resolve_left (fun e => by subst e; simp at hi)
  have hg := flat4_at L i L[i] (List.getElem?_eq_getElem hi)
  have g := fun (j : Nat) (hj : j < 4) (u : Value) (hu : (cells4 L[i])[j]? = some u) => h (i * 4 + j) u ((hg j hj).trans hu)
  exact ⟨b, off, c, hv, hN, g 0 (by omega) _ rfl, g 1 (by omega) _ rfl, g 2 (by omega) _ rfl, g 3 (by omega) _ rfl, ho _ (List.getElem_mem hi)⟩
theorem RmV.okz (h : RmV N w v L) (i : Nat) (hi : i < L.length) : OkZ L[i].1 := (h.each (List.getElem_mem hi)).ok
end
/-- The memory that the objects are: those without a kind are gone. -/
def memR (L : List RO) : Mem := L.map fun p => if p.1.k = 0 then none else some p.1
theorem memR_len (L : List RO) : (memR L).length = L.length := by simp [memR]
theorem memR_app (L M : List RO) : memR (L ++ M) = memR L ++ memR M := by simp [memR]
theorem memR_at (L : List RO) (j : Nat) (hj : j < L.length) : at_ (memR L) ((j + 1 : Nat) : Int) = if L[j].1.k = 0 then none else some L[j].1 := by
  rw [at_get]
  unfold memR
  rw [List.getElem?_map, List.getElem?_eq_getElem hj]
  rfl
theorem memR_set (L : List RO) (j : Nat) (_hj : j < L.length) (p : RO) : memR (L.set j p) = setAt (memR L) ((j + 1 : Nat) : Int) (if p.1.k = 0 then none else some p.1) := by
  unfold memR setAt
  rw [List.map_set, show (((j + 1 : Nat) : Int) - 1).toNat = j by omega]
theorem okz_zero {o : Ob} (h : OkZ o) (hk : o.k = 0) : o = zeroO := by
  rcases h with h | ⟨h, _⟩
  · exact h
  · rcases ((okO_iff o).1 h).2 with ⟨h1, _⟩ | ⟨h1, _⟩ <;> omega
theorem okz_ok {o : Ob} (h : OkZ o) (hk : o.k ≠ 0) : okO o = true ∧ ByL o.b ∧ (o.k = 1 ∨ o.k = 2) := by
  rcases h with h | ⟨h, hb⟩
  · rw [h] at hk; exact absurd rfl hk
  · refine ⟨h, hb, ?_⟩
    rcases ((okO_iff o).1 h).2 with ⟨h1, _⟩ | ⟨h1, _⟩
    · exact .inl h1
    · exact .inr h1
theorem ok_kind {o : Ob} (h : okO o = true) : o.k = 1 ∨ o.k = 2 := by
  rcases ((okO_iff o).1 h).2 with ⟨h1, _⟩ | ⟨h1, _⟩
  · exact .inl h1
  · exact .inr h1
/-- Where a name leads: nowhere, to what is gone, or to an object. -/
theorem name_ways (L : List RO) (o : Int) : (namB o = false ∧ namV o = 0 ∧ at_ (memR L) (namV o) = none) ∨ (namB o = true ∧ (L.length : Int) < namV o ∧ at_ (memR L) (namV o) = none) ∨
    ∃ (j : Nat) (hj : j < L.length), namB o = true ∧ namV o = ((j + 1 : Nat) : Int) ∧ at_ (memR L) (namV o) = if L[j].1.k = 0 then none else some L[j].1 := by
  cases hb : namB o with
  | false =>
    have h0 : namV o = 0 := by unfold namV; rw [hb]; rfl
    exact .inl ⟨rfl, h0, by rw [h0]; exact at_none (by omega)⟩
  | true =>
    obtain ⟨h1, h2, h3⟩ := nam_rng hb
    have hv : namV o = o / 2 := by unfold namV; rw [if_pos hb]
    by_cases hl : (L.length : Int) < namV o
    · exact .inr (.inl ⟨rfl, hl, at_none (by rw [memR_len]; omega)⟩)
    · refine .inr (.inr ⟨(namV o - 1).toNat, by omega, rfl, by omega, ?_⟩)
      have := memR_at L (namV o - 1).toNat (by omega)
      rw [show (((namV o - 1).toNat + 1 : Nat) : Int) = namV o by omega] at this
      exact this
def Fnd (E : Mem) (o : Int) (w : World) (e : Ending) (w' : World) : Prop := e = .returned (.int .i64 (idF E o)) ∧ Below w.heap.size w w'
set_option maxHeartbeats 2000000 in
theorem find10_any {N : Nat → Prop} {w : World} {v : Value} {L : List RO} (h : RmV N w v L) (hl : L.length ≤ 1000000) (o : Int) (ho : In64 o) :
    Calls Try.prog 41 #[.agg #[v], .int .i64 o] w (Fnd (memR L) o w) := by
  have HN := Lib.hid (fun w => named_ref o w ho.1 ho.2)
  have HB := Lib.hid (below_new w (.cells #[v] 29))
  have HV := Lib.hid (h.fresh (below_new w (.cells #[v] 29)))
  obtain ⟨a, c, rfl⟩ := h.form
  have hx : (w.alloc (.cells #[.slice a L.length c] 29)).cell? ⟨w.heap.size, 0, none⟩ = some (.slice a L.length c) := by rw [World.cell?_alloc_at _ _ _ _ rfl]; rfl
  clear h
  rcases name_ways L o with ⟨h1, h2, h3⟩ | ⟨h1, h2, h3⟩ | ⟨j, hj, h1, h2, h3⟩
  · have e : idF (memR L) o = 0 := by unfold idF; rw [h3]; rfl
    rw [h1, h2] at HN
    unfold Fnd
    rw [e]
    clear h1 h2 h3 e
    go_enter Try.func41, Try.ntmps41
    go_wp2_with (go_at_call 52; refine (HN.out _).mono ?_; rintro e w1 ⟨rfl, rfl⟩)
    go_ret
    exact ⟨rfl, HB.out⟩
  · have e : idF (memR L) o = 0 := by unfold idF; rw [h3]; rfl
    rw [h1] at HN
    unfold Fnd
    rw [e]
    clear h1 h3 e
    generalize namV o = z at *
    go_enter Try.func41, Try.ntmps41
    go_wp2_with (go_at_call 52; refine (HN.out _).mono ?_; rintro e w1 ⟨rfl, rfl⟩)
    go_ret
    exact ⟨rfl, HB.out⟩
  · obtain ⟨b, off, c', he, _, hr⟩ := HV.out.at_ j hj
    injection he with e1 e2 e3
    subst e1 e3
    have q1 := hr.c1
    have hE : idF (memR L) o = if L[j].1.k = 0 then 0 else ((j + 1 : Nat) : Int) := by
      unfold idF
      rw [h3, h2]
      by_cases hk : L[j].1.k = 0
      · rw [if_pos hk, if_pos hk]; rfl
      · rw [if_neg hk, if_neg hk]; rfl
    unfold Fnd
    rw [hE]
    rw [h1, h2] at HN
    clear h1 h2 h3 hE hr e2
    obtain ⟨z, hz⟩ : ∃ z : Int, ((j + 1 : Nat) : Int) = z := ⟨_, rfl⟩
    rw [hz] at HN ⊢
    have hzl : decide ((L.length : Int) < z) = false := decide_eq_false (by omega)
    have hzw : IntKind.i64.wrap (z - 1) = (j : Int) := by rw [IntKind.wrap_i64]; omega
    have hjl : (j : Int) < L.length := by omega
    clear hz
    by_cases hk : L[j].1.k = 0
    · rw [if_pos hk]
      rw [hk] at q1
      clear hk
      go_enter Try.func41, Try.ntmps41
      go_wp2_with (go_at_call 52; refine (HN.out _).mono ?_; rintro e w1 ⟨rfl, rfl⟩)
      go_ret
      exact ⟨rfl, HB.out⟩
    · rw [if_neg hk]
      have hk2 : (L[j].1.k == 0) = false := by simpa using hk
      clear hk
      generalize L[j].1.k = kk at *
      go_enter Try.func41, Try.ntmps41
      go_wp2_with (go_at_call 52; refine (HN.out _).mono ?_; rintro e w1 ⟨rfl, rfl⟩)
      go_ret
      exact ⟨rfl, HB.out⟩
end Go.Proofs.Ytmaeoefimkppoaa.Fl
