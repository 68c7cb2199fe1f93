/- What a heap of package heap is in memory; what its functions none, find, Size, At do. -/
import Derived.Test.YtgfjfpfhalblgaaHMc
namespace Go.Proofs.Ytgfjfpfhalblgaa
set_option maxRecDepth 1000000
open Go.ChangeShapes Go.WideShapes Go.ChangeAt Go.RowKit

/-- The block of the words, and the block of the heap itself. -/
structure Hp where
  x : Nat
  h : Nat
def spA (o : Option Bk) : Int := match o with | none => -1 | some b => b.a
def spL (o : Option Bk) : Int := match o with | none => -1 | some b => b.ws.length
def cellsB : List (Option Bk) → List Value
  | [] => []
  | o :: r => .int .i64 (spA o) :: .int .i64 (spL o) :: cellsB r
theorem cellsB_len (B : List (Option Bk)) : (cellsB B).length = B.length * 2 := by
  induction B with
  | nil => rfl
  | cons o r ih => simp only [cellsB, List.length_cons, ih]; omega
theorem cellsB_get : ∀ {B : List (Option Bk)} {k : Nat}, k < B.length → (cellsB B)[k * 2]? = some (.int .i64 (spA (look B k))) ∧ (cellsB B)[k * 2 + 1]? = some (.int .i64 (spL (look B k)))
  | [], k, h => by simp at h
  | o :: r, 0, _ => ⟨rfl, rfl⟩
  | o :: r, k + 1, h => by
    have := cellsB_get (B := r) (k := k) (by simpa using h)
    rw [show (k + 1) * 2 = k * 2 + 1 + 1 by omega, look_succ]
    simp only [cellsB, List.getElem?_cons_succ]
    exact this
theorem cellsB_set : ∀ {B : List (Option Bk)} {k : Nat} {o : Option Bk}, k < B.length → cellsB (B.set k o) = ((cellsB B).set (k * 2) (.int .i64 (spA o))).set (k * 2 + 1) (.int .i64 (spL o))
  | [], k, o, h => by simp at h
  | o' :: r, 0, o, _ => rfl
  | o' :: r, k + 1, o, h => by
    have := cellsB_set (B := r) (k := k) (o := o) (by simpa using h)
    rw [show (k + 1) * 2 = k * 2 + 1 + 1 by omega]
    simp only [List.set_cons_succ, cellsB, this]
theorem cellsB_snoc (B : List (Option Bk)) (o : Option Bk) : cellsB (B ++ [o]) = cellsB B ++ [.int .i64 (spA o), .int .i64 (spL o)] := by
  induction B with
  | nil => rfl
  | cons p r ih => simp only [List.cons_append, cellsB, ih]

/-- The heap c in memory: n words that are V; its blocks are B (their row is the slice v); the least number that no block has is nx. -/
structure HeapM (w : World) (c : Hp) (v : Value) (n : Nat) (B : List (Option Bk)) (nx : Nat) (V : Nat → Int) : Prop where
  c0 : w.cell? ⟨c.h, 0, none⟩ = some (.slice (some ⟨c.x, 0, none⟩) n n)
  c1 : w.cell? ⟨c.h, 1, none⟩ = some v
  c2 : w.cell? ⟨c.h, 2, none⟩ = some (.int .i64 nx)
  fz : ∀ j, w.frozen? ⟨c.h, j, none⟩ = false
  own : w.ownsRow (c.h + 1) 58 2 v B.length (cellsB B)
  row : RowV w c.x n V
  ord : c.x < c.h
  lt : c.h < w.heap.size
  small : n ≤ 32768
  few : B.length ≤ 3000000000000
/-- A heap that is right. -/
structure HeapAt (w : World) (c : Hp) (v : Value) (n : Nat) (B : List (Option Bk)) : Prop where
  m : HeapM w c v n B (nextB B) (wordAt B)
  good : GoodB n B
/-- The blocks of memory that a heap may change. -/
def HF (c : Hp) (v : Value) : Nat → Prop := fun k => k = c.x ∨ k = c.h ∨ v.ownBlock = some k
theorem own_only2 {w w' : World} {base n s : Nat} {e : TypeId} {v : Value} {xs : List Value} {F : Nat → Prop} (h : w.ownsRow base e s v n xs) (o : Only F w w') (hF : ∀ b, v.ownBlock = some b → ¬ F b) : w'.ownsRow base e s v n xs :=
  ⟨h.1, h.2.imp id fun ⟨g, cap, cur, h1, h2, h3, h4⟩ => ⟨g, cap, cur, h1, h2, (o.block g (Array.getElem?_eq_some_iff.1 h3).1 (hF g (by rw [h1]; rfl))).trans h3, h4⟩⟩
section
variable {w w' : World} {c : Hp} {v : Value} {n nx : Nat} {B : List (Option Bk)} {V : Nat → Int} {F : Nat → Prop}
theorem HeapM.only (h : HeapM w c v n B nx V) (b : Only F w w') (hF : ∀ k, HF c v k → ¬ F k) : HeapM w' c v n B nx V := by
  have hh := hF c.h (.inr (.inl rfl))
  exact ⟨(b.cell (p := ⟨c.h, 0, none⟩) h.lt hh).trans h.c0, (b.cell (p := ⟨c.h, 1, none⟩) h.lt hh).trans h.c1, (b.cell (p := ⟨c.h, 2, none⟩) h.lt hh).trans h.c2, fun j => (b.frozen (p := ⟨c.h, j, none⟩) h.lt hh).trans (h.fz j),
    own_only2 h.own b fun k hk => hF k (.inr (.inr hk)), h.row.only b (hF c.x (.inl rfl)), h.ord, Nat.lt_of_lt_of_le h.lt b.size, h.small, h.few⟩
theorem HeapM.fresh (h : HeapM w c v n B nx V) (b : Below w.heap.size w w') : HeapM w' c v n B nx V := h.only (F := fun _ => False) (Only.of_below b) (fun _ _ h => h)
theorem HeapAt.only (h : HeapAt w c v n B) (b : Only F w w') (hF : ∀ k, HF c v k → ¬ F k) : HeapAt w' c v n B := ⟨h.m.only b hF, h.good⟩
theorem HeapAt.fresh (h : HeapAt w c v n B) (b : Below w.heap.size w w') : HeapAt w' c v n B := ⟨h.m.fresh b, h.good⟩
theorem HeapM.form (h : HeapM w c v n B nx V) : ∃ a cap, v = .slice a B.length cap ∧ B.length ≤ cap := by
  rcases h.own.2 with ⟨rfl, h0⟩ | ⟨g, cap, cur, rfl, _, _, hn, _⟩
  · exact ⟨none, 0, by rw [h0], by omega⟩
  · exact ⟨_, cap, rfl, hn⟩
/-- The row of the blocks, where there is any. -/
theorem HeapM.rows (h : HeapM w c v n B nx V) {k : Nat} (hk : k < B.length) : ∃ g cap, v = .slice (some ⟨g, 0, none⟩) B.length cap ∧ B.length ≤ cap ∧ c.h < g ∧ g < w.heap.size ∧
    w.cell? ⟨g, k * 2, none⟩ = some (.int .i64 (spA (look B k))) ∧ w.cell? ⟨g, k * 2 + 1, none⟩ = some (.int .i64 (spL (look B k))) ∧ ∀ j, w.frozen? ⟨g, j, none⟩ = false := by
  have hown := h.own
  rcases h.own.2 with ⟨rfl, h0⟩ | ⟨g, cap, cur, rfl, hb, hg, hn, _⟩
  · omega
  · obtain ⟨e1, e2⟩ := cellsB_get hk
    exact ⟨g, cap, rfl, hn, hb, (Array.getElem?_eq_some_iff.1 hg).1, (hown.cellAt _ (by omega)).trans e1, (hown.cellAt _ (by omega)).trans e2, fun j => hown.frozenAt j⟩
theorem HF_lt (h : HeapM w c v n B nx V) : ∀ k, HF c v k → k < w.heap.size := by
  have := h.ord
  have := h.lt
  rintro k (rfl | rfl | hk)
  · omega
  · omega
  · exact (h.own.lt k hk).2
end

/-- A block of memory that holds two numbers. -/
structure Box2 (w : World) (b : Nat) (x y : Int) : Prop where
  c0 : w.cell? ⟨b, 0, none⟩ = some (.int .i64 x)
  c1 : w.cell? ⟨b, 1, none⟩ = some (.int .i64 y)
  fz : w.frozen? ⟨b, 0, none⟩ = false ∧ w.frozen? ⟨b, 1, none⟩ = false
theorem box_new (w : World) (x y : Int) (t : TypeId) : Box2 (w.alloc (.cells #[.int .i64 x, .int .i64 y] t)) w.heap.size x y :=
  ⟨by rw [World.cell?_alloc_at _ _ _ _ rfl]; rfl, by rw [World.cell?_alloc_at _ _ _ _ rfl]; rfl, by
    have h : (w.alloc (.cells #[.int .i64 x, .int .i64 y] t)).heap[w.heap.size]? = some (.cells #[.int .i64 x, .int .i64 y] t) := heap_alloc_new w _
    unfold World.frozen?
    simp only [h]
    simp⟩
theorem load_box {w : World} {b : Nat} {x y : Int} (h : Box2 w b x y) : (loadVar 58 ⟨b, 0, none⟩).run Try.prog w = .ok (.agg #[.int .i64 x, .int .i64 y]) w := by
  obtain ⟨h1, h2, _⟩ := h
  go_simp
theorem res_box {fn : Func} {p : Tmp} (h : fn.results = #[.cell p 58]) {tmps : Array Value} {w : World} {b : Nat} {x y : Int} (hp : tmps.getD p undef = .pointer (some ⟨b, 0, none⟩)) (hb : Box2 w b x y) :
    (results fn tmps).run Try.prog w = .ok (.agg #[.int .i64 x, .int .i64 y]) w := by
  simp only [results, h]
  rw [Array.getD_eq_getD_getElem?] at hp
  simp [hp, asAddr, load_box hb]
theorem Box2.fresh {w w' : World} {b : Nat} {x y : Int} (h : Box2 w b x y) (hb : Below w.heap.size w w') : Box2 w' b x y := by
  have hl := World.block_lt_of_cell? _ _ h.c0
  exact ⟨(hb.cell (p := ⟨b, 0, none⟩) hl).trans h.c0, (hb.cell (p := ⟨b, 1, none⟩) hl).trans h.c1, (hb.frozen (p := ⟨b, 0, none⟩) hl).trans h.fz.1, (hb.frozen (p := ⟨b, 1, none⟩) hl).trans h.fz.2⟩

theorem Box2.put {w : World} {b : Nat} {x y : Int} (h : Box2 w b x y) (x' y' : Int) : Box2 ((w.setCell ⟨b, 0, none⟩ (.int .i64 x')).setCell ⟨b, 1, none⟩ (.int .i64 y')) b x' y' := by
  refine ⟨?_, ?_, ?_, ?_⟩
  · rw [World.cell?_setCell_other _ _ _ _ (by simp), World.cell?_setCell_same _ _ _ h.c0]
  · rw [World.cell?_setCell_same _ _ _ ((World.cell?_setCell_other _ _ _ _ (by simp)).trans h.c1)]
  · rw [World.frozen?_setCell, World.frozen?_setCell]; exact h.fz.1
  · rw [World.frozen?_setCell, World.frozen?_setCell]; exact h.fz.2
theorem put2_only {w w0 : World} {b : Nat} {F : Nat → Prop} {u u' : Value} (h : Only F w0 w) (hp : F b ∨ w0.heap.size ≤ b) : Only F w0 ((w.setCell ⟨b, 0, none⟩ u).setCell ⟨b, 1, none⟩ u') :=
  (h.setCell ⟨b, 0, none⟩ hp _).setCell ⟨b, 1, none⟩ hp _
/-- The end of a function that puts two numbers into its own box. -/
theorem told_put {w w1 : World} {x y : Int} {t : TypeId} (hb : Below (w.heap.size + 1) (w.alloc (.cells #[.int .i64 0, .int .i64 0] t)) w1) :
    Box2 w1 w.heap.size 0 0 ∧ Below w.heap.size w ((w1.setCell ⟨w.heap.size, 0, none⟩ (.int .i64 x)).setCell ⟨w.heap.size, 1, none⟩ (.int .i64 y)) :=
  ⟨(box_new w 0 0 t).fresh (by simpa using hb), ((((Below.refl _ _).alloc (Nat.le_refl _) _).trans (hb.mono (by omega))).setCell (by simp) _).setCell (by simp) _⟩

/-- Numbers x, y are told, and nothing that was there has changed. -/
def Told2 (x y : Int) (w : World) (e : Ending) (w' : World) : Prop := e = .returned (.agg #[.int .i64 x, .int .i64 y]) ∧ Below w.heap.size w w'
theorem none_any (w : World) : Calls Try.prog 26 #[] w (Told2 (-1) (-1) w) := by
  go_enter Try.func26, Try.ntmps26
  go_wp2
  exact bodyPost_ret (res_box rfl rfl (box_new w (-1) (-1) 58)) rfl ⟨rfl, (Below.refl _ _).alloc (Nat.le_refl _) _⟩
/-- The block with the number k, if k is one. -/
def lookI (B : List (Option Bk)) (k : Int) : Option Bk := if k < 0 then none else look B k.toNat
theorem lookI_neg {B : List (Option Bk)} {k : Int} (h : k < 0) : lookI B k = none := if_pos h
theorem lookI_nat (B : List (Option Bk)) (k : Nat) : lookI B (k : Int) = look B k := by rw [lookI, if_neg (by omega), Int.toNat_natCast]
theorem find_nil (k : Int) (w : World) : Calls Try.prog 25 #[.pointer none, .int .i64 k] w (Told2 (-1) (-1) w) := by
  have hN := fun w => none_any w
  go_enter Try.func25, Try.ntmps25
  go_wp2_with (go_at_call 26; refine (hN _).mono ?_; rintro e w1 ⟨rfl, hb⟩; obtain ⟨hx, hy⟩ := told_put (x := -1) (y := -1) (by simpa using hb); have HX := Lib.hid hx; have HY := Lib.hid hy; obtain ⟨b0, b1, b2, b3⟩ := hx; clear hb hy)
  exact bodyPost_ret (res_box rfl rfl (HX.out.put _ _)) rfl ⟨rfl, HY.out⟩
section
variable {w : World} {c : Hp} {v : Value} {n nx : Nat} {B : List (Option Bk)} {V : Nat → Int}
theorem find_any (k : Int) (h : HeapM w c v n B nx V) : Calls Try.prog 25 #[.pointer (some ⟨c.h, 0, none⟩), .int .i64 k] w (Told2 (spA (lookI B k)) (spL (lookI B k)) w) := by
  have hN := fun w => none_any w
  have h1 := h.c1
  have HF := Lib.hid h.form
  have HL : Hid (B.length ≤ 3000000000000) := h.few
  have hl := h.lt
  by_cases hk : k < 0
  · rw [lookI_neg hk]
    clear h
    go_enter Try.func25, Try.ntmps25
    go_wp2_with (go_at_call 26; refine (hN _).mono ?_; rintro e w1 ⟨rfl, hb⟩; obtain ⟨hx, hy⟩ := told_put (x := -1) (y := -1) (by simpa using hb); have HX := Lib.hid hx; have HY := Lib.hid hy; obtain ⟨b0, b1, b2, b3⟩ := hx; clear hb hy)
    exact bodyPost_ret (res_box rfl rfl (HX.out.put _ _)) rfl ⟨rfl, HY.out⟩
  · obtain ⟨k, rfl⟩ := Int.eq_ofNat_of_zero_le (by omega : 0 ≤ k)
    rw [lookI_nat]
    obtain ⟨a, cap, rfl, hcap⟩ := HF.out
    by_cases hk2 : k < B.length
    · obtain ⟨g, cap', he, hc', hg1, hg2, e0, e1, _⟩ := h.rows hk2
      injection he with g1 g2 g3
      subst g1 g3
      generalize spA (look B k) = x at e0 ⊢
      generalize spL (look B k) = y at e1 ⊢
      clear h g2 HF
      go_enter Try.func25, Try.ntmps25
      go_wp2
      exact bodyPost_ret (res_box rfl rfl (box_new w x y 58)) rfl ⟨rfl, (Below.refl _ _).alloc (Nat.le_refl _) _⟩
    · have hk3 : (B.length : Int) ≤ k := by omega
      rw [look_out (by omega)]
      clear h HF
      go_enter Try.func25, Try.ntmps25
      go_wp2_with (go_at_call 26; refine (hN _).mono ?_; rintro e w1 ⟨rfl, hb⟩; obtain ⟨hx, hy⟩ := told_put (x := -1) (y := -1) (by simpa using hb); have HX := Lib.hid hx; have HY := Lib.hid hy; obtain ⟨b0, b1, b2, b3⟩ := hx; clear hb hy)
      exact bodyPost_ret (res_box rfl rfl (HX.out.put _ _)) rfl ⟨rfl, HY.out⟩
theorem field_at (x y : Int) : (∀ w : World, (Instr.field 58 (.agg #[.int .i64 x, .int .i64 y]) 0).run Try.prog w = .ok (.int .i64 x) w) := fun _ => by kernel_rfl
theorem field_len (x y : Int) : (∀ w : World, (Instr.field 58 (.agg #[.int .i64 x, .int .i64 y]) 1).run Try.prog w = .ok (.int .i64 y) w) := fun _ => by kernel_rfl
/-- A value is told, and nothing that was there has changed. -/
def Told (u : Value) (w : World) (e : Ending) (w' : World) : Prop := e = .returned u ∧ Below w.heap.size w w'
theorem size_any (k : Int) (h : HeapM w c v n B nx V) : Calls Try.prog 15 #[.pointer (some ⟨c.h, 0, none⟩), .int .i64 k] w (Told (.int .i64 (spL (lookI B k))) w) := by
  have HC := Lib.hid (find_any k h)
  have hf := field_len (spA (lookI B k)) (spL (lookI B k))
  clear h
  go_enter Try.func15, Try.ntmps15
  go_wp2_with (go_at_call 25; refine HC.out.mono ?_; rintro e w1 ⟨rfl, hb⟩)
  go_ret
  exact ⟨rfl, hb⟩
theorem at_any (k : Int) (h : HeapM w c v n B nx V) : Calls Try.prog 17 #[.pointer (some ⟨c.h, 0, none⟩), .int .i64 k] w (Told (.int .i64 (spA (lookI B k))) w) := by
  have HC := Lib.hid (find_any k h)
  have hf := field_at (spA (lookI B k)) (spL (lookI B k))
  clear h
  go_enter Try.func17, Try.ntmps17
  go_wp2_with (go_at_call 25; refine HC.out.mono ?_; rintro e w1 ⟨rfl, hb⟩)
  go_ret
  exact ⟨rfl, hb⟩
end
theorem size_nil (k : Int) (w : World) : Calls Try.prog 15 #[.pointer none, .int .i64 k] w (Told (.int .i64 (-1)) w) := by
  have HC := Lib.hid (find_nil k w)
  have hf := field_len (-1) (-1)
  go_enter Try.func15, Try.ntmps15
  go_wp2_with (go_at_call 25; refine HC.out.mono ?_; rintro e w1 ⟨rfl, hb⟩)
  go_ret
  exact ⟨rfl, hb⟩

/-! Words filled. -/
def fillV (V : Nat → Int) (o q : Nat) (z : Int) : Nat → Int := fun j => if o ≤ j ∧ j < o + q then z else V j
/-- The n words at x hold V' now; nothing else has changed. -/
def Filled (x n : Nat) (V' : Nat → Int) (w : World) (e : Ending) (w' : World) : Prop := e = .returned (.tuple #[]) ∧ RowV w' x n V' ∧ Only (· = x) w w'
set_option maxHeartbeats 1000000 in
theorem fill_any (x n : Nat) (V : Nat → Int) (o q cp : Nat) (a : Option Addr) (z : Int) (w : World) (h : RowV w x n V) (ho : o + q ≤ n) (hn : n ≤ 32768) (ha : 0 < q → a = some ⟨x, o, none⟩) :
    Calls Try.prog 21 #[.slice a q cp, .int .i64 z] w (Filled x n (fillV V o q z) w) := by
  have HA := Lib.hid ha
  have HR := Lib.hid h
  clear h ha
  go_enter Try.func21, Try.ntmps21
  go_wp2
  go_loopw [7] (fun i wr => ∃ k : Nat, k ≤ q ∧ i = .int .i64 k ∧ RowV wr x n (fillV V o k z) ∧ Only (· = x) w wr) (fun i _ => q - (intOf i).toNat)
  case atStart => exact ⟨0, Nat.zero_le _, rfl, HR.out.congr fun j _ => by simp only [fillV]; rw [if_neg (by omega)], Only.refl _ _⟩
  case round =>
    obtain ⟨k, hk, rfl, hr, ho1⟩ := hrel
    by_cases hlt : k < q
    · obtain ⟨c1, f1⟩ := hr (o + k) (by omega)
      have ha := HA.out (by omega)
      subst ha
      have HR1 := Lib.hid hr
      have HO := Lib.hid ho1
      generalize fillV V o k z (o + k) = u at c1
      clear hr ho1
      go_wp2
      go_roundw
      case rel =>
        refine ⟨k + 1, by omega, by go_num, fun j hj => ?_, HO.out.setCell ⟨x, _, none⟩ (.inl rfl) _⟩
        by_cases he : j = o + k
        · subst he
          refine ⟨?_, by rw [World.frozen?_setCell]; exact f1⟩
          rw [World.cell?_setCell_same _ _ _ c1]
          simp only [fillV]; rw [if_pos (by omega)]
        · refine ⟨?_, by rw [World.frozen?_setCell]; exact (HR1.out j hj).2⟩
          rw [World.cell?_setCell_other _ _ _ _ (by intro e; injection e; omega), (HR1.out j hj).1]
          simp only [fillV]
          by_cases h1 : o ≤ j ∧ j < o + k
          · rw [if_pos h1, if_pos (by omega)]
          · rw [if_neg h1, if_neg (by omega)]
      case measure => simp [intOf]; omega
    · obtain rfl : k = q := by omega
      have HR1 := Lib.hid hr
      have HO := Lib.hid ho1
      clear hr ho1
      go_wp2
      go_end0
      exact ⟨rfl, HR1.out, HO.out⟩
end Go.Proofs.Ytgfjfpfhalblgaa
