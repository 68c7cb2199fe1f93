/- What a space of package second is in memory: its objects by rising numbers, each with its first sector; and the plain facts on them. -/
import Derived.Test.YtccpmaahnfgkeaaGreatDoorSPl
import Derived.Test.YtccpmaahnfgkeaaGreatDoorLVb
namespace Go.Proofs.YtccpmaahnfgkeaaGreatDoor
set_option maxRecDepth 1000000
open Go.ChangeShapes Go.WideShapes Go.ChangeAt Go.RowKit
open Wd (Ob okO encO refsO ObjAt In64 I64)

theorem getD_get {xs : List Int} {j : Nat} (h : j < xs.length) : xs[j]? = some (xs.getD j 0) := by simp [List.getD, h]
theorem ints_w {N : Nat → Prop} {w : World} {v : Value} {xs : List Int} (h : Ints N w v xs) : Wd.Ints w v xs := by
  obtain ⟨a, c, rfl, _, h⟩ := h
  refine ⟨a, c, by rw [List.length_map], h.imp (fun e => List.map_eq_nil_iff.1 e) fun ⟨b, off, ha, _, h⟩ => ⟨b, off, ha, fun i hi => h i _ (by rw [List.getElem?_map, getD_get hi]; rfl)⟩⟩
theorem bts_w {N : Nat → Prop} {w : World} {v : Value} {xs : List Int} (h : Bts N w v xs) : Wd.Bts w v xs := by
  obtain ⟨a, c, rfl, _, h⟩ := h
  refine ⟨a, c, by rw [List.length_map], h.imp (fun e => List.map_eq_nil_iff.1 e) fun ⟨b, off, ha, _, h⟩ => ⟨b, off, ha, fun i hi => h i _ (by rw [List.getElem?_map, getD_get hi]; rfl)⟩⟩
theorem ints_of {N : Nat → Prop} {w : World} {v : Value} {xs : List Int} (h : Wd.RowI w v xs) (hN : ∀ b off n c, v = .slice (some ⟨b, off, none⟩) n c → b < w.heap.size → N b) : Ints N w v xs := by
  obtain ⟨⟨a, c, rfl, h⟩, _, a', c', e, hc⟩ := h
  injection e with e1 e2 e3
  subst e1 e3
  refine ⟨a, c, by rw [List.length_map], by rw [List.length_map]; exact hc, ?_⟩
  by_cases h0 : xs = []
  · left; rw [h0]; rfl
  obtain ⟨b, off, rfl, h2⟩ := h.resolve_left h0
  have hp := List.length_pos_iff.2 h0
  refine .inr ⟨b, off, rfl, hN _ _ _ _ rfl (World.block_lt_of_cell? _ _ (h2 0 hp)), fun j u hu => ?_⟩
  rw [List.getElem?_map] at hu
  by_cases hj : j < xs.length
  · rw [getD_get hj] at hu
    rw [h2 j hj, ← hu]; rfl
  · rw [List.getElem?_eq_none (by omega)] at hu; cases hu
theorem bts_of {N : Nat → Prop} {w : World} {v : Value} {xs : List Int} (h : Wd.RowB w v xs) (hN : ∀ b off n c, v = .slice (some ⟨b, off, none⟩) n c → b < w.heap.size → N b) : Bts N w v xs := by
  obtain ⟨⟨a, c, rfl, h⟩, _, a', c', e, hc⟩ := h
  injection e with e1 e2 e3
  subst e1 e3
  refine ⟨a, c, by rw [List.length_map], by rw [List.length_map]; exact hc, ?_⟩
  by_cases h0 : xs = []
  · left; rw [h0]; rfl
  obtain ⟨b, off, rfl, h2⟩ := h.resolve_left h0
  have hp := List.length_pos_iff.2 h0
  refine .inr ⟨b, off, rfl, hN _ _ _ _ rfl (World.block_lt_of_cell? _ _ (h2 0 hp)), fun j u hu => ?_⟩
  rw [List.getElem?_map] at hu
  by_cases hj : j < xs.length
  · rw [getD_get hj] at hu
    rw [h2 j hj, ← hu]; rfl
  · rw [List.getElem?_eq_none (by omega)] at hu; cases hu

/-- The value v is the object o, with rows in blocks of the kind N. -/
def ObjIn (N : Nat → Prop) (w : World) (v : Value) (o : Ob) : Prop :=
  ∃ wv bv, v = .agg #[.int .i64 o.c, .int .i64 o.k, wv, bv] ∧ Ints N w wv o.w ∧ I64 o.w ∧ Bts N w bv o.b ∧ Bytes o.b ∧ In64 o.c ∧ In64 o.k
section
variable {N M F : Nat → Prop} {w w' : World} {v : Value} {o : Ob}
theorem ObjIn.only (h : ObjIn N w v o) (b : Only F w w') (hF : ∀ b, N b → ¬ F b) : ObjIn N w' v o := by
  obtain ⟨wv, bv, rfl, h1, h2, h3, h4⟩ := h
  exact ⟨wv, bv, rfl, h1.only b hF, h2, h3.only b hF, h4⟩
theorem ObjIn.fresh (h : ObjIn N w v o) (b : Below w.heap.size w w') : ObjIn N w' v o := h.only (F := fun _ => False) (Only.of_below b) (fun _ _ h => h)
theorem ObjIn.kind (h : ObjIn N w v o) (hM : ∀ b, b < w.heap.size → N b → M b) : ObjIn M w v o := by
  obtain ⟨wv, bv, rfl, h1, h2, h3, h4⟩ := h
  exact ⟨wv, bv, rfl, Vals.kind h1 hM, h2, h3.kind hM, h4⟩
theorem row_w (h : Ints N w v o.w) (h2 : I64 o.w) : Wd.RowI w v o.w := by
  have hw := ints_w h
  obtain ⟨a, c, rfl, hc, _⟩ := h
  exact ⟨hw, h2, a, c, by rw [List.length_map], by simpa using hc⟩
theorem row_b (h : Bts N w v o.b) (h2 : Bytes o.b) : Wd.RowB w v o.b := by
  have hw := bts_w h
  obtain ⟨a, c, rfl, hc, _⟩ := h
  exact ⟨hw, h2, a, c, by rw [List.length_map], by simpa using hc⟩
theorem ObjIn.at_ (h : ObjIn N w v o) : ObjAt w v o := by
  obtain ⟨wv, bv, rfl, h1, h2, h3, h4, h5⟩ := h
  exact ⟨wv, bv, rfl, row_w h1 h2, row_b h3 h4, h5⟩
theorem ObjIn.of_at (h : ObjAt w v o) : ObjIn (· < w.heap.size) w v o := by
  obtain ⟨wv, bv, rfl, h1, h2, h3⟩ := h
  exact ⟨wv, bv, rfl, ints_of h1 (fun _ _ _ _ _ h => h), h1.2.1, bts_of h2 (fun _ _ _ _ _ h => h), h2.2.1, h3⟩
theorem ObjIn.of_hi {q : Nat} {wv bv : Value} (h : Wd.ObjHi q w wv bv o) : ObjIn (q < ·) w (.agg #[.int .i64 o.c, .int .i64 o.k, wv, bv]) o := by
  obtain ⟨h1, h2, h3, h4, h5, h6⟩ := h
  exact ⟨wv, bv, rfl, ints_of h1 (fun b off n c e _ => h5 b off n c e), h1.2.1, bts_of h2 (fun b off n c e _ => h6 b off n c e), h2.2.1, h3, h4⟩
end

/-- An object of a space: its number, what it is, its first sector. -/
structure Ent where
  id : Nat
  o : Ob
  f : Nat
def erow (e : Ent) : Row := (e.f, encO e.o)
def rowsE (L : List Ent) : List Row := L.map erow
def findE (L : List Ent) (i : Int) : Option Ent := L.find? fun e => decide ((e.id : Int) = i)
def plOf (L : List Ent) : Int → Option Ext := fun i => (findE L i).map fun e => ext (erow e)
def hasE (L : List Ent) (i : Int) : Bool := (findE L i).isSome
def idsE (L : List Ent) : List Int := L.map fun e => (e.id : Int)
structure GoodE (m : Nat) (L : List Ent) : Prop where
  rise : L.Pairwise fun a b => a.id < b.id
  rng : ∀ e ∈ L, 1 ≤ e.id ∧ e.id ≤ m
  ok : ∀ e ∈ L, okO e.o = true
structure Sc where
  s : Sp
  pm : Nat
  q : Nat
/-- The blocks that a space may change. -/
def Sc.F (c : Sc) : Nat → Prop := fun k => c.s.lo ≤ k ∧ k ≤ c.q

/-- The space c in memory: n sectors, the objects L, m were made; u: how often it was used, at most. -/
structure SecAt (w : World) (c : Sc) (n u m : Nat) (L : List Ent) : Prop where
  c0 : w.cell? ⟨c.q, 0, none⟩ = some (.int .i64 m)
  c1 : w.cell? ⟨c.q, 1, none⟩ = some (.map (some c.pm))
  c2 : w.cell? ⟨c.q, 2, none⟩ = some (.pointer (some ⟨c.s.sp, 0, none⟩))
  fz : w.frozen? ⟨c.q, 0, none⟩ = false
  pl : PlAt w c.pm u (plOf L)
  sp : SpaceAt w c.s n u (rowsE L)
  good : GoodE m L
  ord : c.s.sp < c.pm ∧ c.pm < c.q
  lt : c.q < w.heap.size
  few : m ≤ 1048576

theorem Sc.inner (c : Sc) {w : World} {n u m : Nat} {L : List Ent} (h : SecAt w c n u m L) : ∀ i, c.s.F i → c.F i := fun i hi => ⟨hi.1, by have := hi.2; have := h.ord; omega⟩
theorem SecAt.only {w w' : World} {c : Sc} {n u m : Nat} {L : List Ent} {F : Nat → Prop} (h : SecAt w c n u m L) (b : Only F w w') (hF : ∀ k, c.F k → ¬ F k) (hF0 : ¬ F 0) : SecAt w' c n u m L := by
  have o := h.ord
  have o2 := h.sp.ord
  have hq := hF c.q ⟨by omega, Nat.le_refl _⟩
  have hp := hF c.pm ⟨by omega, by omega⟩
  exact ⟨(b.cell (p := ⟨c.q, 0, none⟩) h.lt hq).trans h.c0, (b.cell (p := ⟨c.q, 1, none⟩) h.lt hq).trans h.c1, (b.cell (p := ⟨c.q, 2, none⟩) h.lt hq).trans h.c2,
    (b.frozen (p := ⟨c.q, 0, none⟩) h.lt hq).trans h.fz, h.pl.only b hp, h.sp.only b (fun k hk => hF k (c.inner h k hk)) hF0, h.good, h.ord, Nat.lt_of_lt_of_le h.lt b.size, h.few⟩
theorem SecAt.fresh {w w' : World} {c : Sc} {n u m : Nat} {L : List Ent} (h : SecAt w c n u m L) (b : Below w.heap.size w w') : SecAt w' c n u m L :=
  h.only (F := fun _ => False) (Only.of_below b) (fun _ _ h => h) id
theorem SecAt.mono {w : World} {c : Sc} {n u u' m : Nat} {L : List Ent} (h : SecAt w c n u m L) (hu : u ≤ u') : SecAt w c n u' m L :=
  ⟨h.c0, h.c1, h.c2, h.fz, h.pl.mono hu, h.sp.mono hu, h.good, h.ord, h.lt, h.few⟩

/-! Rows in whatever order. -/
theorem SpaceAt.perm {w : World} {s : Sp} {n u : Nat} {R R' : List Row} (h : SpaceAt w s n u R) (p : R.Perm R') : SpaceAt w s n u R' := by
  have e1 : tk R = tk R' := funext fun i => by
    simp only [tk]
    rw [Bool.eq_iff_iff, List.any_eq_true, List.any_eq_true]
    exact ⟨fun ⟨r, hr, h⟩ => ⟨r, p.mem_iff.1 hr, h⟩, fun ⟨r, hr, h⟩ => ⟨r, p.mem_iff.2 hr, h⟩⟩
  have e2 : isX R = isX R' := funext fun i => by
    simp only [isX]
    rw [Bool.eq_iff_iff, List.any_eq_true, List.any_eq_true]
    exact ⟨fun ⟨r, hr, h⟩ => ⟨r, p.mem_iff.1 hr, h⟩, fun ⟨r, hr, h⟩ => ⟨r, p.mem_iff.2 hr, h⟩⟩
  obtain ⟨r, c, D, hd, hr, hc, hh⟩ := h.disk
  exact ⟨h.c0, h.c1, h.c2, ⟨r, c, D, hd, hr, hc, fun r hr => hh r (p.mem_iff.2 hr)⟩, e1 ▸ h.map, e2 ▸ h.live,
    ⟨fun r hr => h.good.room r (p.mem_iff.2 hr), fun r hr => h.good.bytes r (p.mem_iff.2 hr), (p.pairwise_iff (fun {a b} => Off.symm)).1 h.good.apart⟩, h.ord, h.lt, h.tab, h.small⟩

/-! The objects of a space. -/
theorem findE_some {L : List Ent} {i : Int} {e : Ent} (h : findE L i = some e) : e ∈ L ∧ (e.id : Int) = i := by
  have h1 := List.find?_some h
  exact ⟨List.mem_of_find?_eq_some h, by simpa using h1⟩
theorem findE_none {L : List Ent} {i : Int} (h : findE L i = none) : ∀ e ∈ L, (e.id : Int) ≠ i := by
  have h1 := List.find?_eq_none.1 h
  intro e he
  simpa using h1 e he
theorem GoodE.inj {m : Nat} {L : List Ent} (h : GoodE m L) {a b : Ent} (ha : a ∈ L) (hb : b ∈ L) (he : a.id = b.id) : a = b := by
  have key : ∀ {L : List Ent}, L.Pairwise (fun a b => a.id < b.id) → ∀ {a b : Ent}, a ∈ L → b ∈ L → a.id = b.id → a = b := by
    intro L
    induction L with
    | nil => intro _ a b ha; cases ha
    | cons q R ih =>
      intro hp a b ha hb he
      obtain ⟨h1, h2⟩ := List.pairwise_cons.1 hp
      rcases List.mem_cons.1 ha with e1 | ha
      · rcases List.mem_cons.1 hb with e2 | hb
        · rw [e1, e2]
        · have := h1 b hb; rw [e1] at he; omega
      · rcases List.mem_cons.1 hb with e2 | hb
        · have := h1 a ha; rw [e2] at he; omega
        · exact ih h2 ha hb he
  exact key h.rise ha hb he
theorem findE_of {m : Nat} {L : List Ent} (h : GoodE m L) {e : Ent} (he : e ∈ L) : findE L e.id = some e := by
  cases hf : findE L e.id with
  | none => exact absurd rfl (findE_none hf e he)
  | some x =>
    obtain ⟨h1, h2⟩ := findE_some hf
    rw [h.inj h1 he (by omega)]
theorem hasE_iff {L : List Ent} {i : Int} : hasE L i = true ↔ i ∈ idsE L := by
  unfold hasE idsE
  rw [List.mem_map]
  constructor
  · intro h
    obtain ⟨e, he⟩ := Option.isSome_iff_exists.1 h
    exact ⟨e, findE_some he⟩
  · rintro ⟨e, he, hi⟩
    cases hf : findE L i with
    | none => exact absurd hi (findE_none hf e he)
    | some x => rfl
theorem pl_isSome (L : List Ent) (i : Int) : (plOf L i).isSome = hasE L i := by simp [plOf, hasE]
theorem ids_rise {m : Nat} {L : List Ent} (h : GoodE m L) : (idsE L).Pairwise (· < ·) := List.pairwise_map.2 (h.rise.imp fun h => by omega)
theorem ids_nodup {m : Nat} {L : List Ent} (h : GoodE m L) : (idsE L).Nodup := (ids_rise h).imp fun h => by omega
theorem ids_w64 {m : Nat} {L : List Ent} (h : GoodE m L) (hm : m ≤ 1048576) : ∀ i ∈ idsE L, W64 i := by
  intro i hi
  obtain ⟨e, he, rfl⟩ := List.mem_map.1 hi
  have := h.rng e he
  exact wf_of (by omega) (by omega)
theorem total_rows {n : Nat} : ∀ {R : List Row}, Good n R → R.length ≤ n := by
  intro R h
  have h1 := cnt_total h
  have h2 : ∀ R : List Row, R.length ≤ total R := by
    intro R
    induction R with
    | nil => exact Nat.le_refl _
    | cons r R ih => have := len_pos r; simp only [total, List.map_cons, List.sum_cons, List.length_cons] at *; omega
  have h3 : ∀ (S : Nat → Bool) (a c : Nat), cnt S a c ≤ c := fun S a c => cnt_le S a c
  have := h2 R
  have := h3 (tk R) 0 n
  omega
theorem SecAt.len {w : World} {c : Sc} {n u m : Nat} {L : List Ent} (h : SecAt w c n u m L) : L.length ≤ 20000 := by
  have h1 := total_rows h.sp.good
  have h2 := h.sp.small
  have h3 : (rowsE L).length = L.length := List.length_map _
  omega
end Go.Proofs.YtccpmaahnfgkeaaGreatDoor
