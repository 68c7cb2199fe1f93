/- What Near of package second has to tell: plain facts on what one comes to; and the memory that its walk speaks of. -/
import Derived.Test.YtccpmaahnfgkeaaGreatDoorSMa
namespace Go.Proofs.YtccpmaahnfgkeaaGreatDoor
set_option maxRecDepth 1000000
open Go.ChangeShapes Go.WideShapes Go.ChangeAt Go.RowKit
open Wd (Ob okO encO refsO ObjAt In64 I64)

/-- One comes to i from the roots: every set that has the roots that are there, and what is named by one of it and is there, has i. -/
def Reach (L : List Ent) (roots : List Int) (i : Int) : Prop :=
  ∀ P : Int → Prop, (∀ j, j ∈ roots → hasE L j = true → P j) → (∀ (e : Ent) (j : Int), e ∈ L → P e.id → j ∈ refsO e.o → hasE L j = true → P j) → P i
theorem reach_root {L : List Ent} {roots : List Int} {i : Int} (h : i ∈ roots) (hi : hasE L i = true) : Reach L roots i := fun _ h1 _ => h1 i h hi
theorem reach_step {L : List Ent} {roots : List Int} {e : Ent} {i : Int} (he : e ∈ L) (h : Reach L roots e.id) (hr : i ∈ refsO e.o) (hi : hasE L i = true) : Reach L roots i :=
  fun P h1 h2 => h2 e i he (h P h1 h2) hr hi
theorem reach_has {L : List Ent} {roots : List Int} {i : Int} (h : Reach L roots i) : hasE L i = true := h (fun j => hasE L j = true) (fun _ _ h => h) (fun _ _ _ _ _ h => h)
/-- The numbers that Near tells. -/
def NearIs (L : List Ent) (roots ys : List Int) : Prop := ys.Pairwise (· < ·) ∧ ∀ i, i ∈ ys ↔ Reach L roots i
theorem rise_eq : ∀ {xs ys : List Int}, xs.Pairwise (· < ·) → ys.Pairwise (· < ·) → (∀ i, i ∈ xs ↔ i ∈ ys) → xs = ys := by
  intro xs ys hx hy h
  have nx : xs.Nodup := hx.imp fun h => by omega
  have ny : ys.Nodup := hy.imp fun h => by omega
  exact ((List.perm_ext_iff_of_nodup nx ny).2 h).eq_of_pairwise (fun a b _ _ h1 h2 => by omega) hx hy
theorem near_eq {L : List Ent} {r xs ys : List Int} (h : NearIs L r xs) (h' : NearIs L r ys) : xs = ys := rise_eq h.1 h'.1 fun i => (h.2 i).trans (h'.2 i).symm

/-- What is to be looked through: the roots, and then what each object that was come to names. -/
def refsAt (L : List Ent) (i : Int) : List Int := ((findE L i).map fun e => refsO e.o).getD []
def genE (L : List Ent) (roots xs : List Int) : Nat → List Int
  | 0 => roots
  | j + 1 => refsAt L (xs.getD j 0)
theorem gen_succ (L : List Ent) (roots xs : List Int) (j : Nat) : genE L roots xs (j + 1) = refsAt L (xs.getD j 0) := rfl
structure NrOk (L : List Ent) (roots xs : List Int) (i : Nat) : Prop where
  nodup : xs.Nodup
  reach : ∀ x ∈ xs, Reach L roots x
  le : i ≤ xs.length
  closed : ∀ j, j < i → ∀ y ∈ genE L roots xs j, hasE L y = true → y ∈ xs
theorem gen_snoc (L : List Ent) (roots xs : List Int) (x : Int) (j : Nat) (h : j ≤ xs.length) : genE L roots (xs ++ [x]) j = genE L roots xs j := by
  cases j with
  | zero => rfl
  | succ j =>
    have : (xs ++ [x]).getD j 0 = xs.getD j 0 := by simp only [List.getD]; rw [List.getElem?_append_left (by omega)]
    rw [gen_succ, gen_succ, this]
theorem NrOk.snoc {L : List Ent} {roots xs : List Int} {i : Nat} (h : NrOk L roots xs i) {x : Int} (hx : ¬ x ∈ xs) (hr : Reach L roots x) : NrOk L roots (xs ++ [x]) i := by
  refine ⟨List.nodup_append.2 ⟨h.nodup, by simp, fun a ha b hb => by rw [List.mem_singleton.1 hb]; exact fun e => hx (e ▸ ha)⟩, fun y hy => ?_, by rw [List.length_append]; have := h.le; omega, fun j hj y hy hh => ?_⟩
  · rcases List.mem_append.1 hy with hy | hy
    · exact h.reach y hy
    · rw [List.mem_singleton.1 hy]; exact hr
  · rw [gen_snoc _ _ _ _ _ (by have := h.le; omega)] at hy
    exact List.mem_append.2 (.inl (h.closed j hj y hy hh))
/-- What is named by what one comes to. -/
theorem gen_reach {L : List Ent} {roots xs : List Int} {i : Nat} (h : NrOk L roots xs i) {j : Nat} (hj : j ≤ xs.length) {y : Int} (hy : y ∈ genE L roots xs j) (hh : hasE L y = true) : Reach L roots y := by
  cases j with
  | zero => exact reach_root hy hh
  | succ j =>
    rw [gen_succ, refsAt] at hy
    cases hf : findE L (xs.getD j 0) with
    | none => rw [hf] at hy; cases hy
    | some e =>
      rw [hf] at hy
      replace hy : y ∈ refsO e.o := hy
      obtain ⟨h1, h2⟩ := findE_some hf
      refine reach_step h1 ?_ hy hh
      rw [h2]
      have : xs.getD j 0 = xs[j] := by simp [List.getD, show j < xs.length by omega]
      rw [this]
      exact h.reach _ (List.getElem_mem _)
theorem NrOk.sub {L : List Ent} {roots xs : List Int} {i : Nat} (h : NrOk L roots xs i) : ∀ x ∈ xs, x ∈ idsE L := fun x hx => hasE_iff.1 (reach_has (h.reach x hx))
theorem len_le_of_sub : ∀ {xs ys : List Int}, xs.Nodup → (∀ x ∈ xs, x ∈ ys) → xs.length ≤ ys.length := by
  intro xs
  induction xs with
  | nil => intro ys _ _; exact Nat.zero_le _
  | cons x xs ih =>
    intro ys hn hs
    obtain ⟨h1, h2⟩ := List.nodup_cons.1 hn
    have h3 := ih (ys := ys.erase x) h2 fun z hz => (List.mem_erase_of_ne (fun e => h1 (by rw [← e]; exact hz))).2 (hs z (List.mem_cons_of_mem _ hz))
    have h4 := List.length_erase_of_mem (hs x List.mem_cons_self)
    have h5 := List.length_pos_of_mem (hs x List.mem_cons_self)
    simp only [List.length_cons]
    omega
theorem NrOk.len {L : List Ent} {roots xs : List Int} {i : Nat} (h : NrOk L roots xs i) : xs.length ≤ L.length := by
  have h1 := len_le_of_sub h.nodup h.sub
  have h2 : (idsE L).length = L.length := List.length_map _
  omega
/-- As many as there are: all. -/
theorem NrOk.full {L : List Ent} {roots xs : List Int} {i : Nat} (h : NrOk L roots xs i) (hl : xs.length = L.length) : ∀ y, y ∈ xs ↔ Reach L roots y := by
  refine fun y => ⟨h.reach y, fun hy => ?_⟩
  by_cases hx : y ∈ xs
  · exact hx
  · exfalso
    have h1 := len_le_of_sub (xs := y :: xs) (ys := idsE L) (List.nodup_cons.2 ⟨hx, h.nodup⟩) (fun z hz => by
      rcases List.mem_cons.1 hz with rfl | hz
      · exact hasE_iff.1 (reach_has hy)
      · exact h.sub z hz)
    have h2 : (idsE L).length = L.length := List.length_map _
    simp only [List.length_cons] at h1
    omega
/-- All looked through: all. -/
theorem NrOk.done {m : Nat} {L : List Ent} (hg : GoodE m L) {roots xs : List Int} (h : NrOk L roots xs xs.length) (hc : ∀ y ∈ genE L roots xs xs.length, hasE L y = true → y ∈ xs) : ∀ y, y ∈ xs ↔ Reach L roots y := by
  have hall : ∀ j, j ≤ xs.length → ∀ y ∈ genE L roots xs j, hasE L y = true → y ∈ xs := fun j hj y hy hh => by
    rcases Nat.lt_or_ge j xs.length with h1 | h1
    · exact h.closed j h1 y hy hh
    · obtain rfl : j = xs.length := by omega
      exact hc y hy hh
  refine fun y => ⟨h.reach y, fun hy => hy (· ∈ xs) (fun j hj hh => hall 0 (Nat.zero_le _) j hj hh) (fun e j he hp hr hh => ?_)⟩
  obtain ⟨k, hk, hke⟩ := List.getElem_of_mem hp
  refine hall (k + 1) (by omega) j ?_ hh
  have h1 : xs.getD k 0 = e.id := by simp [List.getD, hk, hke]
  rw [gen_succ, h1, refsAt, findE_of hg he]
  exact hr
theorem nrok_start (L : List Ent) (roots : List Int) : NrOk L roots [] 0 := ⟨by simp, fun x hx => (by cases hx), Nat.le_refl _, fun j hj => by omega⟩
theorem NrOk.next {L : List Ent} {roots xs : List Int} {i : Nat} (h : NrOk L roots xs i) (hi : i < xs.length) (hc : ∀ y ∈ genE L roots xs i, hasE L y = true → y ∈ xs) : NrOk L roots xs (i + 1) :=
  ⟨h.nodup, h.reach, by omega, fun j hj y hy hh => by
    rcases Nat.lt_or_ge j i with h1 | h1
    · exact h.closed j h1 y hy hh
    · obtain rfl : j = i := by omega
      exact hc y hy hh⟩
/-- Sorted it is what Near tells. -/
theorem near_sorted {L : List Ent} {roots xs : List Int} (hn : xs.Nodup) (h : ∀ y, y ∈ xs ↔ Reach L roots y) : NearIs L roots (xs.mergeSort fun x y => decide (x ≤ y)) := by
  refine ⟨?_, fun i => by rw [List.mem_mergeSort]; exact h i⟩
  have h1 : (xs.mergeSort fun x y => decide (x ≤ y)).Pairwise (fun a b => decide (a ≤ b) = true) :=
    List.pairwise_mergeSort (fun a b c h1 h2 => by simp only [decide_eq_true_eq] at *; omega) (fun a b => by simp only [Bool.or_eq_true, decide_eq_true_eq]; omega) xs
  have h2 : (xs.mergeSort fun x y => decide (x ≤ y)).Nodup := (List.mergeSort_perm xs _).nodup_iff.2 hn
  exact (h1.and h2).imp fun h => by simp only [decide_eq_true_eq] at h; omega

/-! Memory. -/
theorem own_only2 {w w' : World} {base n : Nat} {e : TypeId} {v : Value} {xs : List Value} {F : Nat → Prop} (h : w.ownsRow base e 1 v n xs) (o : Only F w w') (hF : ∀ b, v.ownBlock = some b → ¬ F b) : w'.ownsRow base e 1 v n xs :=
  ⟨h.1, h.2.imp id fun ⟨g, cap, cur, h1, h2, h3, h4⟩ => ⟨g, cap, cur, h1, h2, (o.block g (Array.getElem?_eq_some_iff.1 h3).1 (hF g (by rw [h1]; rfl))).trans h3, h4⟩⟩
theorem own_ne_set {w : World} {base n g e : Nat} {t : TypeId} {v : Value} {xs : List Value} {P : Int → Bool} (h : w.ownsRow base t 1 v n xs) (hs : SetAt w g e P) : v.ownBlock ≠ some g := by
  intro hb
  rcases h.2 with ⟨rfl, _⟩ | ⟨b, cap, cur, rfl, _, h3, _⟩
  · simp [Value.ownBlock] at hb
  · simp only [Value.ownBlock, Option.some.injEq] at hb
    subst hb
    obtain ⟨D, ⟨es, ck, hm, _⟩, _⟩ := hs
    rw [h3] at hm
    cases hm
theorem own_lt {w : World} {base n : Nat} {t : TypeId} {v : Value} {xs : List Value} (h : w.ownsRow base t 1 v n xs) {b : Nat} (hb : v.ownBlock = some b) : base ≤ b ∧ b < w.heap.size := by
  rcases h.2 with ⟨rfl, _⟩ | ⟨g, cap, cur, rfl, h1, h3, _⟩
  · simp [Value.ownBlock] at hb
  · simp only [Value.ownBlock, Option.some.injEq] at hb
    subst hb
    exact ⟨h1, (Array.getElem?_eq_some_iff.1 h3).1⟩
theorem SecAt.maplen {w : World} {c : Sc} {n u m : Nat} {L : List Ent} (h : SecAt w c n u m L) (ty : TypeId) : (Builtin.len_ #[67] ty #[.map (some c.pm)]).run Tryz.prog w = .ok (.int .i64 L.length) w := by
  obtain ⟨D, hown, _, hs⟩ := h.pl.keys (idsE L) (ids_nodup h.good) (ids_w64 h.good h.few) (fun i _ => by rw [pl_isSome]; exact hasE_iff.symm)
  have := hown.len Tryz.underlying67 ty
  rw [this, hs]
  have : (idsE L).length = L.length := List.length_map _
  rw [this]
/-- The block of a row that is read while a list of one's own grows. -/
def KeepK (c : Sc) (g : Nat) (v5 : Value) (b : Nat) : Prop := ¬ c.F b ∧ b ≠ g ∧ v5.ownBlock ≠ some b
/-- What stands in memory while one looks through the numbers ns. -/
structure NrAt (c : Sc) (n u m : Nat) (L : List Ent) (g : Nat) (xs ns : List Int) (v5 v7 : Value) (w wr : World) : Prop where
  own : wr.ownsRow w.heap.size 3 1 v5 xs.length (xs.map (Value.int .i64))
  set : SetAt wr g xs.length (fun y => decide (y ∈ xs))
  gge : w.heap.size ≤ g
  row : Ints (KeepK c g v5) wr v7 ns
  w64 : ∀ y ∈ ns, W64 y
  sec : SecAt wr c n u m L
  only : Only c.F w wr
theorem NrAt.fresh {c : Sc} {n u m : Nat} {L : List Ent} {g : Nat} {xs ns : List Int} {v5 v7 : Value} {w wr w' : World} (h : NrAt c n u m L g xs ns v5 v7 w wr) (b : Below wr.heap.size wr w') : NrAt c n u m L g xs ns v5 v7 w w' :=
  ⟨own_only2 h.own (F := fun _ => False) (Only.of_below b) (fun _ _ h => h), h.set.fresh b, h.gge, h.row.only (F := fun _ => False) (Only.of_below b) (fun _ _ h => h), h.w64, h.sec.fresh b, h.only.then_ (Only.of_below b) (fun _ _ h => h)⟩
theorem NrAt.marked {c : Sc} {n u m : Nat} {L : List Ent} {g : Nat} {xs ns : List Int} {v5 v7 : Value} {w wr w' : World} (h : NrAt c n u m L g xs ns v5 v7 w wr) (hw : c.q < w.heap.size) (o : Only (· = g) wr w') :
    w'.ownsRow w.heap.size 3 1 v5 xs.length (xs.map (Value.int .i64)) ∧ Ints (KeepK c g v5) w' v7 ns ∧ SecAt w' c n u m L ∧ Only c.F w w' :=
  ⟨own_only2 h.own o (fun b hb e => own_ne_set h.own h.set (e ▸ hb)), h.row.only o (fun b hb e => hb.2.1 e), h.sec.only o (fun k hk e => by have := hk.2; have := h.gge; omega) (by have := h.gge; omega), h.only.then_ o (fun k hk e => by have := h.gge; omega)⟩
theorem NrAt.grow {c : Sc} {n u m : Nat} {L : List Ent} {g : Nat} {xs ns : List Int} {v5 v5' v7 : Value} {w wr w' : World} {x : Int} (hw : c.q < w.heap.size) (hg : w.heap.size ≤ g)
    (ho : wr.ownsRow w.heap.size 3 1 v5 xs.length (xs.map (Value.int .i64))) (hs : SetAt wr g (xs.length + 1) (fun y => decide (y = x) || decide (y ∈ xs))) (hr : Ints (KeepK c g v5) wr v7 ns) (h64 : ∀ y ∈ ns, W64 y) (hsec : SecAt wr c n u m L) (hon : Only c.F w wr)
    (hown : w'.ownsRow w.heap.size 3 1 v5' (xs.length + 1) (xs.map (Value.int .i64) ++ [.int .i64 x])) (hgr : wr.grownBy w' v5.ownBlock) (hat : v5'.ownBlock = v5.ownBlock ∨ v5'.ownBlock = some wr.heap.size) : NrAt c n u m L g (xs ++ [x]) ns v5' v7 w w' := by
  have o : Only (fun b => v5.ownBlock = some b) wr w' := Only.grown (Only.refl _ _) hgr (fun k hk => .inl hk)
  have hng := own_ne_set ho hs
  refine ⟨?_, ?_, hg, ?_, h64, ?_, ?_⟩
  · rw [List.length_append, List.map_append]; exact hown
  · rw [List.length_append]
    exact (hs.only o (fun e => hng e)).congr fun y _ => by rw [Bool.eq_iff_iff]; simp only [Bool.or_eq_true, decide_eq_true_eq, List.mem_append, List.mem_singleton]; exact Or.comm
  · refine Vals.kind (Vals.only (Vals.kind hr (M := fun b => KeepK c g v5 b ∧ b < wr.heap.size) (fun b hb h => ⟨h, hb⟩)) o (fun b hb e => hb.1.2.2 e)) (fun b _ hb => ⟨hb.1.1, hb.1.2.1, fun e => ?_⟩)
    rcases hat with h | h
    · rw [h] at e; exact hb.1.2.2 e
    · rw [h] at e; injection e with e; have := hb.2; omega
  · exact hsec.only o (fun k hk e => by have := (own_lt ho e).1; have := hk.2; omega) (fun e => by have := (own_lt ho e).1; omega)
  · exact hon.then_ o (fun k hk e => by have := (own_lt ho e).1; omega)
theorem NrAt.fetched {c : Sc} {n u u' m : Nat} {L : List Ent} {g : Nat} {xs ns ns' : List Int} {v5 v7 v7' : Value} {w wr w' w'' : World} (h : NrAt c n u m L g xs ns v5 v7 w wr) (hw : c.q < w.heap.size) (o : Only c.F wr w') (s : SecAt w' c n u' m L) (b : Below w'.heap.size w' w'')
    (hr : w''.ownsRow w'.heap.size 3 1 v7' ns'.length (ns'.map (Value.int .i64))) (h64 : ∀ y ∈ ns', W64 y) : NrAt c n u' m L g xs ns' v5 v7' w w'' := by
  have hg := h.set.lt
  have h1 := h.only.size
  have h2 := o.size
  have ho : w'.ownsRow w.heap.size 3 1 v5 xs.length (xs.map (Value.int .i64)) := own_only2 h.own o (fun b hb hf => by have := (own_lt h.own hb).1; have := hf.2; omega)
  refine ⟨own_only2 ho (F := fun _ => False) (Only.of_below b) (fun _ _ h => h), (h.set.only o (fun hf => by have := hf.2; have := h.gge; omega)).fresh b, h.gge, ?_, h64, s.fresh b, (h.only.trans o).then_ (Only.of_below b) (fun _ _ h => h)⟩
  refine Vals.kind (Vals.of_own (by rw [List.length_map]; exact hr)) (fun b' _ hb => ⟨fun hf => by have := hf.2; omega, by omega, fun e => by have := (own_lt ho e).2; omega⟩)
theorem w64_of {i : Int} (h : -9223372036854775808 ≤ i ∧ i ≤ 9223372036854775807) : W64 i := wf_of h.1 h.2
end Go.Proofs.YtccpmaahnfgkeaaGreatDoor
