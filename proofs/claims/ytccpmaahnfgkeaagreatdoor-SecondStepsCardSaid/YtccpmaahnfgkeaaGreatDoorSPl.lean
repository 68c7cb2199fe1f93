/- Maps from numbers to extents, and sets of numbers, as values in memory: what a look-up, a store, a deletion and a count do. No condition but those that each statement names. -/
import Derived.Test.YtccpmaahnfgkeaaGreatDoorLEc
import Derived.Lib.SlKeysI
namespace Go.Proofs.YtccpmaahnfgkeaaGreatDoor
set_option maxRecDepth 1000000
open Go.ChangeShapes Go.WideShapes Go.ChangeAt Go.RowKit

def W64 (i : Int) : Prop := (Lit.int .i64 i).wf = true
def extD (x : Ext) : DataW Unit := .agg [.lit (.int .i64 x.f), .lit (.int .i64 x.n), .lit (.int .i64 x.s)]
def ext3 : List Value → Option (DataW Unit × List MemPlace)
  | [.int .i64 f, .int .i64 n, .int .i64 s] => some (extD ⟨f, n, s⟩, [])
  | _ => none
def extElem : Value → Option (DataW Unit × List MemPlace)
  | .agg cs => ext3 cs.toList
  | _ => none
theorem extElem_mk (x : Ext) : extElem (xv x) = some (extD x, []) := rfl
theorem ext3_inv {l : List Value} {x : Ext} {ps : List MemPlace} (h : ext3 l = some (extD x, ps)) : l = [.int .i64 x.f, .int .i64 x.n, .int .i64 x.s] := by
  unfold ext3 at h
  split at h
  · simp only [Option.some.injEq, Prod.mk.injEq, extD, DataW.agg.injEq, List.cons.injEq, DataW.lit.injEq, Lit.int.injEq, true_and, and_true] at h
    obtain ⟨⟨h1, h2, h3⟩, _⟩ := h
    rw [h1, h2, h3]
  · cases h
theorem extElem_inv {v : Value} {x : Ext} {ps : List MemPlace} (h : extElem v = some (extD x, ps)) : v = xv x := by
  cases v with
  | agg cs =>
    have := ext3_inv h
    unfold xv
    rw [← Array.toList_inj.1 (show cs.toList = #[Value.int .i64 x.f, .int .i64 x.n, .int .i64 x.s].toList from this)]
  | _ => cases h
theorem intLaw : Maps.Keyed Tryz.prog 3 := Maps.int_keyed Tryz.underlying3
theorem key_int {i : Int} (h : W64 i) : keyOf Tryz.prog 3 (.int .i64 i) = some (.int .i64 i) := Maps.keyOf_int_mk Tryz.underlying3 h
theorem zero65 (w : World) : (zeroValue 47).run Tryz.prog w = .ok (xv ⟨0, 0, 0⟩) w := by kernel_rfl
theorem lit_ne {i j : Int} (h : i ≠ j) : Lit.int .i64 i ≠ Lit.int .i64 j := fun e => h (by injection e)

/-- The map at block m holds what P says, at most e entries. -/
def PlAt (w : World) (m e : Nat) (P : Int → Option Ext) : Prop :=
  ∃ D : DataW Unit, w.ownsMap Tryz.prog 3 extElem m e D ∧ ∀ i, W64 i → Maps.has D (.int .i64 i) = (P i).isSome ∧ ∀ z, D.atKey (.int .i64 i) z = (P i).elim z extD

theorem PlAt.only {w w' : World} {m e : Nat} {P : Int → Option Ext} {F : Nat → Prop} (h : PlAt w m e P) (o : Only F w w') (hF : ¬ F m) : PlAt w' m e P := by
  obtain ⟨D, ⟨es, ck, hb, r⟩, h2⟩ := h
  exact ⟨D, ⟨es, ck, (o.block m (Array.getElem?_eq_some_iff.1 hb).1 hF).trans hb, r⟩, h2⟩
theorem PlAt.fresh {w w' : World} {m e : Nat} {P : Int → Option Ext} (h : PlAt w m e P) (b : Below w.heap.size w w') : PlAt w' m e P :=
  h.only (F := fun _ => False) (Only.of_below b) id
theorem PlAt.heap {w w' : World} {m e : Nat} {P : Int → Option Ext} (h : PlAt w m e P) (hh : w'.heap = w.heap) : PlAt w' m e P := by
  obtain ⟨D, ⟨es, ck, hb, r⟩, h2⟩ := h
  exact ⟨D, ⟨es, ck, by rw [hh]; exact hb, r⟩, h2⟩
theorem PlAt.mono {w : World} {m e e' : Nat} {P : Int → Option Ext} (h : PlAt w m e P) (he : e ≤ e') : PlAt w m e' P := by
  obtain ⟨D, h1, h2⟩ := h
  exact ⟨D, h1.mono he, h2⟩
theorem PlAt.lt {w : World} {m e : Nat} {P : Int → Option Ext} (h : PlAt w m e P) : m < w.heap.size := by
  obtain ⟨D, h1, h2⟩ := h
  exact h1.lt
theorem PlAt.congr {w : World} {m e : Nat} {P Q : Int → Option Ext} (h : PlAt w m e P) (he : ∀ x, W64 x → P x = Q x) : PlAt w m e Q := by
  obtain ⟨D, h1, h2⟩ := h
  exact ⟨D, h1, fun i hi => by rw [← he i hi]; exact h2 i hi⟩
theorem pl_made (w : World) : PlAt (w.alloc (.map #[] 0)) w.heap.size 0 (fun _ => none) :=
  ⟨.map [], World.ownsMap_made _ _ _ _, fun _ _ => ⟨rfl, fun _ => rfl⟩⟩
def Z3 : Ext := ⟨0, 0, 0⟩
def atX (P : Int → Option Ext) (i : Int) : Ext := (P i).getD Z3

theorem PlAt.look {w : World} {m e : Nat} {P : Int → Option Ext} (h : PlAt w m e P) (i : Int) (hi : W64 i) :
    (Instr.lookup 67 (.map (some m)) (.int .i64 i) true).run Tryz.prog w = .ok (.tuple #[xv (atX P i), .bool (P i).isSome]) w := by
  obtain ⟨D, h1, h2⟩ := h
  obtain ⟨v, ps, hrun, hv⟩ := h1.look_ok intLaw Tryz.underlying67 (zero65 w) (extElem_mk _) (key_int hi)
  rw [hrun, (h2 i hi).1]
  rw [(h2 i hi).2] at hv
  have : v = xv (atX P i) := by
    unfold atX
    cases hp : P i with
    | none => rw [hp] at hv; exact extElem_inv hv
    | some x => rw [hp] at hv; exact extElem_inv hv
  rw [this]
theorem PlAt.look1 {w : World} {m e : Nat} {P : Int → Option Ext} (h : PlAt w m e P) (i : Int) (hi : W64 i) :
    (Instr.lookup 67 (.map (some m)) (.int .i64 i) false).run Tryz.prog w = .ok (xv (atX P i)) w := by
  obtain ⟨D, ⟨es, clock, hb, F, _, rfl⟩, h2⟩ := h
  unfold atX
  rcases Maps.fit_look false intLaw Tryz.underlying67 (zero65 w) hb F (key_int hi) with ⟨hrun, _, hat⟩ | ⟨e0, y, _, _, hrun, hRv, hat, _⟩
  · have := Maps.has_false_of_atKey hat
    rw [(h2 i hi).1] at this
    cases hp : P i with
    | none => exact hrun
    | some x => rw [hp] at this; cases this
  · have := Maps.has_true_of_atKey hat
    rw [(h2 i hi).1] at this
    cases hp : P i with
    | none => rw [hp] at this; cases this
    | some x =>
      have h3 := (h2 i hi).2 (extD Z3)
      rw [hp] at h3
      obtain ⟨y1, y2⟩ := y
      have h4 : y1 = extD x := (hat _).symm.trans h3
      subst h4
      rw [extElem_inv hRv] at hrun
      exact hrun
def putP (P : Int → Option Ext) (i : Int) (x : Ext) : Int → Option Ext := fun j => if j = i then some x else P j
def delP (P : Int → Option Ext) (i : Int) : Int → Option Ext := fun j => if j = i then none else P j
theorem PlAt.store {w : World} {m e : Nat} {P : Int → Option Ext} (h : PlAt w m e P) (i : Int) (hi : W64 i) (x : Ext) (he : e < 4000000000000000000) :
    ∃ w', (Instr.mapUpdate 67 (.map (some m)) (.int .i64 i) (xv x)).run Tryz.prog w = .ok () w' ∧ PlAt w' m (e + 1) (putP P i x) ∧ Only (· = m) w w' := by
  obtain ⟨D, h1, h2⟩ := h
  obtain ⟨w', hrun, r1, r2⟩ := h1.store intLaw Tryz.underlying67 (by unfold maxLen; omega) (key_int hi) (extElem_mk x)
  refine ⟨w', hrun, ⟨_, r1, fun j hj => ?_⟩, turned_only r2⟩
  unfold putP
  by_cases hy : j = i
  · subst hy
    rw [Maps.has_put_same h1.isMap (intLaw.key (key_int hi))]
    refine ⟨by simp, fun z => ?_⟩
    rw [Maps.atKey_put_same h1.isMap (intLaw.key (key_int hi))]
    simp
  · rw [Maps.has_put_other (lit_ne hy), if_neg hy]
    refine ⟨(h2 j hj).1, fun z => ?_⟩
    rw [Maps.atKey_put_other (lit_ne hy)]
    exact (h2 j hj).2 z
theorem PlAt.drop {w : World} {m e : Nat} {P : Int → Option Ext} (h : PlAt w m e P) (i : Int) (hi : W64 i) (ty : TypeId) :
    ∃ w', (Builtin.delete_ #[67, 3] ty #[.map (some m), .int .i64 i]).run Tryz.prog w = .ok (.tuple #[]) w' ∧ PlAt w' m e (delP P i) ∧ Only (· = m) w w' := by
  obtain ⟨D, h1, h2⟩ := h
  obtain ⟨w', hrun, r1, r2⟩ := h1.drop intLaw Tryz.underlying67 (key_int hi) ty
  refine ⟨w', hrun, ⟨_, r1, fun j hj => ?_⟩, turned_only r2⟩
  unfold delP
  by_cases hy : j = i
  · subst hy
    rw [Maps.has_del_same]
    refine ⟨by simp, fun z => ?_⟩
    rw [Maps.atKey_del_same]
    simp
  · rw [Maps.has_del_other (lit_ne hy), if_neg hy]
    refine ⟨(h2 j hj).1, fun z => ?_⟩
    rw [Maps.atKey_del_other (lit_ne hy)]
    exact (h2 j hj).2 z
/-- The keys, in whatever order. -/
theorem PlAt.keys {w : World} {m e : Nat} {P : Int → Option Ext} (h : PlAt w m e P) (l : List Int) (hn : l.Nodup) (hw : ∀ i ∈ l, W64 i) (hl : ∀ i, W64 i → (i ∈ l ↔ (P i).isSome = true)) :
    ∃ D : DataW Unit, w.ownsMap Tryz.prog 3 extElem m e D ∧ l.Perm (intKeys D) ∧ Maps.size D = l.length := by
  obtain ⟨D, h1, h2⟩ := h
  obtain ⟨es, rfl, hp⟩ := h1.tidy intLaw
  have hko : ∀ p ∈ es, ∃ x : Int, p.1 = .int .i64 x ∧ W64 x := by
    obtain ⟨es0, hD, hk⟩ := h1.keysOf
    injection hD with hD
    subst hD
    intro p hp'
    obtain ⟨v, hv⟩ := hk p hp'
    obtain ⟨x, _, hx, hw⟩ := Maps.keyOf_i64 Tryz.underlying3 hv
    exact ⟨x, hx, hw⟩
  have hp2 : l.Perm (intKeys (.map es : DataW Unit)) := perm_intKeys hp (fun p hp' => ⟨_, (hko p hp').choose_spec.1⟩) hn (fun x => by
    by_cases hx : W64 x
    · rw [hl x hx, (h2 x hx).1]
    · refine ⟨fun h => absurd (hw x h) hx, fun h => ?_⟩
      rw [Maps.has_eq, List.any_eq_true] at h
      obtain ⟨p, hp', hs⟩ := h
      obtain ⟨y, hy, hwy⟩ := hko p hp'
      rw [hy] at hs
      simp [Lit.sameKey] at hs
      subst hs
      exact absurd hwy hx)
  refine ⟨_, h1, hp2, ?_⟩
  rw [hp2.length_eq]
  simp [intKeys, Maps.size_eq]
end Go.Proofs.YtccpmaahnfgkeaaGreatDoor
