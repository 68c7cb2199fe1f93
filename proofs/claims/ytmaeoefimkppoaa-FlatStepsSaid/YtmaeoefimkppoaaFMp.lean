/- Maps from numbers to whatever values, in memory: what a look-up, a store, an entry that is written, a count do. No condition but those that each statement names. -/
import Derived.Test.YtmaeoefimkppoaaVSpo
import Derived.Lib.SlKeysI
import Derived.WideKeyEntry
import Derived.Maps.RangeWalk
namespace Go.Proofs.Ytmaeoefimkppoaa.Fl
set_option maxRecDepth 1000000
open Go.ChangeShapes Go.WideShapes Go.ChangeAt Go.RowKit Go.ChangeMaps Go.MapKept Go.WideElems
open Go.Proofs.Ytmaeoefimkppoaa.Wd

def W64 (i : Int) : Prop := (Lit.int .i64 i).wf = true
theorem w64_of {n : Int} (h1 : -9223372036854775808 ≤ n) (h2 : n ≤ 9223372036854775807) : W64 n := by
  have e1 : IntKind.i64.min = -9223372036854775808 := rfl
  have e2 : IntKind.i64.max = 9223372036854775807 := rfl
  simp only [W64, Lit.wf, Bool.and_eq_true, decide_eq_true_eq]; omega
def zObj : Value := .agg #[.int .i64 0, .int .i64 0, .slice none 0 0, .slice none 0 0]
def held (v : Value) : Option (DataW Value × List MemPlace) := some (.held v, [])
theorem held_inv {v u : Value} {ps : List MemPlace} (h : held v = some (.held u, ps)) : v = u := by
  simp only [held, Option.some.injEq, Prod.mk.injEq, DataW.held.injEq] at h
  exact h.1
theorem intLaw : Maps.Keyed Try.prog 3 := Maps.int_keyed Try.underlying3
theorem key_int {i : Int} (h : W64 i) : keyOf Try.prog 3 (.int .i64 i) = some (.int .i64 i) := Maps.keyOf_int_mk Try.underlying3 h
theorem zero33 (w : World) : (zeroValue 33).run Try.prog w = .ok zObj w := by kernel_rfl
theorem lit_ne {i j : Int} (h : i ≠ j) : Lit.int .i64 i ≠ Lit.int .i64 j := fun e => h (by injection e)
theorem turned_only {w w' : World} {m : Nat} (h : w.mapTurned w' m) : Only (· = m) w w' := by
  have g := h.grown
  exact ⟨g.os, g.tape, g.output, g.size, fun k hk hne => g.block k hk (fun e => hne (Option.some.inj e))⟩
theorem only_below {w w' : World} (h : Below w.heap.size w w') : Only (fun _ => False) w w' := ⟨h.os, h.tape, h.output, h.size, fun k hk _ => h.block k hk⟩

/-- The map at block m holds what f says, at most e entries. -/
def MapV (w : World) (m e : Nat) (f : Int → Option Value) : Prop :=
  ∃ D : DataW Value, w.ownsMap Try.prog 3 held m e D ∧ ∀ i, W64 i → Maps.has D (.int .i64 i) = (f i).isSome ∧ ∀ z, D.atKey (.int .i64 i) z = (f i).elim z .held

section
variable {w w' : World} {m e : Nat} {f : Int → Option Value}
theorem MapV.only {F : Nat → Prop} (h : MapV w m e f) (o : Only F w w') (hF : ¬ F m) : MapV w' m e f := by
  obtain ⟨D, ⟨es, ck, hb, r⟩, h2⟩ := h
  exact ⟨D, ⟨es, ck, (o.block m (Array.getElem?_eq_some_iff.1 hb).1 hF).trans hb, r⟩, h2⟩
theorem MapV.heap (h : MapV w m e f) (hh : w'.heap = w.heap) : MapV w' m e f := by
  obtain ⟨D, ⟨es, ck, hb, r⟩, h2⟩ := h
  exact ⟨D, ⟨es, ck, by rw [hh]; exact hb, r⟩, h2⟩
theorem MapV.mono {e' : Nat} (h : MapV w m e f) (he : e ≤ e') : MapV w m e' f := by
  obtain ⟨D, h1, h2⟩ := h
  exact ⟨D, h1.mono he, h2⟩
theorem MapV.lt (h : MapV w m e f) : m < w.heap.size := by
  obtain ⟨D, h1, h2⟩ := h
  exact h1.lt
theorem MapV.obj (h : MapV w m e f) : ∃ es ck, w.heap[m]? = some (.map es ck) := by
  obtain ⟨D, ⟨es, ck, hb, r⟩, h2⟩ := h
  exact ⟨es, ck, hb⟩
theorem MapV.congr {g : Int → Option Value} (h : MapV w m e f) (he : ∀ x, W64 x → f x = g x) : MapV w m e g := by
  obtain ⟨D, h1, h2⟩ := h
  exact ⟨D, h1, fun i hi => by rw [← he i hi]; exact h2 i hi⟩
theorem map_made (w : World) : MapV (w.alloc (.map #[] 0)) w.heap.size 0 (fun _ => none) :=
  ⟨.map [], World.ownsMap_made _ _ _ _, fun _ _ => ⟨rfl, fun _ => rfl⟩⟩

theorem MapV.look (h : MapV w m e f) (i : Int) (hi : W64 i) :
    (Instr.lookup 73 (.map (some m)) (.int .i64 i) true).run Try.prog w = .ok (.tuple #[(f i).getD zObj, .bool (f i).isSome]) w := by
  obtain ⟨D, h1, h2⟩ := h
  obtain ⟨v, ps, hrun, hv⟩ := h1.look_ok intLaw Try.underlying73 (zero33 w) (zp := []) (zd := .held zObj) rfl (key_int hi)
  rw [hrun, (h2 i hi).1]
  rw [(h2 i hi).2] at hv
  have : v = (f i).getD zObj := by
    cases hp : f i with
    | none => rw [hp] at hv; exact held_inv hv
    | some x => rw [hp] at hv; exact held_inv hv
  rw [this]
theorem MapV.look1 (h : MapV w m e f) (i : Int) (hi : W64 i) :
    (Instr.lookup 73 (.map (some m)) (.int .i64 i) false).run Try.prog w = .ok ((f i).getD zObj) w := by
  obtain ⟨D, h1, h2⟩ := h
  obtain ⟨v, ps, hrun, hv⟩ := h1.lookup intLaw Try.underlying73 (zero33 w) (zp := []) (zd := .held zObj) rfl (key_int hi)
  rw [hrun]
  rw [(h2 i hi).2] at hv
  have : v = (f i).getD zObj := by
    cases hp : f i with
    | none => rw [hp] at hv; exact held_inv hv
    | some x => rw [hp] at hv; exact held_inv hv
  rw [this]
def putM (f : Int → Option Value) (i : Int) (x : Value) : Int → Option Value := fun j => if j = i then some x else f j
theorem put_view {D : DataW Value} (hD : Maps.IsMap D) (h2 : ∀ i, W64 i → Maps.has D (.int .i64 i) = (f i).isSome ∧ ∀ z, D.atKey (.int .i64 i) z = (f i).elim z .held) (i : Int) (hi : W64 i) (x : Value) :
    ∀ j, W64 j → Maps.has (D.put (.int .i64 i) (.held x)) (.int .i64 j) = (putM f i x j).isSome ∧ ∀ z, (D.put (.int .i64 i) (.held x)).atKey (.int .i64 j) z = (putM f i x j).elim z .held := by
  intro j hj
  unfold putM
  by_cases hy : j = i
  · subst hy
    rw [Maps.has_put_same hD (intLaw.key (key_int hi))]
    refine ⟨by simp, fun z => ?_⟩
    rw [Maps.atKey_put_same hD (intLaw.key (key_int hi))]
    simp
  · rw [Maps.has_put_other (lit_ne hy), if_neg hy]
    refine ⟨(h2 j hj).1, fun z => ?_⟩
    rw [Maps.atKey_put_other (lit_ne hy)]
    exact (h2 j hj).2 z
theorem MapV.store (h : MapV w m e f) (i : Int) (hi : W64 i) (x : Value) (he : e < 4000000000000000000) :
    ∃ w', (Instr.mapUpdate 73 (.map (some m)) (.int .i64 i) x).run Try.prog w = .ok () w' ∧ MapV w' m (e + 1) (putM f i x) ∧ Only (· = m) w w' := by
  obtain ⟨D, h1, h2⟩ := h
  obtain ⟨w', hrun, r1, r2⟩ := h1.store intLaw Try.underlying73 (by unfold maxLen; omega) (key_int hi) (d := .held x) (ps := []) rfl
  exact ⟨w', hrun, ⟨_, r1, put_view h1.isMap h2 i hi x⟩, turned_only r2⟩
/-- The keys, in whatever order. -/
theorem MapV.keys (h : MapV w m e f) (l : List Int) (hn : l.Nodup) (hw : ∀ i ∈ l, W64 i) (hl : ∀ i, W64 i → (i ∈ l ↔ (f i).isSome = true)) :
    ∃ D : DataW Value, w.ownsMap Try.prog 3 held m e D ∧ l.Perm (intKeys D) ∧ Maps.size D = l.length := by
  obtain ⟨D, h1, h2⟩ := h
  obtain ⟨es, rfl, hp⟩ := h1.tidy intLaw
  have hko : ∀ p ∈ es, ∃ x : Int, p.1 = .int .i64 x ∧ W64 x := by
    obtain ⟨es0, hD, hk⟩ := h1.keysOf
    injection hD with hD
    subst hD
    intro p hp'
    obtain ⟨v, hv⟩ := hk p hp'
    obtain ⟨x, _, hx, hw⟩ := Maps.keyOf_i64 Try.underlying3 hv
    exact ⟨x, hx, hw⟩
  have hp2 : l.Perm (intKeys (.map es : DataW Value)) := perm_intKeys hp (fun p hp' => ⟨_, (hko p hp').choose_spec.1⟩) hn (fun x => by
    by_cases hx : W64 x
    · rw [hl x hx, (h2 x hx).1]
    · refine ⟨fun h => absurd (hw x h) hx, fun h => ?_⟩
      rw [Maps.has_eq, List.any_eq_true] at h
      obtain ⟨p, hp', hs⟩ := h
      obtain ⟨y, hy, hwy⟩ := hko p hp'
      rw [hy] at hs
      simp [Lit.sameKey] at hs
      subst hs
      exact absurd hwy hx)
  refine ⟨_, h1, hp2, ?_⟩
  rw [hp2.length_eq]
  simp [intKeys, Maps.size_eq]
theorem MapV.len (h : MapV w m e f) (l : List Int) (hn : l.Nodup) (hw : ∀ i ∈ l, W64 i) (hl : ∀ i, W64 i → (i ∈ l ↔ (f i).isSome = true)) (ty : TypeId) :
    (Builtin.len_ #[73] ty #[.map (some m)]).run Try.prog w = .ok (.int .i64 l.length) w := by
  obtain ⟨D, h1, _, h3⟩ := h.keys l hn hw hl
  rw [h1.len Try.underlying73 ty, h3]
theorem MapV.tight (h : MapV w m e f) (l : List Int) (hn : l.Nodup) (hw : ∀ i ∈ l, W64 i) (hl : ∀ i, W64 i → (i ∈ l ↔ (f i).isSome = true)) : MapV w m l.length f := by
  obtain ⟨D, h1, h2⟩ := h
  obtain ⟨D', h1', _, h3⟩ := MapV.keys ⟨D, h1, h2⟩ l hn hw hl
  obtain ⟨es, ck, hb, F, hs, rfl⟩ := h1
  obtain ⟨es', ck', hb', F', hs', rfl⟩ := h1'
  rw [hb] at hb'
  injection hb' with hb'
  injection hb' with e1 e2
  subst e1 e2
  refine ⟨_, ⟨es, ck, hb, F, ?_, rfl⟩, h2⟩
  have := length_read (P := Try.prog) (k := 3) (R0 := held) es
  rw [Maps.size_eq] at h3
  omega
/-- The entry with the stamp st is that of the number i. -/
def StampAt (w : World) (m st : Nat) (i : Int) : Prop := ∃ es ck, ∃ j : Nat, ∃ e0 : MapEntry, w.heap[m]? = some (.map es ck) ∧ es.toList[j]? = some e0 ∧ e0.born = st ∧ e0.key = .int .i64 i
theorem set_same {w : World} {b : Nat} {es : Array MapEntry} {ck : Nat} (hb : w.heap[b]? = some (.map es ck)) : setBlock w b (.map es ck) = w := by
  have e : w.heap.setIfInBounds b (.map es ck) = w.heap := by
    apply Array.ext_getElem?
    intro i
    by_cases hi : i = b
    · subst hi
      exact (heap_setBlock_same hb _).trans hb.symm
    · exact heap_setBlock_other hb _ hi
  unfold setBlock
  rw [e]
/-- An entry that is there: found, and nothing turns. -/
theorem MapV.entry (h : MapV w m e f) (i : Int) (hi : W64 i) (hf : (f i).isSome = true) :
    ∃ (v0 : Value) (st : Nat), (Instr.mapEntry 73 (.map (some m)) (.int .i64 i)).run Try.prog w = .ok (.tuple #[v0, goInt st]) w ∧ StampAt w m st i := by
  obtain ⟨D, ⟨es, clock, hb, F, _, rfl⟩, h2⟩ := h
  have hkey := key_int hi
  rcases intLaw.find w hkey es.toList F.keys with ⟨h1, h3⟩ | ⟨j, e0, h1, h3, h4⟩
  · exfalso
    rcases Maps.fit_look false intLaw Try.underlying73 (zero33 w) hb F hkey with ⟨_, _, hat⟩ | ⟨e0, y, h5, h6, _⟩
    · have := Maps.has_false_of_atKey hat
      rw [(h2 i hi).1, hf] at this
      cases this
    · exact h3 e0 h5 h6
  · have hj : es[j]? = some e0 := by simpa using h3
    have hsame : es.modify j (fun e => { e with key := .int .i64 i }) = es := by
      apply Array.ext'
      rw [Array.toList_modify, modify_eq_set _ _ _ _ h3]
      have : ({ e0 with key := .int .i64 i } : MapEntry) = e0 := by rw [← h4]
      rw [this]
      exact WideElems.set_self _ _ _ h3
    refine ⟨e0.val, e0.born, ?_, es, clock, j, e0, hb, h3, rfl, h4⟩
    have hs := set_same hb
    unfold setBlock at hs
    simp [Instr.mapEntry, run_underlying Try.underlying73, MapKept.run_getObj_map hb, intLaw.check w false hkey, h1, hj, h4, intLaw.stays w hkey, hsame, MapKept.run_setObj_map _ hb, Result.andThen, hs]
theorem MapV.write (h : MapV w m e f) {st : Nat} (i : Int) (hi : W64 i) (hs : StampAt w m st i) (x : Value) (he : e < 4000000000000000000) :
    ∃ w', (Instr.entryStore 73 (.map (some m)) (goInt st) x).run Try.prog w = .ok () w' ∧ MapV w' m (e + 1) (putM f i x) ∧ Only (· = m) w w' ∧ ∀ st' j, StampAt w m st' j → StampAt w' m st' j := by
  obtain ⟨w', r1, r2, r3⟩ := h.store i hi x he
  obtain ⟨D, ⟨es, clock, hb, F, _, rfl⟩, h2⟩ := h
  obtain ⟨es', ck', j, e0, hb', h3, rfl, h4⟩ := hs
  rw [hb] at hb'
  injection hb' with hb'
  injection hb' with e1 e2
  subst e1 e2
  have hkey := key_int hi
  obtain ⟨s1, s2, _⟩ := F.stamped
  have hj : es[j]? = some e0 := by simpa using h3
  have hidx : es.findIdx? (fun e => ((e.born : Nat) : Int) == ((e0.born : Nat) : Int)) = some j := by
    rw [WideElems.findIdx_arr]
    exact WideElems.findIdx_born s2 h3
  have hfk : (Instr.findKey 3 (.int .i64 i) es.toList).run Try.prog w = .ok (some (j, e0.val)) w := by
    rcases intLaw.find w hkey es.toList F.keys with ⟨h1, h5⟩ | ⟨j', e', h1, h5, h6⟩
    · exact absurd h4 (h5 e0 (List.mem_of_getElem? h3))
    · have hap := Maps.fit_apart intLaw F
      have : j' = j := by
        apply Decidable.byContradiction
        intro hne
        have hb1 : e'.key = e0.key := h6.trans h4.symm
        obtain ⟨l1, q1⟩ := List.getElem?_eq_some_iff.1 h5
        obtain ⟨l2, q2⟩ := List.getElem?_eq_some_iff.1 h3
        have hr : ∀ (a b : Nat) (ha : a < es.toList.length) (hb : b < es.toList.length), a < b → es.toList[a].key ≠ es.toList[b].key := by
          intro a b ha hb hab hk
          have hp := List.pairwise_iff_getElem.1 hap a b (by simpa using ha) (by simpa using hb) hab
          simp only [List.getElem_map] at hp
          obtain ⟨y1, hy1⟩ := F.reads _ (List.getElem_mem ha)
          obtain ⟨y2, hy2⟩ := F.reads _ (List.getElem_mem hb)
          have k1 := WideElems.rd_key hy1
          have k2 := WideElems.rd_key hy2
          rw [hk, k2] at k1
          rw [WideElems.rg_of hy1, WideElems.rg_of hy2] at hp
          exact hp (Option.some.inj k1).symm
        rcases Nat.lt_or_gt_of_ne hne with hlt | hlt
        · exact hr j' j l1 l2 hlt (by rw [q1, q2]; exact hb1)
        · exact hr j j' l2 l1 hlt (by rw [q1, q2]; exact hb1.symm)
      subst this
      rw [h3] at h5
      injection h5 with h5
      rw [h1, h5]
  have hmod : es.modify j (fun e => { e with val := x }) = es.modify j (fun e' => { e' with key := .int .i64 i, val := x }) := by
    apply Array.ext'
    rw [Array.toList_modify, Array.toList_modify, modify_eq_set _ _ _ _ h3, modify_eq_set _ _ _ _ h3, ← h4]
  have hrun : (Instr.mapUpdate 73 (.map (some m)) (.int .i64 i) x).run Try.prog w = .ok () (setBlock w m (.map (es.modify j (fun e' => { e' with key := .int .i64 i, val := x })) clock)) := by
    simp [Instr.mapUpdate, run_underlying Try.underlying73, MapKept.run_getObj_map hb, intLaw.check w false hkey, hfk, hj, h4, intLaw.stays w hkey, MapKept.run_setObj_map _ hb, Result.andThen, setBlock]
  rw [hrun] at r1
  injection r1 with _ r1
  subst r1
  refine ⟨_, ?_, r2, r3, ?_⟩
  · simp [Instr.entryStore, MapKept.run_getObj_map hb, asInt, asIntOf, goInt, hidx, hmod, MapKept.run_setObj_map _ hb, Result.andThen, setBlock]
  · rintro st' j2 ⟨es', ck', q, e2, hb2, h5, rfl, h6⟩
    rw [hb] at hb2
    injection hb2 with hb2
    injection hb2 with e1 e2
    subst e1 e2
    refine ⟨_, clock, q, if q = j then { e2 with key := .int .i64 i, val := x } else e2, heap_setBlock_same hb _, ?_, ?_, ?_⟩
    · rw [Array.toList_modify, modify_eq_set _ _ _ _ h3, List.getElem?_set]
      by_cases hq : q = j
      · subst hq
        rw [h3] at h5
        injection h5 with h5
        subst h5
        rw [if_pos rfl, if_pos rfl, if_pos (List.getElem?_eq_some_iff.1 h3).1]
      · rw [if_neg (Ne.symm hq), if_neg hq]; exact h5
    · split <;> rfl
    · split
      · rename_i hq
        subst hq
        rw [h3] at h5
        injection h5 with h5
        subst h5
        rw [← h6, h4]
      · exact h6
end

/-- A map value that may be nil. -/
def MapO (w : World) (r : Option Nat) (e : Nat) (f : Int → Option Value) : Prop := (r = none ∧ ∀ i, W64 i → f i = none) ∨ ∃ b, r = some b ∧ MapV w b e f
section
variable {w w' : World} {r : Option Nat} {e : Nat} {f : Int → Option Value}
theorem MapO.only {F : Nat → Prop} (h : MapO w r e f) (o : Only F w w') (hF : ∀ b, r = some b → ¬ F b) : MapO w' r e f :=
  h.imp id fun ⟨b, hb, h⟩ => ⟨b, hb, h.only o (hF b hb)⟩
theorem MapO.mono {e' : Nat} (h : MapO w r e f) (he : e ≤ e') : MapO w r e' f := h.imp id fun ⟨b, hb, h⟩ => ⟨b, hb, h.mono he⟩
theorem MapO.congr {g : Int → Option Value} (h : MapO w r e f) (he : ∀ x, W64 x → f x = g x) : MapO w r e g :=
  h.imp (fun ⟨a, b⟩ => ⟨a, fun i hi => (he i hi) ▸ b i hi⟩) fun ⟨b, hb, h⟩ => ⟨b, hb, h.congr he⟩
theorem MapO.look (h : MapO w r e f) (i : Int) (hi : W64 i) :
    (Instr.lookup 73 (.map r) (.int .i64 i) true).run Try.prog w = .ok (.tuple #[(f i).getD zObj, .bool (f i).isSome]) w := by
  rcases h with ⟨rfl, h⟩ | ⟨b, rfl, h⟩
  · rw [h i hi]
    exact Maps.look_nil true intLaw Try.underlying73 (zero33 w) (key_int hi)
  · exact h.look i hi
theorem MapO.look1 (h : MapO w r e f) (i : Int) (hi : W64 i) :
    (Instr.lookup 73 (.map r) (.int .i64 i) false).run Try.prog w = .ok ((f i).getD zObj) w := by
  rcases h with ⟨rfl, h⟩ | ⟨b, rfl, h⟩
  · rw [h i hi]
    exact Maps.look_nil false intLaw Try.underlying73 (zero33 w) (key_int hi)
  · exact h.look1 i hi
theorem MapO.len (h : MapO w r e f) (l : List Int) (hn : l.Nodup) (hw : ∀ i ∈ l, W64 i) (hl : ∀ i, W64 i → (i ∈ l ↔ (f i).isSome = true)) (ty : TypeId) :
    (Builtin.len_ #[73] ty #[.map r]).run Try.prog w = .ok (.int .i64 l.length) w := by
  rcases h with ⟨rfl, h⟩ | ⟨b, rfl, h⟩
  · have : l = [] := by
      cases l with
      | nil => rfl
      | cons a t =>
        have := (hl a (hw a (by simp))).1 (by simp)
        rw [h a (hw a (by simp))] at this
        cases this
    subst this
    exact Maps.len_nil Try.underlying73 ty
  · exact h.len l hn hw hl ty
end
end Go.Proofs.Ytmaeoefimkppoaa.Fl
