/- The chapter's space, texts one behind the other: GFo GFp. -/
import Derived.Test.YtccpmaahnfgkeaaGreatDoorGG2

/- What Make, Store and Drop of the chapter tell, each told by what package second's tells: one statement for all ways. -/
namespace Go.Proofs.YtccpmaahnfgkeaaGreatDoor
set_option maxRecDepth 1000000
open Go.ChangeShapes Go.WideShapes Go.ChangeAt Go.RowKit
open Wd (Ob okO encO refsO ObjAt In64 I64)

def ChMid (N : Nat → Prop) (E' : List Ent) (a' : Option Addr) (y' c' : Nat) (w w' : World) : Prop := ∃ L' : List RE, entsOf L' = E' ∧ L'.length = y' ∧ SpV (fun k => N k ∨ w.heap.size ≤ k) w' (.slice a' y' c') L' ∧ Below w.heap.size w w'
def ChPost3 (N : Nat → Prop) (n m' : Nat) (E' : List Ent) (id t : Int) (w : World) (e : Ending) (w' : World) : Prop :=
  ∃ a' y' c', e = .returned (.tuple #[.agg #[.slice a' y' c', .int .i64 n, .int .i64 m'], .int .i64 id, .int .i64 t]) ∧ ChMid N E' a' y' c' w w'
def ChPost2 (N : Nat → Prop) (n m' : Nat) (E' : List Ent) (t : Int) (w : World) (e : Ending) (w' : World) : Prop :=
  ∃ a' y' c', e = .returned (.tuple #[.agg #[.slice a' y' c', .int .i64 n, .int .i64 m'], .int .i64 t]) ∧ ChMid N E' a' y' c' w w'
theorem mid_same {N : Nat → Prop} {a : Option Addr} {c : Nat} {L : List RE} {w w' : World} (h : SpV N w (.slice a L.length c) L) (b : Below w.heap.size w w') : ChMid N (entsOf L) a L.length c w w' :=
  ⟨L, rfl, rfl, (h.fresh b).kind (fun _ _ h => .inl h), b⟩
theorem make6_gen {N : Nat → Prop} (v : Value) (n m : Nat) (L : List RE) (v0 : Value) (o : Ob) (w : World) (h : SpV N w v L) (ho : ObjAt w v0 o) (hfar : Wd.Far o) (hl : L.length ≤ 1000000) (hn : n ≤ 1000000) (hG : Good n (rowsE (entsOf L))) (hg : GoodE m (entsOf L)) {id t : Int} {m' : Nat} {E' : List Ent} (is : MakeIs n m (entsOf L) o id t m' E') :
    Calls Tryz.prog 8 #[.agg #[v, .int .i64 n, .int .i64 m], v0] w (ChPost3 N n m' E' id t w) := by
  obtain ⟨a, c, rfl⟩ := h.form
  have hok : ∀ p ∈ L, okO p.1.o = true := fun p hp => hg.ok _ (List.mem_map.2 ⟨p, hp, rfl⟩)
  have no : ∀ t e w', MkNo (.slice a L.length c) n m t w e w' → ChPost3 N n m (entsOf L) 0 t w e w' := fun t e w' ⟨he, hb⟩ => ⟨a, L.length, c, he, mid_same h hb⟩
  rcases is with ⟨h0, rfl, rfl, rfl, rfl⟩ | ⟨h0, rfl, rfl, rfl, rfl, hF⟩ | ⟨h0, hm, rfl, rfl, rfl, b, hF, rfl⟩
  · exact (make6_bad _ n m' L v0 o w h ho hfar h0).mono fun e w' h => no _ e w' h
  · obtain ⟨b, ok, hb⟩ := first_ex (tk (rowsE (entsOf L))) n (szO o)
    cases ok with
    | false => exact (make6_full _ n m' L v0 o w h ho h0 hok hl hn hG b hb).mono fun e w' h => no _ e w' h
    | true =>
      refine (make6_put _ n m' L v0 o w h ho h0 hok hl hn hG b hb).mono fun e w' h => ?_
      rcases h with ⟨_, h⟩ | ⟨hm, h⟩
      · exact no _ e w' h
      · rcases hF with h1 | ⟨b', hb'⟩
        · omega
        · have := (firstIs_eq hb hb').2
          cases this
  · refine (make6_put _ n m L v0 o w h ho h0 hok hl hn hG b hF).mono fun e w' h => ?_
    rcases h with ⟨h1, _⟩ | ⟨_, a', c', wv, bv, he, hs, hb⟩
    · omega
    · exact ⟨a', _, c', he, L ++ [(⟨m + 1, o, b⟩, wv, bv)], by rw [ents_append]; rfl, by rw [List.length_append]; rfl, hs, hb⟩
theorem store6_gen {N : Nat → Prop} (v : Value) (n m : Nat) (L : List RE) (v0 : Value) (o : Ob) (i : Int) (w : World) (h : SpV N w v L) (ho : ObjAt w v0 o) (hfar : Wd.Far o) (hl : L.length ≤ 1000000) (hn : n ≤ 1000000) (hG : Good n (rowsE (entsOf L))) (hg : GoodE m (entsOf L)) {t : Int} {E' : List Ent} (is : StoreIs n (entsOf L) i o t E') :
    Calls Tryz.prog 13 #[.agg #[v, .int .i64 n, .int .i64 m], .int .i64 i, v0] w (ChPost2 N n m E' t w) := by
  obtain ⟨a, c, rfl⟩ := h.form
  have no : ∀ t e w', StNo (.slice a L.length c) n m t w e w' → ChPost2 N n m (entsOf L) t w e w' := fun t e w' ⟨he, hb⟩ => ⟨a, L.length, c, he, mid_same h hb⟩
  rcases is with ⟨h0, rfl, rfl⟩ | ⟨x, hx, hi, is⟩
  · exact (store6_none _ n m L v0 o i w h ho hl h0).mono fun e w' h => no _ e w' h
  · obtain ⟨p, hp, rfl⟩ := List.mem_map.1 hx
    obtain ⟨j, hj, rfl⟩ := List.mem_iff_getElem.1 hp
    rcases is with ⟨h0, rfl, rfl⟩ | ⟨h0, b, ok, hR, rfl, rfl⟩
    · exact (store6_bad _ n m m L v0 o j hj i hi w h ho hfar hl hg h0).mono fun e w' h => no _ e w' h
    · refine (store6_put _ n m m L v0 o j hj i hi b ok w h ho hl hg h0 hn hG hR).mono fun e w' h => ?_
      rcases h with ⟨rfl, h⟩ | ⟨rfl, a', c', wv, bv, he, hs, hb⟩
      · exact no _ e w' h
      · refine ⟨a', _, c', he, L.set j (⟨L[j].1.id, o, b⟩, wv, bv), ?_, List.length_set, hs, hb⟩
        rw [if_pos rfl, ents_set]
        have hj' : j < (entsOf L).length := by rw [ents_len]; exact hj
        have := set_ents hg.rise hj' o b
        rw [ent_at hj hj'] at this
        exact this.symm
theorem drop6_gen {N : Nat → Prop} (v : Value) (n m : Nat) (L : List RE) (g : Nat) (i : Int) (w : World) (h : SpV N w v L) (hc : w.cell? ⟨g, 0, none⟩ = some (.int .i64 i)) (hl : L.length ≤ 1000000) (hg : GoodE m (entsOf L)) {t : Int} {E' : List Ent} (is : DropIs (entsOf L) i t E') :
    Calls Tryz.prog 15 #[.agg #[v, .int .i64 n, .int .i64 m], .slice (some ⟨g, 0, none⟩) 1 1] w (ChPost2 N n m E' t w) := by
  rcases is with ⟨h0, rfl, rfl⟩ | ⟨h0, rfl, rfl⟩
  · obtain ⟨j, hj, hi⟩ := has_at h0
    refine (drop6_at v n m m L g j hj i hi w h hc hl hg).mono fun e w' h => ?_
    obtain ⟨a', c', he, hs, hb⟩ := h
    refine ⟨a', _, c', he, L.take j ++ L.drop (j + 1), ?_, rfl, hs, hb⟩
    rw [ents_erase]
    have hj' : j < (entsOf L).length := by rw [ents_len]; exact hj
    have := drop_ents hg.rise hj'
    rw [ent_at hj hj', hi] at this
    exact this.symm
  · obtain ⟨a, c, rfl⟩ := h.form
    exact (drop6_none _ n m L g i w h hc hl h0).mono fun e w' ⟨he, hb⟩ => ⟨a, L.length, c, he, mid_same h hb⟩
/-- Find, by what is there. -/
def FindR (L : List RE) (i : Int) (k : Int) : Prop := (k = -1 ∧ hasE (entsOf L) i = false) ∨ ∃ (j : Nat) (h : j < L.length), k = j ∧ (L[j].1.id : Int) = i ∧ hasE (entsOf L) i = true
theorem find_ex (L : List RE) (i : Int) : ∃ k, FindR L i k := by
  cases h : hasE (entsOf L) i with
  | false => exact ⟨-1, .inl ⟨rfl, h⟩⟩
  | true =>
    obtain ⟨j, hj, hi⟩ := has_at h
    exact ⟨j, .inr ⟨j, hj, rfl, hi, h⟩⟩
theorem find_r {N : Nat → Prop} (v : Value) (n m M : Nat) (L : List RE) (i k : Int) (w : World) (h : SpV N w v L) (hl : L.length ≤ 1000000) (hg : GoodE M (entsOf L)) (hk : FindR L i k) :
    Calls Tryz.prog 10 #[.agg #[v, .int .i64 n, .int .i64 m], .int .i64 i] w fun e w' => e = .returned (.int .i64 k) ∧ Below w.heap.size w w' := by
  rcases hk with ⟨rfl, hf⟩ | ⟨j, hj, rfl, hi, _⟩
  · exact find6_no v n m L i w h hl hf
  · have := find6_at v n m M L j hj w h hl hg
    rw [hi] at this
    exact this
theorem find_pos {L : List RE} {i k : Int} (h : FindR L i k) : decide (0 ≤ k) = hasE (entsOf L) i := by
  rcases h with ⟨rfl, hf⟩ | ⟨j, hj, rfl, hi, hh⟩
  · rw [hf]; rfl
  · rw [hh]; exact decide_eq_true (by omega)
end Go.Proofs.YtccpmaahnfgkeaaGreatDoor

/- What stands while the law SecondSteps does things: package second's space, the chapter's space in its variable, and in the variable of the round. -/
namespace Go.Proofs.YtccpmaahnfgkeaaGreatDoor
set_option maxRecDepth 1000000
open Go.ChangeShapes Go.WideShapes Go.ChangeAt Go.RowKit
open Wd (Ob okO encO refsO ObjAt In64 I64)

theorem SpV.atq {N : Nat → Prop} {w : World} {v : Value} {L : List RE} {j : Nat} {pe : RE} (h : SpV N w v L) (hp : L[j]? = some pe) : ∃ b off c, v = .slice (some ⟨b, off, none⟩) L.length c ∧ N b ∧ RowAt N w b off j pe := by
  obtain ⟨hj, rfl⟩ := List.getElem?_eq_some_iff.1 hp
  exact h.at_ j hj
structure StAt (W : World) (c : Sc) (p9 n k m : Nat) (L : List RE) (vL : Value) (wr : World) : Prop where
  sec : SecAt wr c n k m (entsOf L)
  box : BoxS wr p9 vL n m
  sp : SpV (fun b => ¬ c.F b ∧ b ≠ p9) wr vL L
  below : Below W.heap.size W wr
  lo : W.heap.size ≤ c.s.lo
  np : c.q < p9
structure MdAt (W : World) (c : Sc) (p9 p15 n k m : Nat) (vL : Value) (m1 : Nat) (E1 : List Ent) (m' : Nat) (L' : List RE) (vL' : Value) (wr : World) : Prop where
  sec : SecAt wr c n k m1 E1
  box : BoxS wr p9 vL n m
  box2 : BoxS wr p15 vL' n m'
  sp : SpV (fun b => ¬ c.F b ∧ b ≠ p9 ∧ b ≠ p15) wr vL' L'
  below : Below W.heap.size W wr
  lo : W.heap.size ≤ c.s.lo
  np : c.q < p9
  np2 : p9 < p15
theorem lo_q {c : Sc} {w : World} {n u m : Nat} {L : List Ent} (h : SecAt w c n u m L) : c.s.lo ≤ c.q := by have := h.ord; have := h.sp.ord; omega
section
variable {W : World} {c : Sc} {p9 p15 n k m m1 m' : Nat} {L L' : List RE} {E1 : List Ent} {vL vL' : Value} {wr w' : World}
theorem StAt.len (h : StAt W c p9 n k m L vL wr) : L.length ≤ 20000 := by have := h.sec.len; rwa [ents_len] at this
theorem StAt.start (s : SecAt wr c n 0 0 []) (hlo : W.heap.size ≤ c.s.lo) (hb : Below W.heap.size W wr) : StAt W c wr.heap.size n 0 0 [] (.slice none 0 0) (wr.alloc (.cells #[.slice none 0 0, .int .i64 n, .int .i64 0] 32)) := by
  have b : Below wr.heap.size wr (wr.alloc (.cells #[.slice none 0 0, .int .i64 n, .int .i64 0] 32)) := (Below.refl _ _).alloc (Nat.le_refl _) _
  exact ⟨s.fresh b, boxS_new _ _ _ _ _, spv_nil _ _, hb.trans (b.mono hb.size), hlo, s.lt⟩
theorem StAt.mid (h : StAt W c p9 n k m L vL wr) : MdAt W c p9 wr.heap.size n k m vL m (entsOf L) m L vL (wr.alloc (.cells #[vL, .int .i64 n, .int .i64 m] 32)) := by
  have b : Below wr.heap.size wr (wr.alloc (.cells #[vL, .int .i64 n, .int .i64 m] 32)) := (Below.refl _ _).alloc (Nat.le_refl _) _
  exact ⟨h.sec.fresh b, h.box.fresh b, boxS_new _ _ _ _ _, (h.sp.kind (M := fun b => ¬ c.F b ∧ b ≠ p9 ∧ b ≠ wr.heap.size) (fun b hb hN => ⟨hN.1, hN.2, by omega⟩)).fresh b, h.below.trans (b.mono h.below.size), h.lo, h.np, h.box.2.2.2.2⟩
theorem MdAt.fresh (h : MdAt W c p9 p15 n k m vL m1 E1 m' L' vL' wr) (b : Below wr.heap.size wr w') : MdAt W c p9 p15 n k m vL m1 E1 m' L' vL' w' :=
  ⟨h.sec.fresh b, h.box.fresh b, h.box2.fresh b, h.sp.fresh b, h.below.trans (b.mono h.below.size), h.lo, h.np, h.np2⟩
theorem MdAt.mono {k' : Nat} (h : MdAt W c p9 p15 n k m vL m1 E1 m' L' vL' wr) (hk : k ≤ k') : MdAt W c p9 p15 n k' m vL m1 E1 m' L' vL' wr :=
  ⟨h.sec.mono hk, h.box, h.box2, h.sp, h.below, h.lo, h.np, h.np2⟩
theorem MdAt.off (h : MdAt W c p9 p15 n k m vL m1 E1 m' L' vL' wr) : ¬ c.F p9 ∧ ¬ c.F p15 := ⟨fun hf => by have := hf.2; have := h.np; omega, fun hf => by have := hf.2; have := h.np; have := h.np2; omega⟩
theorem MdAt.did {k' m2 : Nat} {E2 : List Ent} (h : MdAt W c p9 p15 n k m vL m1 E1 m' L' vL' wr) (s : SecAt w' c n k' m2 E2) (o : Only c.F wr w') : MdAt W c p9 p15 n k' m vL m2 E2 m' L' vL' w' :=
  ⟨s, h.box.only o h.off.1, h.box2.only o h.off.2, h.sp.only o (fun _ hb => hb.1), h.below.trans (o.below (fun i hi hf => by have := hf.1; have := h.lo; omega) h.below.size), h.lo, h.np, h.np2⟩
/-- What the chapter's call told is put into the variable of the round. -/
theorem MdAt.put {m2 : Nat} {E2 : List Ent} {a' : Option Addr} {y' c' : Nat} (h : MdAt W c p9 p15 n k m vL m1 E1 m' L' vL' wr) (hm : ChMid (fun b => ¬ c.F b ∧ b ≠ p9 ∧ b ≠ p15) E2 a' y' c' wr w') :
    ∃ L2, entsOf L2 = E2 ∧ L2.length = y' ∧ MdAt W c p9 p15 n k m vL m1 E1 m2 L2 (.slice a' y' c') (((w'.setCell ⟨p15, 0, none⟩ (.slice a' y' c')).setCell ⟨p15, 1, none⟩ (.int .i64 n)).setCell ⟨p15, 2, none⟩ (.int .i64 m2)) := by
  obtain ⟨L2, he, hl, hs, hb⟩ := hm
  have g := h.fresh hb
  have o : Only (· = p15) w' (((w'.setCell ⟨p15, 0, none⟩ (.slice a' y' c')).setCell ⟨p15, 1, none⟩ (.int .i64 n)).setCell ⟨p15, 2, none⟩ (.int .i64 m2)) := putS_only (Only.refl _ _) (.inl rfl)
  have l1 := h.box2.2.2.2.2
  have l2 := h.np
  have l3 := h.np2
  have l4 := h.lo
  have l5 := lo_q h.sec
  refine ⟨L2, he, hl, ⟨g.sec.only o (fun i hi (e : i = p15) => h.off.2 (e ▸ hi)) (fun (e : (0 : Nat) = p15) => by omega), g.box.only o (by show ¬ p9 = p15; omega), g.box2.put _ _ _, (hs.kind (M := fun b => ¬ c.F b ∧ b ≠ p9 ∧ b ≠ p15) (fun b _ hN => ?_)).only o (fun b hN (e : b = p15) => hN.2.2 e), g.below.trans (o.below (fun i hi (e : i = p15) => by omega) g.below.size), h.lo, h.np, h.np2⟩⟩
  rcases hN with hN | hN
  · exact hN
  · exact ⟨fun hf => by have := hf.2; omega, by omega, by omega⟩
theorem MdAt.end_ (h : MdAt W c p9 p15 n k m vL m' (entsOf L') m' L' vL' wr) : StAt W c p9 n k m' L' vL' (((wr.setCell ⟨p9, 0, none⟩ vL').setCell ⟨p9, 1, none⟩ (.int .i64 n)).setCell ⟨p9, 2, none⟩ (.int .i64 m')) := by
  have o : Only (· = p9) wr (((wr.setCell ⟨p9, 0, none⟩ vL').setCell ⟨p9, 1, none⟩ (.int .i64 n)).setCell ⟨p9, 2, none⟩ (.int .i64 m')) := putS_only (Only.refl _ _) (.inl rfl)
  have l2 := h.np
  have l4 := h.lo
  have l5 := lo_q h.sec
  exact ⟨h.sec.only o (fun i hi (e : i = p9) => h.off.1 (e ▸ hi)) (fun (e : (0 : Nat) = p9) => by omega), h.box.put _ _ _, (h.sp.only o (fun b hN (e : b = p9) => hN.2.1 e)).kind (fun b _ hN => ⟨hN.1, hN.2.1⟩), h.below.trans (o.below (fun i hi (e : i = p9) => by omega) h.below.size), h.lo, h.np⟩
theorem StAt.fresh (h : StAt W c p9 n k m L vL wr) (b : Below wr.heap.size wr w') : StAt W c p9 n k m L vL w' :=
  ⟨h.sec.fresh b, h.box.fresh b, h.sp.fresh b, h.below.trans (b.mono h.below.size), h.lo, h.np⟩
theorem StAt.did {k' : Nat} (h : StAt W c p9 n k m L vL wr) (s : SecAt w' c n k' m (entsOf L)) (o : Only c.F wr w') : StAt W c p9 n k' m L vL w' :=
  ⟨s, h.box.only o (fun hf => by have := hf.2; have := h.np; omega), h.sp.only o (fun _ hb => hb.1), h.below.trans (o.below (fun i hi hf => by have := hf.1; have := h.lo; omega) h.below.size), h.lo, h.np⟩
end
end Go.Proofs.YtccpmaahnfgkeaaGreatDoor
