/- How a memory turns: an object's words or bytes are written. -/
import Derived.Test.YtmaeoefimkppoaaFOp
import Derived.OneCell
namespace Go.Proofs.Ytmaeoefimkppoaa.Fl
set_option maxRecDepth 1000000
open Go.ChangeShapes Go.WideShapes Go.ChangeAt Go.RowKit
open Go.Proofs.Ytmaeoefimkppoaa.Wd

theorem own_put {w : World} {base n c g j : Nat} {e : TypeId} {xs : List Value} (h : w.ownsRow base e 1 (.slice (some ⟨g, 0, none⟩) n c) n xs) (hj : j < n) (u : Value) : (w.setCell ⟨g, j, none⟩ u).ownsRow base e 1 (.slice (some ⟨g, 0, none⟩) n c) n (xs.set j u) := by
  obtain ⟨hl, h⟩ := h
  rcases h with ⟨hv, _⟩ | ⟨g', cap, cur, hv, hb, hg, hnc, hcm, hcs, ht⟩
  · cases hv
  injection hv with hv1 _ hv3
  injection hv1 with hv1
  injection hv1 with hv1 _ _
  subst hv1 hv3
  have hr : w.rowIs g e c (fun i => cur[i]?.getD undef) := ⟨cur, hg, by omega, fun i hi => by simp only [Array.getElem?_eq_getElem (show i < cur.size by omega), Option.getD_some]⟩
  obtain ⟨cur', h1, h2, h3⟩ := hr.set j u
  refine ⟨by simpa using hl, .inr ⟨g, c, cur', rfl, hb, h1, hnc, hcm, by omega, ?_⟩⟩
  apply List.ext_getElem?
  intro i
  rw [List.getElem?_set, ← ht]
  by_cases hi : i < n
  · rw [List.getElem?_take, if_pos (by omega), Array.getElem?_toList, h3 i (by omega)]
    simp only
    by_cases hij : i = j
    · subst hij
      rw [if_pos rfl, if_pos rfl, if_pos (by simp; omega)]
    · rw [if_neg hij, if_neg (fun e => hij e.symm), List.getElem?_take, if_pos (by omega), Array.getElem?_toList, Array.getElem?_eq_getElem (show i < cur.size by omega), Option.getD_some]
  · rw [List.getElem?_eq_none (by simp; omega), if_neg (by omega), List.getElem?_eq_none (by simp; omega)]
theorem own_cells {w : World} {base n c g : Nat} {e : TypeId} {xs : List Value} (h : w.ownsRow base e 1 (.slice (some ⟨g, 0, none⟩) n c) n xs) :
    (∀ j u, xs[j]? = some u → w.cell? ⟨g, j, none⟩ = some u) ∧ ∀ j, w.frozen? ⟨g, j, none⟩ = false := by
  have h1 := h.cells (g := g) rfl
  refine ⟨fun j u hu => ?_, fun j => ?_⟩
  · have := h1 j u hu
    rwa [add_plain, Nat.zero_add] at this
  · obtain ⟨_, h⟩ := h
    rcases h with ⟨hv, _⟩ | ⟨g', cap, cur, hv, hb, hg, hnc, hcm, hcs, ht⟩
    · cases hv
    injection hv with hv1 _ hv3
    injection hv1 with hv1
    injection hv1 with hv1 _ _
    subst hv1 hv3
    have hr : w.rowIs g e c (fun i => cur[i]?.getD undef) := ⟨cur, hg, by omega, fun i hi => by simp only [Array.getElem?_eq_getElem (show i < cur.size by omega), Option.getD_some]⟩
    exact hr.frozen j
theorem own_at {w : World} {base n : Nat} {e : TypeId} {v : Value} {xs : List Value} (h : w.ownsRow base e 1 v n xs) (hn : 0 < n) : ∃ g c, v = .slice (some ⟨g, 0, none⟩) n c := by
  rcases h.2 with ⟨_, h0⟩ | ⟨g, c, _, rfl, _⟩
  · omega
  · exact ⟨g, c, rfl⟩

section
variable {w w' : World} {K : Nat → Prop} {m : Nat} {r : Option Nat} {nv : Value} {L : List (Option En)}
/-- One object is another one now, its row lies where it lay. -/
theorem MemR.turn (h : MemR w K m r nv L) {i : Int} {e e' : En} {g : Nat} (he : at_ L i = some e) (o : Only (· = g) w w') (hg : e.rv.ownBlock = some g) (hr : e'.rv = e.rv) (hrow : e'.Row w') (hval : e'.val = e.val) :
    MemR w' K m r nv (setAt L i (some e')) := by
  obtain ⟨r1, r2⟩ := at_rng he
  have hat : ∀ j, at_ (setAt L i (some e')) j = if j = i then some e' else at_ L j := fun j => at_set L _ r1 r2 j
  have hid : ids (setAt L i (some e')) = ids L := ids_congr fun j => by
    rw [hat]
    split
    · rename_i hj; rw [hj, he]; rfl
    · rfl
  have hno := h.off i e he g hg
  have hgm : ¬ (m = g) := fun e => hno.2 e.symm
  refine { c0 := ?_, c1 := (o.cell (p := ⟨m, 1, none⟩) h.lt hgm).trans h.c1, c2 := (o.cell (p := ⟨m, 2, none⟩) h.lt hgm).trans h.c2, fz := fun j => (o.frozen (p := ⟨m, j, none⟩) h.lt hgm).trans (h.fz j), mp := ?_, nums := ?_, rows := ?_, apart := ?_, off := ?_, offn := h.offn, offr := h.offr, km := h.km, kr := h.kr, kn := h.kn, ko := ?_, kb := fun q hq => Nat.lt_of_lt_of_le (h.kb q hq) o.size, lt := Nat.lt_of_lt_of_le h.lt o.size, few := by rw [set_len]; exact h.few }
  · rw [set_len]; exact (o.cell (p := ⟨m, 0, none⟩) h.lt hgm).trans h.c0
  · rw [set_len]
    have h1 : MapO w' r L.length (fun j => (at_ L j).map En.val) := h.mp.only o fun b hb hbg => by
      rcases h.mp with ⟨h0, _⟩ | ⟨b', h0, hm⟩
      · rw [h0] at hb; cases hb
      · rw [h0] at hb; cases hb
        obtain ⟨es, ck, hmm⟩ := hm.obj
        rcases (h.rows i e he).row with ⟨_, hrr⟩ | ⟨_, hrr⟩ <;> exact own_not_map hrr hg hmm hbg.symm
    refine h1.congr fun j _ => ?_
    rw [hat]
    split
    · rename_i hj; rw [hj, he]; simp [hval]
    · rfl
  · rw [hid]; exact own_only h.nums o fun q hq e => hno.1 (by rw [hq, e])
  · intro j y hy
    rw [hat] at hy
    split at hy
    · cases hy; exact hrow
    · rename_i hj
      exact (h.rows j y hy).only o fun q hq e => h.apart j i y _ hy he hj q hq (by rw [hg, e])
  · intro a b x y hx hy hne q hq
    rw [hat] at hx hy
    split at hx <;> split at hy
    · rename_i h1 h2; exact absurd (h1.trans h2.symm) hne
    · rename_i h1 h2; cases hx; rw [hr] at hq; exact h.apart i b e y he hy (fun e => h2 e.symm) q hq
    · rename_i h1 h2; cases hy; rw [hr]; exact h.apart a i x e hx he h1 q hq
    · exact h.apart a b x y hx hy hne q hq
  · intro j y hy q hq
    rw [hat] at hy
    split at hy
    · cases hy; rw [hr] at hq; exact h.off i e he q hq
    · exact h.off j y hy q hq
  · intro j y hy q hq
    rw [hat] at hy
    split at hy
    · cases hy; rw [hr] at hq; exact h.ko i e he q hq
    · exact h.ko j y hy q hq
end
end Go.Proofs.Ytmaeoefimkppoaa.Fl
