/- An object that is loaded word by word, byte by byte: plain. -/
import Derived.Test.YtmaeoefimkppoaaFOs
namespace Go.Proofs.Ytmaeoefimkppoaa.Fl
set_option maxRecDepth 1000000
open Go.ChangeShapes Go.WideShapes Go.ChangeAt Go.RowKit
open Go.Proofs.Ytmaeoefimkppoaa.Wd

def partL (l : List Int) (i : Nat) (z : Int) : List Int := l.take i ++ List.replicate (l.length - i) z
theorem partL_len {l : List Int} {i : Nat} (hi : i ≤ l.length) (z : Int) : (partL l i z).length = l.length := by
  simp [partL]; omega
theorem partL_set {l : List Int} {i : Nat} (hi : i < l.length) (z : Int) : (partL l i z).set i (l.getD i 0) = partL l (i + 1) z := by
  unfold partL
  have e : l.getD i 0 = l[i] := by simp [List.getD, List.getElem?_eq_getElem hi]
  obtain ⟨q, hq⟩ : ∃ q, l.length - i = q + 1 := ⟨l.length - i - 1, by omega⟩
  rw [List.set_append, if_neg (by rw [List.length_take]; omega), List.length_take, show i - min i l.length = 0 by omega, hq, List.replicate_succ, List.set_cons_zero, e, List.take_succ_eq_append_getElem hi, show l.length - (i + 1) = q by omega, List.append_assoc]
  rfl
theorem partL_all (l : List Int) (z : Int) : partL l l.length z = l := by simp [partL]
theorem partL_zero (l : List Int) (z : Int) : partL l 0 z = List.replicate l.length z := by simp [partL]
def partW (x : Ob) (i : Nat) : Ob := ⟨x.c, x.k, partL x.w i 2, List.replicate x.b.length 0⟩
def partB (x : Ob) (i : Nat) : Ob := ⟨x.c, x.k, x.w, partL x.b i 0⟩
theorem part_mid (x : Ob) : partW x x.w.length = partB x 0 := by unfold partW partB; rw [partL_all, partL_zero]
theorem part_end (x : Ob) : partB x x.b.length = x := by unfold partB; rw [partL_all]
theorem part_new {x : Ob} (h : okO x = true) : blk x.c x.k (sizeO x) = partW x 0 ∧ okN x.c x.k (sizeO x) = true := by
  obtain ⟨hc, h | h⟩ := (okO_iff x).1 h
  · obtain ⟨hk, hb, hl, _⟩ := h
    refine ⟨?_, ?_⟩
    · simp [blk, partW, partL_zero, sizeO, hk, hb]
    · simp [okN, hc, sizeO, hk]; omega
  · obtain ⟨hk, hw, hl⟩ := h
    refine ⟨?_, ?_⟩
    · simp [blk, partW, partL_zero, sizeO, hk, hw]
    · simp [okN, hc, sizeO, hk]; omega
theorem new_part {E : Mem} {x : Ob} (h : okO x = true) : newF E x.c x.k (sizeO x) = E ++ [some (partW x 0)] ∧ newN E x.c x.k (sizeO x) = 2 * ((E.length : Int) + 1) ∧ newE x.c x.k (sizeO x) = 0 := by
  obtain ⟨h1, h2⟩ := part_new h
  unfold newF newN newE
  rw [if_pos h2, if_pos h2, if_pos h2, Int.toNat_natCast, h1]
  exact ⟨rfl, rfl, rfl⟩
theorem set_push (E : Mem) (x y : Option Ob) : setAt (E ++ [x]) ((E.length : Int) + 1) y = E ++ [y] := by
  refine at_ext (by simp [setAt]) fun i => ?_
  rw [at_set _ _ (by omega) (by simp), at_push, at_push]
  by_cases h : i = (E.length : Int) + 1
  · rw [if_pos h, if_pos h]
  · rw [if_neg h, if_neg h, if_neg h]
theorem set_part {E : Mem} {x : Ob} (hx : okO x = true) (hE : E.length < 1000000) {i : Nat} (hi : i < x.w.length) :
    setE (E ++ [some (partW x i)]) (2 * ((E.length : Int) + 1)) i (x.w.getD i 0) = 0 ∧ setF (E ++ [some (partW x i)]) (2 * ((E.length : Int) + 1)) i (x.w.getD i 0) = E ++ [some (partW x (i + 1))] := by
  have hn := nam_two (i := (E.length : Int) + 1) (by omega) (by omega)
  have ha : at_ (E ++ [some (partW x i)]) ((E.length : Int) + 1) = some (partW x i) := by rw [at_push, if_pos rfl]
  have hk : x.k = 1 ∧ valB (x.w.getD i 0) = true := by
    rcases (okO_iff x).1 hx with ⟨_, h | h⟩
    · refine ⟨h.1, h.2.2.2 _ ?_⟩
      simp only [List.getD, List.getElem?_eq_getElem hi, Option.getD_some]
      exact List.getElem_mem _
    · rw [h.2.1] at hi; cases hi
  have ho : opE (E ++ [some (partW x i)]) (2 * ((E.length : Int) + 1)) 1 i = 0 := by
    unfold opE
    rw [hn, ha]
    simp only [partW, hk.1, if_true, sizeO, partL_len (Nat.le_of_lt hi)]
    rw [if_pos (by omega)]
  have he : setE (E ++ [some (partW x i)]) (2 * ((E.length : Int) + 1)) i (x.w.getD i 0) = 0 := by
    unfold setE
    rw [if_pos ho, if_pos hk.2]
  refine ⟨he, ?_⟩
  unfold setF
  rw [if_pos he, hn, set_push]
  unfold objF
  rw [hn, ha]
  simp only [Option.getD_some, partW, Int.toNat_natCast, partL_set hi]
theorem setb_part {E : Mem} {x : Ob} (hx : okO x = true) (hy : ByL x.b) (hE : E.length < 1000000) {i : Nat} (hi : i < x.b.length) :
    setbE (E ++ [some (partB x i)]) (2 * ((E.length : Int) + 1)) i (x.b.getD i 0) = 0 ∧ setbF (E ++ [some (partB x i)]) (2 * ((E.length : Int) + 1)) i (x.b.getD i 0) = E ++ [some (partB x (i + 1))] := by
  have hn := nam_two (i := (E.length : Int) + 1) (by omega) (by omega)
  have ha : at_ (E ++ [some (partB x i)]) ((E.length : Int) + 1) = some (partB x i) := by rw [at_push, if_pos rfl]
  have hk : x.k = 2 ∧ bytB (x.b.getD i 0) = true := by
    rcases (okO_iff x).1 hx with ⟨_, h | h⟩
    · rw [h.2.1] at hi; cases hi
    · refine ⟨h.1, ?_⟩
      have : x.b.getD i 0 ∈ x.b := by
        simp only [List.getD, List.getElem?_eq_getElem hi, Option.getD_some]
        exact List.getElem_mem _
      have := hy _ this
      unfold bytB
      simpa using this
  have ho : opE (E ++ [some (partB x i)]) (2 * ((E.length : Int) + 1)) 2 i = 0 := by
    unfold opE
    rw [hn, ha]
    simp only [partB, hk.1, if_true, sizeO, partL_len (Nat.le_of_lt hi)]
    simp only [show ¬ ((2 : Int) = 1) by decide, if_false]
    rw [if_pos (by omega)]
  have he : setbE (E ++ [some (partB x i)]) (2 * ((E.length : Int) + 1)) i (x.b.getD i 0) = 0 := by
    unfold setbE
    rw [if_pos ho, if_pos hk.2]
  refine ⟨he, ?_⟩
  unfold setbF
  rw [if_pos he, hn, set_push]
  unfold objF
  rw [hn, ha]
  simp only [Option.getD_some, partB, Int.toNat_natCast, partL_set hi]
end Go.Proofs.Ytmaeoefimkppoaa.Fl
