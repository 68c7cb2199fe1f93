/- What Refs of package wide returns of any object: the numbers of what it names, in new memory. -/
import Derived.Test.YtmaeoefimkppoaaVRfr
namespace Go.Proofs.Ytmaeoefimkppoaa.Wd
open Go.ChangeShapes Go.WideShapes Go.ChangeAt Go.RowKit
set_option maxRecDepth 1000000
theorem own_set {w : World} {base n q j : Nat} {e : TypeId} {v u : Value} {xs : List Value} (h : w.ownsRow base e 1 v n xs) (hq : q < base) : (w.setCell ⟨q, j, none⟩ u).ownsRow base e 1 v n xs := by
  refine ⟨h.1, ?_⟩
  rcases h.2 with hn | ⟨g, cap, cur, rfl, hb, hgg, rest⟩
  · exact .inl hn
  · refine .inr ⟨g, cap, cur, rfl, hb, ?_, rest⟩
    rw [Below.heap_setCell _ _ _ _ (by dsimp only; omega)]
    exact hgg

/-- The variable in block q holds one's own row of the numbers xs. -/
def RInv (q base : Nat) (xs : List Int) (w : World) : Prop :=
  ∃ v n, w.cell? ⟨q, 0, none⟩ = some v ∧ w.frozen? ⟨q, 0, none⟩ = false ∧ q < base ∧ base ≤ w.heap.size ∧ w.ownsRow base 3 1 v n (xs.map (Value.int .i64)) ∧ n = xs.length
def R1Post (q base : Nat) (xs : List Int) (w : World) (e : Ending) (w' : World) : Prop := e = .returned (.tuple #[]) ∧ RInv q base xs w' ∧ Below q w w'

set_option maxHeartbeats 1000000 in
theorem refs1_yes (q base : Nat) (x : Int) (xs : List Int) (w : World) (hx : In64 x) (h : RInv q base xs w) (hl : xs.length ≤ 1300) (hn : namB x = true) :
    Calls Try.prog 81 #[.int .i64 x, .pointer (some ⟨q, 0, none⟩)] w (R1Post q base (xs ++ [namV x]) w) := by
  obtain ⟨i0, hi, hz0, hz1, hz2⟩ := info_parts Try.info3
  have HN := Lib.hid (named_any x w hx.1 hx.2)
  rw [hn] at HN
  clear hn hx
  generalize namV x = z at *
  obtain ⟨v, n, hc, hf, hq, hb, hown, rfl⟩ := h
  have HL := Lib.hid hl
  go_enter Try.func81, Try.ntmps81
  go_wp2_with fail
  refine HN.out.mono ?_
  rintro e w1 ⟨rfl, rfl⟩
  go_wp2_with (at_builtin; refine wpList_append_own _ rfl _ _ 30 rfl base 3 i0 (.int .i64 0) 1 8 Try.underlying30 hi hz0 hz1 hz2 rfl (by decide) _ _ _ rfl (hown.alloc _) ⟨w.heap.size, 0, none⟩ 1 1 [.int .i64 z] rfl rfl ?c1 ?c2 ?c3 ?c4 ?c5 ?_)
  case c1 =>
    intro j u hj
    match j, hj with
    | 0, hj => simp at hj; subst hj; simp [Addr.add]
  case c2 => intro u hu; simp at hu; subst hu; rfl
  case c3 => have := HL.out; unfold maxLen; omega
  case c4 => have := HL.out; omega
  case c5 => simp; omega
  intro v' w1 hown' hgrow _
  have B1 : Below base w w1 := ((Below.refl _ _).alloc hb _).grown hgrow (by simp; omega) fun g hg => (hown.lt g hg).1
  have hc1 := (B1.cell (p := ⟨q, 0, none⟩) hq).trans hc
  have hf1 := (B1.frozen (p := ⟨q, 0, none⟩) hq).trans hf
  have HB1 := Lib.hid B1
  have HO1 := Lib.hid hown'
  obtain ⟨av, cv, rfl, _⟩ := own_room hown'
  have HC1 := Lib.hid hc1
  have HF1 := Lib.hid hf1
  clear hown hown' hgrow B1 hc hf
  go_wp2
  first | go_end0 | refine bodyPost_ret (results_none rfl _ _ _) rfl ?_
  have hb2 : Below q w (w1.setCell ⟨q, 0, none⟩ (.slice av (xs.length + 1) cv)) := (HB1.out.mono (Nat.le_of_lt hq)).setCell (p := ⟨q, 0, none⟩) (Nat.le_refl q) _
  have hs2 : base ≤ (w1.setCell ⟨q, 0, none⟩ (.slice av (xs.length + 1) cv)).heap.size := by have := HB1.out.size; simp [World.setCell]; omega
  have hc2 : (w1.setCell ⟨q, 0, none⟩ (.slice av (xs.length + 1) cv)).cell? ⟨q, 0, none⟩ = some (.slice av (xs.length + 1) cv) := by rw [World.cell?_setCell_same _ _ _ HC1.out]
  have hf2 : (w1.setCell ⟨q, 0, none⟩ (.slice av (xs.length + 1) cv)).frozen? ⟨q, 0, none⟩ = false := by rw [World.frozen?_setCell]; exact HF1.out
  exact ⟨rfl, ⟨_, xs.length + 1, hc2, hf2, hq, hs2, by rw [List.map_append]; exact own_set HO1.out hq, by simp⟩, hb2⟩

set_option maxHeartbeats 1000000 in
theorem refs1_no (q base : Nat) (x : Int) (xs : List Int) (w : World) (hx : In64 x) (h : RInv q base xs w) (hn : namB x = false) :
    Calls Try.prog 81 #[.int .i64 x, .pointer (some ⟨q, 0, none⟩)] w (R1Post q base xs w) := by
  have HN := Lib.hid (named_any x w hx.1 hx.2)
  rw [hn] at HN
  have H := Lib.hid h
  clear hn hx h
  generalize namV x = z at *
  go_enter Try.func81, Try.ntmps81
  go_wp2_with fail
  refine HN.out.mono ?_
  rintro e w1 ⟨rfl, rfl⟩
  go_wp2
  first | go_end0 | refine bodyPost_ret (results_none rfl _ _ _) rfl ?_
  exact ⟨rfl, H.out, Below.refl _ _⟩
theorem refs1_any (q base : Nat) (x : Int) (xs : List Int) (w : World) (hx : In64 x) (h : RInv q base xs w) (hl : xs.length ≤ 1300) :
    Calls Try.prog 81 #[.int .i64 x, .pointer (some ⟨q, 0, none⟩)] w (R1Post q base (xs ++ refsL [x]) w) := by
  cases hn : namB x with
  | true =>
    have e : refsL [x] = [namV x] := by simp [refsL, hn]
    rw [e]; exact refs1_yes q base x xs w hx h hl hn
  | false =>
    have e : refsL [x] = [] := by simp [refsL, hn]
    rw [e, List.append_nil]; exact refs1_no q base x xs w hx h hn
end Go.Proofs.Ytmaeoefimkppoaa.Wd
