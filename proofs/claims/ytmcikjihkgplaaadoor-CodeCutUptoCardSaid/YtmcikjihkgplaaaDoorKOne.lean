/- The document's one: the fewest bytes that tell it. -/
import Derived.Test.YtmcikjihkgplaaaDoorKTl
namespace Go.Proofs.YtmcikjihkgplaaaDoor
set_option maxRecDepth 1000000
open Go.ChangeShapes Go.WideShapes Go.ChangeAt Go.RowKit

/-- The bytes xs in memory of one's own. -/
def OwnB (B : Nat) (w : World) (v : Value) (xs : List Int) : Prop := w.ownsRow B 5 1 v xs.length (xs.map (Value.int .u8))
theorem OwnB.next {B : Nat} {w w' : World} {v : Value} {L : List Int} (h : OwnB B w v L) (b : Below w.heap.size w w') : OwnB B w' v L :=
  ⟨h.1, h.2.imp id fun ⟨g, cap, cur, h1, h2, h3, h4⟩ => ⟨g, cap, cur, h1, h2, (b.block g (Array.getElem?_eq_some_iff.1 h3).1).trans h3, h4⟩⟩
theorem OwnB.down {B C : Nat} {w : World} {v : Value} {L : List Int} (h : OwnB B w v L) (hc : C ≤ B) : OwnB C w v L :=
  ⟨h.1, h.2.imp id fun ⟨g, cap, cur, h1, h2, h3⟩ => ⟨g, cap, cur, h1, Nat.le_trans hc h2, h3⟩⟩
theorem OwnB.bts {B : Nat} {w : World} {v : Value} {xs : List Int} (h : OwnB B w v xs) : Bts (B ≤ ·) w v xs := Vals.of_own (e := 5) (by rw [List.length_map]; exact h)
theorem ownB1 (w : World) (c : Int) : OwnB w.heap.size (w.alloc (.cells #[.int .u8 c] 5)) (.slice (some ⟨w.heap.size, 0, none⟩) 1 1) [c] := World.ownsRow_lit w #[.int .u8 c] 1 (Nat.le_refl _) (by unfold maxLen; omega) rfl
theorem ownB2 (w : World) (c n : Int) : OwnB w.heap.size (w.alloc (.cells #[.int .u8 c, .int .u8 n] 5)) (.slice (some ⟨w.heap.size, 0, none⟩) 2 2) [c, n] := World.ownsRow_lit w #[.int .u8 c, .int .u8 n] 2 (Nat.le_refl _) (by unfold maxLen; omega) rfl
theorem ownB3 (w : World) (c n m : Int) : OwnB w.heap.size (w.alloc (.cells #[.int .u8 c, .int .u8 n, .int .u8 m] 5)) (.slice (some ⟨w.heap.size, 0, none⟩) 3 3) [c, n, m] := World.ownsRow_lit w #[.int .u8 c, .int .u8 n, .int .u8 m] 3 (Nat.le_refl _) (by unfold maxLen; omega) rfl

def no1 (o : OpT) : Prop := ∀ d : Nat, d < 256 → tellsB [(d : Int)] o = false
def no2 (o : OpT) (k : Nat) : Prop := ∀ c : Nat, 128 ≤ c → c < k → ∀ n : Nat, n < 256 → tellsB [(c : Int), (n : Int)] o = false
def ok3 (o : OpT) (c : Nat) : Bool := decide (0 ≤ o.m ∧ o.m < 256 ∧ 0 ≤ o.n ∧ o.n < 256) && tellsB [(c : Int), o.m, o.n] o
/-- Which bytes are the fewest that tell it, of these the first ones. -/
inductive OneIs (o : OpT) : Option (List Int) → Prop
  | one (c : Nat) (h : c < 256) (ht : tellsB [(c : Int)] o = true) (hn : ∀ d : Nat, d < c → tellsB [(d : Int)] o = false) : OneIs o (some [(c : Int)])
  | two (h1 : no1 o) (c n : Nat) (hc : 128 ≤ c) (hc2 : c < 176) (hn : n < 256) (ht : tellsB [(c : Int), (n : Int)] o = true) (h2 : no2 o c) (h3 : ∀ m : Nat, m < n → tellsB [(c : Int), (m : Int)] o = false) : OneIs o (some [(c : Int), (n : Int)])
  | three (h1 : no1 o) (h2 : no2 o 176) (c : Nat) (hc : c = 132 ∨ c = 134) (ht : ok3 o c = true) (hl : c = 134 → ok3 o 132 = false) : OneIs o (some [(c : Int), o.m, o.n])
  | none (h1 : no1 o) (h2 : no2 o 176) (h3 : ok3 o 132 = false) (h4 : ok3 o 134 = false) : OneIs o none
theorem no1_ne {o : OpT} (h : no1 o) {c : Nat} (hc : c < 256) (ht : tellsB [(c : Int)] o = true) : False := by rw [h c hc] at ht; cases ht
theorem no2_ne {o : OpT} {k : Nat} (h : no2 o k) {c n : Nat} (hc : 128 ≤ c) (hk : c < k) (hn : n < 256) (ht : tellsB [(c : Int), (n : Int)] o = true) : False := by rw [h c hc hk n hn] at ht; cases ht
theorem OneIs.eq {o : OpT} {r s : Option (List Int)} (h : OneIs o r) (k : OneIs o s) : r = s := by
  cases h with
  | one c h ht hn =>
    cases k with
    | one d h' ht' hn' =>
      rcases Nat.lt_trichotomy c d with hlt | rfl | hlt
      · rw [hn' c hlt] at ht; cases ht
      · rfl
      · rw [hn d hlt] at ht'; cases ht'
    | two h1 => exact (no1_ne h1 h ht).elim
    | three h1 => exact (no1_ne h1 h ht).elim
    | none h1 => exact (no1_ne h1 h ht).elim
  | two h1 c n hc hc2 hn ht h2 h3 =>
    cases k with
    | one d h' ht' hn' => exact (no1_ne h1 h' ht').elim
    | two h1' c' n' hc' hc2' hn' ht' h2' h3' =>
      rcases Nat.lt_trichotomy c c' with hlt | rfl | hlt
      · exact (no2_ne h2' hc hlt hn ht).elim
      · rcases Nat.lt_trichotomy n n' with hlt | rfl | hlt
        · rw [h3' n hlt] at ht; cases ht
        · rfl
        · rw [h3 n' hlt] at ht'; cases ht'
      · exact (no2_ne h2 hc' hlt hn' ht').elim
    | three _ h2' => exact (no2_ne h2' hc hc2 hn ht).elim
    | none _ h2' => exact (no2_ne h2' hc hc2 hn ht).elim
  | three h1 h2 c hc ht hl =>
    cases k with
    | one d h' ht' hn' => exact (no1_ne h1 h' ht').elim
    | two h1' c' n' hc' hc2' hn' ht' h2' h3' => exact (no2_ne h2 hc' hc2' hn' ht').elim
    | three h1' h2' c' hc' ht' hl' =>
      rcases hc with rfl | rfl <;> rcases hc' with rfl | rfl
      · rfl
      · rw [hl' rfl] at ht; cases ht
      · rw [hl rfl] at ht'; cases ht'
      · rfl
    | none _ _ h3 h4 =>
      rcases hc with rfl | rfl
      · rw [h3] at ht; cases ht
      · rw [h4] at ht; cases ht
  | none h1 h2 h3 h4 =>
    cases k with
    | one d h' ht' hn' => exact (no1_ne h1 h' ht').elim
    | two h1' c' n' hc' hc2' hn' ht' h2' h3' => exact (no2_ne h2 hc' hc2' hn' ht').elim
    | three h1' h2' c' hc' ht' hl' =>
      rcases hc' with rfl | rfl
      · rw [h3] at ht'; cases ht'
      · rw [h4] at ht'; cases ht'
    | none => rfl
def OnePost (o : OpT) (w : World) (e : Ending) (w' : World) : Prop := ∃ r v, OneIs o r ∧ e = .returned (.tuple #[v, .bool r.isSome]) ∧ OwnB w.heap.size w' v (r.getD []) ∧ Below w.heap.size w w'
end Go.Proofs.YtmcikjihkgplaaaDoor
