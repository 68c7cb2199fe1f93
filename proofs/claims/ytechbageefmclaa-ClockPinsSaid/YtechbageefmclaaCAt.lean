/- What a clock of package clock is in memory; what its functions find, Hand, pass, Is do. No condition but those that each statement names. -/
import Derived.Test.YtechbageefmclaaCBase
import Derived.Test.YtechbageefmclaaCMa
import Derived.Deep.LoopGhost
import Derived.Deep.RegionHeld3
namespace Go.Proofs.Ytechbageefmclaa
set_option maxRecDepth 1000000
open Go.ChangeShapes Go.WideShapes Go.ChangeAt Go.RowKit

/-- The block of the elements, and that of the clock itself. -/
structure Ck where
  e : Nat
  t : Nat
/-- The n elements at block x are what E tells; they may be written. -/
def ElV (w : World) (x n : Nat) (E : Nat → El) : Prop := ∀ j, j < n → w.cell? ⟨x, j * 3, none⟩ = some (.bool (E j).t) ∧ w.cell? ⟨x, j * 3 + 1, none⟩ = some (.bool (E j).p) ∧ w.cell? ⟨x, j * 3 + 2, none⟩ = some (.bool (E j).i)
theorem ElV.only {w w' : World} {x n : Nat} {E : Nat → El} {F : Nat → Prop} (h : ElV w x n E) (o : Only F w w') (hF : ¬ F x) : ElV w' x n E := fun j hj => by
  obtain ⟨h1, h2, h3⟩ := h j hj
  have hl := World.block_lt_of_cell? _ _ h1
  exact ⟨(o.cell (p := ⟨x, j * 3, none⟩) hl hF).trans h1, (o.cell (p := ⟨x, j * 3 + 1, none⟩) hl hF).trans h2, (o.cell (p := ⟨x, j * 3 + 2, none⟩) hl hF).trans h3⟩
/-- The clock c in memory: n elements E, the hand at h. -/
structure ClkAt (w : World) (c : Ck) (n : Nat) (E : Nat → El) (h : Nat) : Prop where
  c0 : w.cell? ⟨c.t, 0, none⟩ = some (.slice (some ⟨c.e, 0, none⟩) n n)
  c1 : w.cell? ⟨c.t, 1, none⟩ = some (.int .i64 h)
  fz : ∀ j, w.frozen? ⟨c.t, j, none⟩ = false
  el : ElV w c.e n E
  fe : ∀ j, w.frozen? ⟨c.e, j, none⟩ = false
  ne : c.e ≠ c.t
  lt : c.e < w.heap.size ∧ c.t < w.heap.size
  hand : h < n ∨ n = 0 ∧ h = 0
  small : n ≤ 16384
/-- The blocks of memory that a clock may change. -/
def CF (c : Ck) : Nat → Prop := fun k => k = c.e ∨ k = c.t
/-- A value is told, and nothing has changed. -/
def Told (u : Value) (w : World) (e : Ending) (w' : World) : Prop := e = .returned u ∧ w = w'
section
variable {w w' : World} {c : Ck} {n h : Nat} {E : Nat → El} {F : Nat → Prop}
theorem ClkAt.only (a : ClkAt w c n E h) (b : Only F w w') (hF : ∀ k, CF c k → ¬ F k) : ClkAt w' c n E h := by
  have ht := hF c.t (.inr rfl)
  have he := hF c.e (.inl rfl)
  have hs := b.size
  have hl := a.lt
  exact ⟨(b.cell (p := ⟨c.t, 0, none⟩) a.lt.2 ht).trans a.c0, (b.cell (p := ⟨c.t, 1, none⟩) a.lt.2 ht).trans a.c1, fun j => (b.frozen (p := ⟨c.t, j, none⟩) a.lt.2 ht).trans (a.fz j), a.el.only b he,
    fun j => (b.frozen (p := ⟨c.e, j, none⟩) a.lt.1 he).trans (a.fe j), a.ne, ⟨by omega, by omega⟩, a.hand, a.small⟩
theorem ClkAt.fresh (a : ClkAt w c n E h) (b : Below w.heap.size w w') : ClkAt w' c n E h := a.only (F := fun _ => False) (Only.of_below b) (fun _ _ h => h)
theorem ClkAt.drewN (a : ClkAt w c n E h) (q : Nat) : ClkAt (w.drewN q) c n E h := a.fresh (below_drewN (Below.refl _ _) q)
theorem ClkAt.ltF (a : ClkAt w c n E h) : ∀ k, CF c k → k < w.heap.size := by
  rintro k (rfl | rfl)
  · exact a.lt.1
  · exact a.lt.2
/-- Where an element stands, or that there is none. -/
def placeOf (c : Ck) (n : Nat) (i : Int) : Option Addr := if 0 ≤ i ∧ i < n then some ⟨c.e, i.toNat * 3, none⟩ else none
theorem place_in {i : Nat} (hi : i < n) : placeOf c n (i : Int) = some ⟨c.e, i * 3, none⟩ := by
  unfold placeOf
  rw [if_pos (by omega)]; rfl
theorem place_out {i : Int} (hi : i < 0 ∨ (n : Int) ≤ i) : placeOf c n i = none := if_neg (by omega)
set_option maxHeartbeats 1000000 in
theorem find_any (i : Int) (a : ClkAt w c n E h) : Calls Try.prog 17 #[.pointer (some ⟨c.t, 0, none⟩), .int .i64 i] w (Told (.pointer (placeOf c n i)) w) := by
  have h0 := a.c0
  by_cases h1 : i < 0
  · rw [place_out (.inl h1)]
    have hd : decide (i < 0) = true := decide_eq_true h1
    clear a h1
    go_enter Try.func17, Try.ntmps17
    go_wp2_with fail
    go_ret
    exact ⟨rfl, rfl⟩
  · have hd : decide (i < 0) = false := decide_eq_false h1
    obtain ⟨k, rfl⟩ := Int.eq_ofNat_of_zero_le (by omega : 0 ≤ i)
    by_cases h2 : k < n
    · rw [place_in h2]
      have hd2 : decide ((n : Int) ≤ (k : Int)) = false := decide_eq_false (by omega)
      have h3 : (k : Int) < n := by omega
      clear a hd h1
      go_enter Try.func17, Try.ntmps17
      go_wp2_with fail
      go_ret
      exact ⟨rfl, rfl⟩
    · rw [place_out (.inr (by omega))]
      have hd2 : decide ((n : Int) ≤ (k : Int)) = true := decide_eq_true (by omega)
      clear a hd h1
      go_enter Try.func17, Try.ntmps17
      go_wp2_with fail
      go_ret
      exact ⟨rfl, rfl⟩
theorem find_nil (i : Int) (w : World) : Calls Try.prog 17 #[.pointer none, .int .i64 i] w (Told (.pointer none) w) := by
  go_enter Try.func17, Try.ntmps17
  go_wp2_with fail
  go_ret
  exact ⟨rfl, rfl⟩
theorem hand_at (a : ClkAt w c n E h) : Calls Try.prog 12 #[.pointer (some ⟨c.t, 0, none⟩)] w (Told (.int .i64 h) w) := by
  have h1 := a.c1
  clear a
  go_enter Try.func12, Try.ntmps12
  go_wp2_with fail
  go_ret
  exact ⟨rfl, rfl⟩
/-- What Is tells. -/
def isOf (n : Nat) (E : Nat → El) (i : Int) : El := if 0 ≤ i ∧ i < n then E i.toNat else ⟨false, false, false⟩
theorem is_in {i : Nat} (hi : i < n) : isOf n E (i : Int) = E i := by
  unfold isOf
  rw [if_pos (by omega)]; rfl
theorem is_out {i : Int} (hi : i < 0 ∨ (n : Int) ≤ i) : isOf n E i = ⟨false, false, false⟩ := if_neg (by omega)
/-- A value is told, and nothing has changed but the draws. -/
def ToldD (u : Value) (w : World) (e : Ending) (w' : World) : Prop := e = .returned u ∧ ∃ d, w' = w.drewN d
set_option maxHeartbeats 1000000 in
theorem is_any (i : Int) (a : ClkAt w c n E h) : Calls Try.prog 11 #[.pointer (some ⟨c.t, 0, none⟩), .int .i64 i] w (ToldD (.tuple #[.bool (isOf n E i).i, .bool (isOf n E i).t, .bool (isOf n E i).p]) w) := by
  have HF := Lib.hid (find_any i a)
  by_cases h1 : i < 0 ∨ (n : Int) ≤ i
  · rw [is_out h1]
    rw [place_out h1] at HF
    clear a h1
    go_enter Try.func11, Try.ntmps11
    go_wp2_with fail
    refine HF.out.mono ?_
    rintro e w1 ⟨rfl, rfl⟩
    go_wp2_with fail
    go_ret3
    exact ⟨rfl, 0, rfl⟩
  · obtain ⟨k, rfl⟩ := Int.eq_ofNat_of_zero_le (by omega : 0 ≤ i)
    have h2 : k < n := by omega
    rw [is_in h2]
    rw [place_in h2] at HF
    obtain ⟨e0, e1, e2⟩ := a.el k h2
    clear a h1 h2
    generalize (E k).t = bt at *
    generalize (E k).p = bp at *
    generalize (E k).i = bi at *
    go_enter Try.func11, Try.ntmps11
    go_wp2_with fail
    refine HF.out.mono ?_
    rintro e w1 ⟨rfl, rfl⟩
    go_wp2_with fail
    go_quiet (fail)
    go_wp2_with fail
    go_ret3
    exact ⟨rfl, _, rfl⟩
end
end Go.Proofs.Ytechbageefmclaa
