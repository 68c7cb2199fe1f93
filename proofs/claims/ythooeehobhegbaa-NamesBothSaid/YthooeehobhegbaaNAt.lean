/- What a table of package names is in memory; what its functions home, after, steps, Len, Size do. No condition but those that each statement names. -/
import Derived.Test.YthooeehobhegbaaNBase
import Derived.Test.YthooeehobhegbaaNMa
import Derived.Deep.LoopGhost
import Derived.Deep.RegionHeld3
namespace Go.Proofs.Ythooeehobhegbaa
set_option maxRecDepth 1000000
open Go.ChangeShapes Go.WideShapes Go.ChangeAt Go.RowKit

/-- The block of the ids, that of the entries, and that of the table itself. -/
structure Tb where
  a : Nat
  e : Nat
  t : Nat
/-- The table c in memory: n slots with the ids I; the entries E; bd are bound; none below low is free. -/
structure TabM (w : World) (c : Tb) (n : Nat) (I : Nat → Int) (E : Nat → Nat) (bd low : Nat) : Prop where
  c0 : w.cell? ⟨c.t, 0, none⟩ = some (.slice (some ⟨c.a, 0, none⟩) n n)
  c1 : w.cell? ⟨c.t, 1, none⟩ = some (.slice (some ⟨c.e, 0, none⟩) (2 * n) (2 * n))
  c2 : w.cell? ⟨c.t, 2, none⟩ = some (.int .i64 bd)
  c3 : w.cell? ⟨c.t, 3, none⟩ = some (.int .i64 low)
  fz : ∀ j, w.frozen? ⟨c.t, j, none⟩ = false
  ra : RowV w c.a n I
  re : RowV w c.e (2 * n) (fun j => (E j : Int))
  ord : c.a ≠ c.e ∧ c.a ≠ c.t ∧ c.e ≠ c.t
  lt : c.a < w.heap.size ∧ c.e < w.heap.size ∧ c.t < w.heap.size
  small : n ≤ 16383
/-- The blocks of memory that a table may change. -/
def TF (c : Tb) : Nat → Prop := fun k => k = c.a ∨ k = c.e ∨ k = c.t
section
variable {w w' : World} {c : Tb} {n bd low : Nat} {I : Nat → Int} {E : Nat → Nat} {F : Nat → Prop}
theorem TabM.only (h : TabM w c n I E bd low) (b : Only F w w') (hF : ∀ k, TF c k → ¬ F k) : TabM w' c n I E bd low := by
  have hh := hF c.t (.inr (.inr rfl))
  have hs := b.size
  have hl := h.lt
  exact ⟨(b.cell (p := ⟨c.t, 0, none⟩) h.lt.2.2 hh).trans h.c0, (b.cell (p := ⟨c.t, 1, none⟩) h.lt.2.2 hh).trans h.c1, (b.cell (p := ⟨c.t, 2, none⟩) h.lt.2.2 hh).trans h.c2, (b.cell (p := ⟨c.t, 3, none⟩) h.lt.2.2 hh).trans h.c3,
    fun j => (b.frozen (p := ⟨c.t, j, none⟩) h.lt.2.2 hh).trans (h.fz j), h.ra.only b (hF c.a (.inl rfl)), h.re.only b (hF c.e (.inr (.inl rfl))), h.ord, ⟨by omega, by omega, by omega⟩, h.small⟩
theorem TabM.fresh (h : TabM w c n I E bd low) (b : Below w.heap.size w w') : TabM w' c n I E bd low := h.only (F := fun _ => False) (Only.of_below b) (fun _ _ h => h)
end

/-- Where the search for id begins, among m places. -/
def homeN (m : Nat) (id : Int) : Nat := ((id % 18446744073709551616 * 11400714819323198485) % 18446744073709551616 / 4294967296 * m / 4294967296).toNat
theorem homeN_lt {m : Nat} (h : 0 < m) (id : Int) : homeN m id < m := by
  unfold homeN
  generalize hx : (id % 18446744073709551616 * 11400714819323198485) % 18446744073709551616 / 4294967296 = x
  have h1 : 0 ≤ x := by omega
  have h2 : x < 4294967296 := by omega
  have h3 : x * m < 4294967296 * m := Int.mul_lt_mul_of_pos_right h2 (by omega)
  have h4 : 0 ≤ x * m := Int.mul_nonneg h1 (by omega)
  generalize x * (m : Int) = y at *
  omega
theorem home_num (n : Nat) (id : Int) (hn : n ≤ 16383) : wrap64 (IntKind.u64.wrap (IntKind.u64.wrap (IntKind.u64.wrap id * 11400714819323198485) / 4294967296 * (2 * (n : Int))) / 4294967296) = (homeN (2 * n) id : Int) := by
  have e1 : ∀ y : Int, IntKind.u64.wrap y = y % 18446744073709551616 := fun y => by simp [IntKind.wrap, IntKind.bits, IntKind.signed]
  rw [e1, e1, e1]
  unfold homeN
  generalize hx : (id % 18446744073709551616 * 11400714819323198485) % 18446744073709551616 / 4294967296 = x
  have h1 : 0 ≤ x := by omega
  have h2 : x < 4294967296 := by omega
  have h3 : x * (2 * (n : Int)) ≤ 4294967296 * (2 * (n : Int)) := Int.mul_le_mul_of_nonneg_right (by omega) (by omega)
  have h4 : 0 ≤ x * (2 * (n : Int)) := Int.mul_nonneg h1 (by omega)
  have e2 : ((2 * n : Nat) : Int) = 2 * (n : Int) := by omega
  rw [e2]
  generalize x * (2 * (n : Int)) = y at *
  unfold wrap64
  omega
section
variable {w : World} {c : Tb} {n bd low : Nat} {I : Nat → Int} {E : Nat → Nat}
theorem home_any (id : Int) (h : TabM w c n I E bd low) : Calls Try.prog 26 #[.pointer (some ⟨c.t, 0, none⟩), .int .i64 id] w fun e w' => e = .returned (.int .i64 (homeN (2 * n) id)) ∧ w = w' := by
  have h1 := h.c1
  have hs := h.small
  have HN := Lib.hid (home_num n id hs)
  clear h
  go_enter Try.func26, Try.ntmps26
  go_wp2
  go_ret
  exact ⟨by rw [← HN.out]; rfl, rfl⟩
theorem after_any (a : Nat) (ha : a < 2 * n) (h : TabM w c n I E bd low) : Calls Try.prog 27 #[.pointer (some ⟨c.t, 0, none⟩), .int .i64 a] w fun e w' => e = .returned (.int .i64 (nx (2 * n) a)) ∧ w = w' := by
  have h1 := h.c1
  have hs := h.small
  have HN : Hid (((a : Int) + 1) % (2 * (n : Int)) = (nx (2 * n) a : Int)) := by
    show _ = _
    rw [← nx_mod ha, Int.natCast_emod, show ((a + 1 : Nat) : Int) = (a : Int) + 1 by omega, show ((2 * n : Nat) : Int) = 2 * (n : Int) by omega]
  clear h
  go_enter Try.func27, Try.ntmps27
  go_wp2
  go_ret
  exact ⟨by rw [← HN.out]; rfl, rfl⟩
theorem steps_any (a b : Nat) (ha : a < 2 * n) (hb : b < 2 * n) (h : TabM w c n I E bd low) : Calls Try.prog 35 #[.pointer (some ⟨c.t, 0, none⟩), .int .i64 a, .int .i64 b] w fun e w' => e = .returned (.int .i64 (dst (2 * n) a b)) ∧ ∃ d, w' = w.drewN d := by
  have h1 := h.c1
  have hs := h.small
  have HN : Hid (((b : Int) - a + 2 * (n : Int)) % (2 * (n : Int)) = (dst (2 * n) a b : Int)) := by
    show _ = _
    rw [← dst_mod ha hb, Int.natCast_emod, show ((b + 2 * n - a : Nat) : Int) = (b : Int) - a + 2 * (n : Int) by omega, show ((2 * n : Nat) : Int) = 2 * (n : Int) by omega]
  clear h
  go_enter Try.func35, Try.ntmps35
  go_wp2
  go_quiet (fail)
  go_wp2
  go_ret
  exact ⟨by rw [← HN.out]; rfl, _, rfl⟩
/-- A value is told, and nothing that was there has changed. -/
def Told (u : Value) (w : World) (e : Ending) (w' : World) : Prop := e = .returned u ∧ w = w'
theorem len_any (h : TabM w c n I E bd low) : Calls Try.prog 14 #[.pointer (some ⟨c.t, 0, none⟩)] w (Told (.int .i64 bd) w) := by
  have h1 := h.c2
  clear h
  go_enter Try.func14, Try.ntmps14
  go_wp2
  go_ret
  exact ⟨rfl, rfl⟩
theorem size_any (h : TabM w c n I E bd low) : Calls Try.prog 19 #[.pointer (some ⟨c.t, 0, none⟩)] w (Told (.int .i64 n) w) := by
  have h1 := h.c0
  clear h
  go_enter Try.func19, Try.ntmps19
  go_wp2
  go_ret
  exact ⟨rfl, rfl⟩
theorem len_nil (w : World) : Calls Try.prog 14 #[.pointer none] w (Told (.int .i64 0) w) := by
  go_enter Try.func14, Try.ntmps14
  go_wp2
  go_ret
  exact ⟨rfl, rfl⟩
theorem size_nil (w : World) : Calls Try.prog 19 #[.pointer none] w (Told (.int .i64 0) w) := by
  go_enter Try.func19, Try.ntmps19
  go_wp2
  go_ret
  exact ⟨rfl, rfl⟩
end
end Go.Proofs.Ythooeehobhegbaa
