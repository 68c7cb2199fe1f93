/- How an argument that is an object, or a row of bytes, is read: as an object, a list of bytes, with its room. -/
import Derived.Test.YtmaeoefimkppoaaVKn
import Derived.Lib.SmallJoins
namespace Go.Proofs.Ytmaeoefimkppoaa.Wd
set_option maxRecDepth 1000000
open Go.ChangeShapes Go.WideShapes Go.ChangeAt Go.RowKit

theorem cells_row {H : Type} {enc : TypeId × Value → H} {W : World} {t e : TypeId} {k : IntKind} {v : Value} {fuel : Nat} {x : DataW H × List MemPlace}
    (ht : Try.prog.underlying t = some (.slice e)) (he : Try.prog.underlying e = some (.int k)) (hc : Try.prog.cellsOf e = 1)
    (h : DataW.trod enc Try.prog W 0 (fun _ => true) true fuel t [v] = some x) :
    ∃ (xs : List Int) (a0 : Option Addr) (c : Nat), v = .slice a0 xs.length c ∧ xs.length ≤ c ∧ xs.length ≤ maxLen ∧ (∀ n ∈ xs, (Lit.int k n).wf = true) ∧ (xs = [] ∨ ∃ b off, a0 = some ⟨b, off, none⟩ ∧ ∀ i, i < xs.length → W.cell? ⟨b, off + i, none⟩ = some (.int k (xs.getD i 0))) := by
  rcases open_ints ht he hc h with ⟨hcs, _⟩ | ⟨a, len, cap, zs, hcs, _, hl, hm, hz, _, hcell, hwz⟩
  · simp only [List.cons.injEq, and_true] at hcs
    exact ⟨[], none, 0, hcs, Nat.le_refl _, Nat.zero_le _, by simp, .inl rfl⟩
  · simp only [List.cons.injEq, and_true] at hcs
    simp only [if_true] at hz
    have e1 : (zs.take len).length = len := by rw [List.length_take]; omega
    refine ⟨zs.take len, some a, cap, by rw [e1]; exact hcs, by omega, by omega, fun n hn => hwz n (List.mem_of_mem_take hn), ?_⟩
    by_cases h0 : len = 0
    · left; subst h0; rfl
    · obtain ⟨b, off, spot⟩ := a
      have hspot : spot = none := by simpa [Addr.add] using World.cell?_spot (hcell 0 (by omega))
      subst hspot
      refine .inr ⟨b, off, rfl, fun i hi => ?_⟩
      rw [e1] at hi
      have := hcell i (by omega)
      rw [add_plain] at this
      rw [this]
      simp [List.getD, hi]

theorem rowB_of {H : Type} {enc : TypeId × Value → H} {W : World} {v : Value} {fuel : Nat} {x : DataW H × List MemPlace} (h : DataW.trod enc Try.prog W 0 (fun _ => true) true fuel 31 [v] = some x) : ∃ xs, RowB W v xs ∧ xs.length ≤ maxLen := by
  obtain ⟨xs, a, c, rfl, hl, hm, hw, hx⟩ := cells_row Try.underlying31 Try.underlying5 Try.cells5 h
  exact ⟨xs, ⟨⟨_, _, rfl, hx⟩, ByL.of (bytes_of hw), _, _, rfl, hl⟩, hm⟩
theorem rowI_of {H : Type} {enc : TypeId × Value → H} {W : World} {v : Value} {fuel : Nat} {x : DataW H × List MemPlace} (h : DataW.trod enc Try.prog W 0 (fun _ => true) true fuel 30 [v] = some x) : ∃ xs, RowI W v xs ∧ xs.length ≤ maxLen := by
  obtain ⟨xs, a, c, rfl, hl, hm, hw, hx⟩ := cells_row Try.underlying30 Try.underlying3 Try.cells3 h
  exact ⟨xs, ⟨⟨_, _, rfl, hx⟩, fun n hn => wf_i64 (hw n hn), _, _, rfl, hl⟩, hm⟩

/-- An argument of type []byte. -/
theorem open_rowB {H : Type} {enc : TypeId × Value → H} {W : World} {base : Nat} {v : Value} {d : DataW H} {ps : List MemPlace} (hok : Value.okWide Try.prog W .any base 31 v)
    (h : DataW.Trod enc Try.prog W 0 (fun _ => true) true 31 v d ps) : ∃ xs, RowB W v xs ∧ xs.length ≤ maxLen := by
  obtain ⟨a0, len, cap, rfl⟩ := okWide_slice Try.underlying31 hok
  obtain ⟨fuel, hf⟩ := h
  exact rowB_of hf

theorem Try.cells33 : Try.prog.cellsOf 33 = 4 := by kernel_rfl
/-- An argument that is an object. -/
theorem open_obj {H : Type} {enc : TypeId × Value → H} {W : World} {base : Nat} {v : Value} {d : DataW H} {ps : List MemPlace} (hok : Value.okWide Try.prog W .any base 33 v)
    (h : DataW.Trod enc Try.prog W 0 (fun _ => true) true 33 v d ps) : ∃ o, ObjAt W v o ∧ o.w.length ≤ maxLen ∧ o.b.length ≤ maxLen := by
  obtain ⟨v0, v1, v2, v3, y0, y1, y2, y3, n, rfl, _, _, h0, h1, h2, h3⟩ := Joins.open_agg4 Try.underlying33 (by kernel_rfl) Try.cells33 hok h
  obtain ⟨c, hc, _, wc⟩ := DataW.trod_int Try.underlying3 h0
  obtain ⟨k, hk, _, wk⟩ := DataW.trod_int Try.underlying3 h1
  simp only [List.cons.injEq, and_true] at hc hk
  subst hc hk
  obtain ⟨xs, hx, mx⟩ := rowI_of h2
  obtain ⟨ys, hy, my⟩ := rowB_of h3
  exact ⟨⟨c, k, xs, ys⟩, ⟨_, _, rfl, hx, hy, wf_i64 wc, wf_i64 wk⟩, mx, my⟩
end Go.Proofs.Ytmaeoefimkppoaa.Wd
