/- How long a row of bytes that came in is at most: by the reach that the reading itself has. -/
import Derived.Test.YtkjpemgoiobeeaaDoorEOne
import Derived.SizedLaws
namespace Go.Proofs.YtkjpemgoiobeeaaDoor
open Go.ChangeShapes Go.WideShapes Go.ChangeAt Go.RowKit

theorem Tryd.bytes5 : Tryd.prog.bytesOf 5 = 1 := by kernel_rfl
theorem bts_size {H : Type} {enc : TypeId × Value → H} {W : World} {v : Value} {d : DataW H} {ps : List MemPlace} {xs : List Int} (h : DataW.Trod enc Tryd.prog W 0 (fun _ => true) true 33 v d ps) (hx : ArgB W v xs)
    (hd : ∀ elems spare, d = .slice elems spare → (elems.length + spare.length) * Tryd.prog.bytesOf 5 ≤ reachBytes) : xs.length ≤ 140737488351232 := by
  obtain ⟨a, c, rfl, _⟩ := hx.1.form
  obtain ⟨fuel, hf⟩ := h
  rcases open_ints Tryd.underlying33 Tryd.underlying5 Tryd.cells5 hf with ⟨e, _⟩ | ⟨a', len, cap, zs, e, _, hl, hm, hz, hxx, _, _⟩
  · simp [Value.cells] at e
    rw [e.2.1]
    simp
  · simp [Value.cells] at e
    obtain ⟨rfl, rfl, rfl⟩ := e
    simp only [if_true] at hz
    have := hd _ _ (congrArg Prod.fst hxx)
    rw [Tryd.bytes5, Nat.mul_one] at this
    simp only [lits, List.length_map, List.length_take, List.length_drop] at this
    have e : reachBytes = 140737488351232 := rfl
    omega
end Go.Proofs.YtkjpemgoiobeeaaDoor
