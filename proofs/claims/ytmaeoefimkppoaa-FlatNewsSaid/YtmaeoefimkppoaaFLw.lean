/- What the laws of layer 10 have in common: an object that is read, plain lists. -/
import Derived.Test.YtmaeoefimkppoaaFDn
namespace Go.Proofs.Ytmaeoefimkppoaa.Fl
set_option maxRecDepth 1000000
open Go.ChangeShapes Go.WideShapes Go.ChangeAt Go.RowKit
open Go.Proofs.Ytmaeoefimkppoaa.Wd

/-- The object as a value with its parts in sight. -/
theorem obj_form {w : World} {K : Nat → Prop} {m : Nat} {E : Mem} (h : MemB K w m E) (o : Int) (ho : In64 o) :
    Calls Try.prog 22 #[.pointer (some ⟨m, 0, none⟩), .int .i64 o] w fun e w' => ∃ a1 n1 c1 a2 n2 c2, e = .returned (.tuple #[.agg #[.int .i64 (objF E o).c, .int .i64 (objF E o).k, .slice a1 n1 c1, .slice a2 n2 c2], .int .i64 (errF E o)]) ∧ Hid (OwnO w.heap.size w' (.agg #[.int .i64 (objF E o).c, .int .i64 (objF E o).k, .slice a1 n1 c1, .slice a2 n2 c2]) (objF E o)) ∧ Below w.heap.size w w' :=
  (obj_any h o ho).mono fun e w' ⟨v, he, hv, hb⟩ => by
    obtain ⟨z, u, rfl, g1, g2⟩ := hv
    obtain ⟨a3, c3, rfl⟩ := own_form g1
    obtain ⟨a4, c4, rfl⟩ := own_form g2
    exact ⟨_, _, _, _, _, _, he, ⟨_, _, rfl, g1, g2⟩, hb⟩
theorem two_at {xs : List Int} {j : Nat} (hj : j < xs.length) : (twoL xs).getD j 0 = 2 * xs.getD j 0 := by
  simp [twoL, List.getD, List.getElem?_map, List.getElem?_eq_getElem hj]
theorem err_two {E : Mem} {i : Int} (h1 : 1 ≤ i) (h2 : i ≤ 1000000) : errF E (2 * i) = if (at_ E i).isSome = true then 0 else 4 := by
  unfold errF
  rw [nam_two h1 h2]
theorem rise_next {xs : List Int} (h : xs.Pairwise (· < ·)) {j : Nat} (hj : j + 1 < xs.length) : xs.getD j 0 < xs.getD (j + 1) 0 := by
  have := List.pairwise_iff_getElem.1 h j (j + 1) (by omega) hj (by omega)
  simpa [List.getD, List.getElem?_eq_getElem hj, List.getElem?_eq_getElem (show j < xs.length by omega)] using this
/-- How many of the first k numbers have an object. -/
def cntE (E : Mem) (k : Nat) : Nat := (((List.range k).map fun j => ((j + 1 : Nat) : Int)).filter fun i => (at_ E i).isSome).length
theorem cntE_all (E : Mem) : cntE E E.length = (ids E).length := rfl
theorem cntE_next (E : Mem) (k : Nat) : cntE E (k + 1) = cntE E k + if (at_ E ((k + 1 : Nat) : Int)).isSome = true then 1 else 0 := by
  unfold cntE
  rw [List.range_succ, List.map_append, List.filter_append, List.length_append]
  congr 1
  simp only [List.map_cons, List.map_nil, List.filter_cons, List.filter_nil]
  split <;> simp_all
theorem cntE_le (E : Mem) (k : Nat) : cntE E k ≤ k := by
  unfold cntE
  refine Nat.le_trans (List.length_filter_le _ _) ?_
  simp
theorem nxt_last {E : Mem} (h : E.length + 1 ≤ 1000000) : nextN E (2 * ((E.length : Int) + 1)) = 0 ∧ nextB E (2 * ((E.length : Int) + 1)) = false := by
  have hn : nxt E (2 * ((E.length : Int) + 1)) = none := by
    unfold nxt
    rw [nam_two (by omega) (by omega), List.find?_eq_none]
    intro x hx
    have := (ids_rng hx).2
    simp
    omega
  unfold nextN nextB
  rw [hn]
  exact ⟨rfl, rfl⟩
theorem dF_len (E : Mem) (d : Todo) : (dF E d).length ≤ E.length + 1 := by
  have h1 : (newF E d.a d.b d.c).length ≤ E.length + 1 := by
    unfold newF; split
    · simp
    · omega
  have h2 : (setF E d.a d.b d.c).length = E.length := by
    unfold setF; split
    · exact set_len _ _ _
    · rfl
  have h3 : (setbF E d.a d.b d.c).length = E.length := by
    unfold setbF; split
    · exact set_len _ _ _
    · rfl
  have h4 : (becF E d.a d.b).length = E.length := by
    unfold becF; split
    · rw [set_len, set_len]
    · rfl
  have h5 : (collF E (refsL [d.a, d.b, d.c])).length = E.length := mask_len _ _
  unfold dF
  split
  · exact h1
  split
  · omega
  split
  · omega
  split
  · omega
  split <;> omega
end Go.Proofs.Ytmaeoefimkppoaa.Fl
