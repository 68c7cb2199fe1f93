/- The walk of the law WideRefs, its parts: an object that may be, one that may not. -/
import Derived.Test.YtbkojjbigilclaaRfw
namespace Go.Proofs.Ytbkojjbigilclaa
open Go.ChangeShapes Go.WideShapes Go.ChangeAt Go.RowKit
set_option maxRecDepth 1000000

theorem cell_next {w w' : World} {p : Addr} {u : Value} (h : w.cell? p = some u) (hb : Below w.heap.size w w') : w'.cell? p = some u := (hb.cell (World.block_lt_of_cell? _ _ h)).trans h
def GotI (xs : List Int) (w : World) (e : Ending) (w' : World) : Prop := ∃ v, e = .returned v ∧ Ints w' v xs ∧ Below w.heap.size w w'
theorem own_first {w : World} {base n : Nat} {v : Value} {z : Int} {l : List Value} (h : w.ownsRow base 3 1 v n (.int .i64 z :: l)) (hn : 0 < n) : ∃ g cap, v = .slice (some ⟨g, 0, none⟩) n cap ∧ w.cell? ⟨g, 0, none⟩ = some (.int .i64 z) := by
  rcases h.2 with ⟨_, h0⟩ | ⟨g, cap, cur, rfl, _⟩
  · omega
  · exact ⟨g, cap, rfl, h.cells (g := g) rfl 0 _ rfl⟩

end Go.Proofs.Ytbkojjbigilclaa
