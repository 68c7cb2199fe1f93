/- What the chapter's Encode returns of any object: its bytes, in new memory, or the error. -/
import Derived.Test.YtmaeoefimkppoaaVEnc
namespace Go.Proofs.Ytmaeoefimkppoaa.Wd
open Go.ChangeShapes Go.WideShapes Go.ChangeAt Go.RowKit
set_option maxRecDepth 1000000

/-- The box that holds the argument, in a later world. -/
def Bx (p : Nat) (x y z u : Value) (w : World) : Prop := w.cell? ⟨p, 0, none⟩ = some x ∧ w.cell? ⟨p, 1, none⟩ = some y ∧ w.cell? ⟨p, 2, none⟩ = some z ∧ w.cell? ⟨p, 3, none⟩ = some u
theorem Bx.kept {p : Nat} {x y z u : Value} {w w' : World} {B : Nat} (h : Bx p x y z u w) (hb : Below B w w') (hp : p < B) : Bx p x y z u w' :=
  ⟨(hb.cell (p := ⟨p, 0, none⟩) hp).trans h.1, (hb.cell (p := ⟨p, 1, none⟩) hp).trans h.2.1, (hb.cell (p := ⟨p, 2, none⟩) hp).trans h.2.2.1, (hb.cell (p := ⟨p, 3, none⟩) hp).trans h.2.2.2⟩
theorem own_eq {w : World} {base n n' : Nat} {e : TypeId} {v : Value} {l l' : List Value} (h : w.ownsRow base e 1 v n l) (hn : n' = n) (hl : l' = l) : w.ownsRow base e 1 v n' l' := by rw [hn, hl]; exact h
theorem enc_ref {o : Ob} (h : okO o = true) : encO o = byts o.c 4 ++ byts o.k 4 ++ byts ((o.w.length : Int) + o.b.length) 4 ++ allB o.w ++ o.b := by
  have e3 : ∀ x y z : Int, allB [x, y, z] = byts x 4 ++ byts y 4 ++ byts z 4 := fun x y z => by simp [allB]
  obtain ⟨c, k, l, b⟩ := o
  unfold encO
  obtain ⟨_, ⟨hk, hb, _⟩ | ⟨hk, hl, _⟩⟩ := (okO_iff _).1 h
  · simp only at hk hb
    subst hk hb
    simp [sizeO, e3]
  · simp only at hk hl
    subst hk hl
    simp [sizeO, allB]

end Go.Proofs.Ytmaeoefimkppoaa.Wd
