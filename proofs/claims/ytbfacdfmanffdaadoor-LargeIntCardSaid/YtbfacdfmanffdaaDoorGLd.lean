/- Sums of two and of three, and a number's bytes, as the laws ask for them. -/
import Derived.Test.YtbfacdfmanffdaaDoorGLb
namespace Go.Proofs.YtbfacdfmanffdaaDoor
set_option maxRecDepth 1000000
open Go.ChangeShapes Go.WideShapes Go.ChangeAt Go.RowKit

theorem add_one {N M : Nat → Prop} (v u : Value) (A B : List Int) (w : World) (h1 : Bts N w v A) (b1 : Bytes A) (l1 : A.length ≤ 1000000000000) (h2 : Bts M w u B) (b2 : Bytes B) (l2 : B.length ≤ 1000000000000) :
    Calls Tryd.prog 12 #[v, .slice (some ⟨w.heap.size, 0, none⟩) 1 1] (w.alloc (.cells #[u] 22)) (NumB (addE A [B]) (addO A [B]) w) :=
  (add_code v _ A [B] _ (h1.next (below_new _ _)) b1 l1 (bss1 h2) (fun x hx => by simp at hx; subst hx; exact ⟨b2, l2⟩) (by simp)).mono fun _ _ h => NumB.from (below_new _ _) h
theorem add_one_ref {N M : Nat → Prop} (v u : Value) (A B : List Int) (w : World) (h1 : Bts N w v A) (b1 : Bytes A) (l1 : A.length ≤ 1000000000000) (h2 : Bts M w u B) (b2 : Bytes B) (l2 : B.length ≤ 1000000000000) :
    Calls Tryd.prog 13 #[v, .slice (some ⟨w.heap.size, 0, none⟩) 1 1] (w.alloc (.cells #[u] 22)) (NumB (addE A [B]) (addO A [B]) w) :=
  (add_ref v _ A [B] _ (h1.next (below_new _ _)) b1 l1 (bss1 h2) (fun x hx => by simp at hx; subst hx; exact ⟨b2, l2⟩) (by simp)).mono fun _ _ h => NumB.from (below_new _ _) (NumPost.b h)
theorem add_two {N M K : Nat → Prop} (v u t : Value) (A B C : List Int) (w : World) (h1 : Bts N w v A) (b1 : Bytes A) (l1 : A.length ≤ 1000000000000) (h2 : Bts M w u B) (b2 : Bytes B) (l2 : B.length ≤ 1000000000000) (h3 : Bts K w t C) (b3 : Bytes C) (l3 : C.length ≤ 1000000000000) :
    Calls Tryd.prog 12 #[v, .slice (some ⟨w.heap.size, 0, none⟩) 2 2] (w.alloc (.cells #[u, t] 22)) (NumB (addE A [B, C]) (addO A [B, C]) w) :=
  (add_code v _ A [B, C] _ (h1.next (below_new _ _)) b1 l1 (bss2 h2 h3) (fun x hx => by simp at hx; rcases hx with rfl | rfl; exact ⟨b2, l2⟩; exact ⟨b3, l3⟩) (by simp)).mono fun _ _ h => NumB.from (below_new _ _) h
theorem cmp_refB {N M : Nat → Prop} (v1 v2 : Value) (A B : List Int) (w : World) (h1 : Bts N w v1 A) (b1 : Bytes A) (l1 : A.length ≤ 1000000000000) (h2 : Bts M w v2 B) (b2 : Bytes B) (l2 : B.length ≤ 1000000000000) :
    Calls Tryd.prog 22 #[v1, v2] w (ValB (.int .i64 (cmpV (val A) (val B))) w) := (cmp_ref v1 v2 A B w h1 b1 l1 h2 b2 l2).mono fun _ _ ⟨h, e⟩ => ⟨h, e ▸ Below.refl _ _⟩
theorem right_refB {N : Nat → Prop} (v : Value) (bs : List Int) (w : World) (hv : Bts N w v bs) (hl : bs.length ≤ 1000000000000) :
    Calls Tryd.prog 24 #[v] w (ValB (.bool (rightB bs)) w) := (right_ref v bs w hv hl).mono fun _ _ ⟨h, e⟩ => ⟨h, e ▸ Below.refl _ _⟩
end Go.Proofs.YtbfacdfmanffdaaDoor
