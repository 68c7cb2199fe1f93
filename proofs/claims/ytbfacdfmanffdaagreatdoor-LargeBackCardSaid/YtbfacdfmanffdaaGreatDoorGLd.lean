/- Sums of two and of three, and a number's bytes, as the laws ask for them. -/
import Derived.Test.YtbfacdfmanffdaaGreatDoorGLb
namespace Go.Proofs.YtbfacdfmanffdaaGreatDoor
set_option maxRecDepth 1000000
open Go.ChangeShapes Go.WideShapes Go.ChangeAt Go.RowKit

theorem add_one {N M : Nat → Prop} (v u : Value) (A B : List Int) (w : World) (h1 : Bts N w v A) (b1 : Bytes A) (l1 : A.length ≤ 1000000000000) (h2 : Bts M w u B) (b2 : Bytes B) (l2 : B.length ≤ 1000000000000) :
    Calls Tryz.prog 18 #[v, .slice (some ⟨w.heap.size, 0, none⟩) 1 1] (w.alloc (.cells #[u] 22)) (NumB (addE A [B]) (addO A [B]) w) :=
  (add_code v _ A [B] _ (h1.next (below_new _ _)) b1 l1 (bss1 h2) (fun x hx => by simp at hx; subst hx; exact ⟨b2, l2⟩) (by simp)).mono fun _ _ h => NumB.from (below_new _ _) h
theorem add_two {N M K : Nat → Prop} (v u t : Value) (A B C : List Int) (w : World) (h1 : Bts N w v A) (b1 : Bytes A) (l1 : A.length ≤ 1000000000000) (h2 : Bts M w u B) (b2 : Bytes B) (l2 : B.length ≤ 1000000000000) (h3 : Bts K w t C) (b3 : Bytes C) (l3 : C.length ≤ 1000000000000) :
    Calls Tryz.prog 18 #[v, .slice (some ⟨w.heap.size, 0, none⟩) 2 2] (w.alloc (.cells #[u, t] 22)) (NumB (addE A [B, C]) (addO A [B, C]) w) :=
  (add_code v _ A [B, C] _ (h1.next (below_new _ _)) b1 l1 (bss2 h2 h3) (fun x hx => by simp at hx; rcases hx with rfl | rfl; exact ⟨b2, l2⟩; exact ⟨b3, l3⟩) (by simp)).mono fun _ _ h => NumB.from (below_new _ _) h
theorem of_all (n : Int) (w : World) (h0 : -9223372036854775808 ≤ n) (h1 : n ≤ 9223372036854775807) : Calls Tryz.prog 8 #[.int .i64 n] w (NumB (ofE n) (ofO n) w) := by
  by_cases hn : n < 0
  · have e1 : ofE n = 2 := by unfold ofE; rw [if_pos hn]
    have e2 : ofO n = [] := by unfold ofO; rw [if_pos hn]
    rw [e1, e2]
    go_enter Tryz.func8, Tryz.ntmps8
    go_wp2
    go_ret2
    exact ⟨_, rfl, bts_nil _ _, Below.refl _ _⟩
  · have e1 : ofE n = 0 := by unfold ofE; rw [if_neg hn]
    have e2 : ofO n = dig n.toNat := by unfold ofO; rw [if_neg hn]
    rw [e1, e2]
    exact (of_ref n w h1 (by omega)).mono fun _ _ h => NumPost.b h
theorem cmp_refB {N M : Nat → Prop} (v1 v2 : Value) (A B : List Int) (w : World) (h1 : Bts N w v1 A) (b1 : Bytes A) (l1 : A.length ≤ 1000000000000) (h2 : Bts M w v2 B) (b2 : Bytes B) (l2 : B.length ≤ 1000000000000) :
    Calls Tryz.prog 59 #[v1, v2] w (ValB (.int .i64 (cmpV (val A) (val B))) w) := (cmp_ref v1 v2 A B w h1 b1 l1 h2 b2 l2).mono fun _ _ ⟨h, e⟩ => ⟨h, e ▸ Below.refl _ _⟩
theorem right_refB {N : Nat → Prop} (v : Value) (bs : List Int) (w : World) (hv : Bts N w v bs) (hl : bs.length ≤ 1000000000000) :
    Calls Tryz.prog 23 #[v] w (ValB (.bool (rightB bs)) w) := (right_ref v bs w hv hl).mono fun _ _ ⟨h, e⟩ => ⟨h, e ▸ Below.refl _ _⟩
theorem int_refB {N : Nat → Prop} (v : Value) (bs : List Int) (w : World) (hv : Bts N w v bs) (hb : Bytes bs) (hl : bs.length ≤ 1000000000000) :
    Calls Tryz.prog 10 #[v] w (ValB (.tuple #[.int .i64 (intV bs), .bool (intB bs)]) w) := (int_ref v bs w hv hb hl).mono fun _ _ ⟨h, e⟩ => ⟨h, e ▸ Below.refl _ _⟩
end Go.Proofs.YtbfacdfmanffdaaGreatDoor
