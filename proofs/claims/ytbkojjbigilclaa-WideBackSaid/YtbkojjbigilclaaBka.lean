/- Parts of the walk of the law WideBack. -/
import Derived.Test.YtbkojjbigilclaaLawW
import Derived.Test.YtbkojjbigilclaaLawD
import Derived.Deep.CutRange
namespace Go.Proofs.Ytbkojjbigilclaa
open Go.ChangeShapes Go.WideShapes Go.ChangeAt Go.RowKit
set_option maxRecDepth 1000000

theorem own_addr {w : World} {base n : Nat} {v : Value} {l : List Value} (h : w.ownsRow base 5 1 v n l) (hn : 0 < n) : ∃ g cap, v = .slice (some ⟨g, 0, none⟩) n cap ∧ n ≤ cap := by
  obtain ⟨a, c, rfl, hc⟩ := own_room h
  rcases h.2 with ⟨_, h0⟩ | ⟨g, cap, cur, he, _⟩
  · omega
  · injection he with e1 e2 e3
    subst e1
    exact ⟨g, c, rfl, hc⟩
theorem one_at (w : World) (m : Int) : Bts (w.alloc (.cells #[.int .u8 m] 5)) (.slice (some ⟨w.heap.size, 0, none⟩) 1 1) [m] := bts_lit w [m]
theorem row_take {w : World} {b c n : Nat} {xs : List Int} (h : RowB w (.slice (some ⟨b, 0, none⟩) n c) xs) (k : Nat) (hk : k ≤ xs.length) (hc : k ≤ c) : RowB w (.slice (some ⟨b, 0, none⟩) k c) (xs.take k) :=
  ⟨bts_take h.1 k hk, h.2.1.take k, _, _, by rw [List.length_take, Nat.min_eq_left hk], by rw [List.length_take, Nat.min_eq_left hk]; exact hc⟩
theorem own_next {w w' : World} {base n : Nat} {e : TypeId} {v : Value} {xs : List Value} (h : w.ownsRow base e 1 v n xs) (hb : Below w.heap.size w w') : w'.ownsRow base e 1 v n xs := own_kept h hb
/-- The place where the bytes are cut. -/
theorem cut_at (z : Int) (n : Nat) (hn : 0 < n) (h : n ≤ 100000) : ∃ r : Nat, r < n ∧ wrap64 ((IntKind.u64.wrap z).tmod (n : Int)) = (r : Int) := by
  refine ⟨((z % 18446744073709551616) % n).toNat, ?_, ?_⟩
  · have h1 : 0 ≤ (z % 18446744073709551616) % (n : Int) := Int.emod_nonneg _ (by omega)
    have h2 : (z % 18446744073709551616) % (n : Int) < n := Int.emod_lt_of_pos _ (by omega)
    omega
  · have h0 : IntKind.u64.wrap z = z % 18446744073709551616 := by simp [IntKind.wrap, IntKind.signed, IntKind.bits]
    have h3 : 0 ≤ z % 18446744073709551616 := Int.emod_nonneg _ (by omega)
    have h1 : 0 ≤ (z % 18446744073709551616) % (n : Int) := Int.emod_nonneg _ (by omega)
    have h2 : (z % 18446744073709551616) % (n : Int) < n := Int.emod_lt_of_pos _ (by omega)
    rw [h0, Int.tmod_eq_emod_of_nonneg h3]
    generalize (z % 18446744073709551616) % (n : Int) = q at *
    unfold wrap64
    omega
end Go.Proofs.Ytbkojjbigilclaa
