/- The walk of the law WideRefs: it returns true for every object. -/
import Derived.Test.YtbkojjbigilclaaLwRg
import Derived.Test.YtbkojjbigilclaaLwRb
namespace Go.Proofs.Ytbkojjbigilclaa
open Go.ChangeShapes Go.WideShapes Go.ChangeAt Go.RowKit
set_option maxRecDepth 1000000

set_option maxHeartbeats 2000000 in
theorem wideRefs_walk (w : World) (v0 : Value) (x0 : Ob) (hb0 : ObjAt w v0 x0) (_ : x0.w.length ≤ maxLen ∧ x0.b.length ≤ maxLen) :
    Calls Try.prog 9 #[v0] w fun e w' => e = .returned (.bool true) ∧ Below w.heap.size w w' := by
  have HO := Lib.hid hb0
  have HL := Lib.hid (fun (w' : World) (h : Below w.heap.size w w') => long_any v0 x0 w' (hb0.kept h))
  obtain ⟨wv, bv, rfl, ⟨_, _, a1, c1, rfl, _⟩, ⟨_, _, a2, c2, rfl, _⟩, _, _⟩ := hb0
  obtain ⟨c, k, l, b⟩ := x0
  simp only at *
  have HA := Lib.hid (Seen.start w c k (.slice a1 l.length c1) (.slice a2 b.length c2))
  cases hl : longO ⟨c, k, l, b⟩ with
  | true =>
    rw [hl] at HL
    clear hl
    go_enter Try.func9, Try.ntmps9
    go_wp2_with fail
    refine (HL.out _ HA.out.2.2.2.2.out).mono ?_
    rintro e w1 ⟨rfl, hb1⟩
    have B1 := (HA.out.kept hb1).2.2.2.2
    clear hb1
    go_wp2_with fail
    refine (known_true _).mono ?_
    rintro e w2 ⟨rfl, hb2⟩
    have B2 := Lib.hid (B1.out.trans (hb2.mono B1.out.size))
    clear hb2
    go_wp2
    go_ret
    exact ⟨rfl, B2.out⟩
  | false =>
    cases hok : okO ⟨c, k, l, b⟩ with
    | true => exact refs_good w c k l b a1 a2 c1 c2 HO.out hl hok
    | false => exact refs_bad w c k l b a1 a2 c1 c2 HO.out hl hok
end Go.Proofs.Ytbkojjbigilclaa
