/- Parts of the walk of the law WideWrites. -/
import Derived.Test.YtbkojjbigilclaaSma
import Derived.Test.YtbkojjbigilclaaLwRa
import Derived.Deep.RegionHeld3
namespace Go.Proofs.Ytbkojjbigilclaa
open Go.ChangeShapes Go.WideShapes Go.ChangeAt Go.RowKit
set_option maxRecDepth 1000000

theorem refencode_g (v : Value) (o : Ob) (w : World) (h : ObjAt w v o) (hs : Short o) : Calls Try.prog 14 #[v] w (EncG (encG o) (chk o) w) := by
  cases hok : okO o with
  | true =>
    rw [chk_is hok]
    refine (refencode_yes v o w h hok).mono fun _ _ ⟨v, he, ho, hb⟩ => ?_
    have e1 : encG o = encO o := by simp [encG, hok]
    rw [e1]
    obtain ⟨a, c, rfl, _⟩ := own_room ho
    exact ⟨a, c, he, ho, hb⟩
  | false =>
    rw [chk_not hok]
    refine (refencode_no v o w h hs hok).mono fun _ _ ⟨he, hb⟩ => ?_
    have e1 : encG o = [] := by simp [encG, hok]
    rw [e1]
    exact ⟨none, 0, he, World.ownsRow_nil _ _ _ _, hb⟩
/-- The object that bytes are, or none. -/
def decO (xs : List Int) : Ob := if decB xs = true then rdO xs else ⟨0, 0, [], []⟩
def decT (xs : List Int) : Int := if decB xs = true then 0 else 5
def DecG (o : Ob) (t : Int) (w : World) (e : Ending) (w' : World) : Prop :=
  ∃ a1 c1 a2 c2, e = .returned (.tuple #[.agg #[.int .i64 o.c, .int .i64 o.k, .slice a1 o.w.length c1, .slice a2 o.b.length c2], .int .i64 t]) ∧ ObjAt w' (.agg #[.int .i64 o.c, .int .i64 o.k, .slice a1 o.w.length c1, .slice a2 o.b.length c2]) o ∧ Below w.heap.size w w'
theorem dec_g {n : Nat} {v : Value} {xs : List Int} {w : World} (hy : decB xs = true → Calls Try.prog n #[v] w (DecYes (rdO xs) w)) (hn : decB xs = false → Calls Try.prog n #[v] w (DecNo w)) : Calls Try.prog n #[v] w (DecG (decO xs) (decT xs) w) := by
  cases hd : decB xs with
  | true =>
    refine (hy hd).mono fun _ _ ⟨v, he, ho, hb⟩ => ?_
    have e1 : decO xs = rdO xs := by simp [decO, hd]
    have e2 : decT xs = 0 := by simp [decT, hd]
    rw [e1, e2]
    have ho' := ho
    obtain ⟨wv, bv, rfl, ⟨_, _, a1, c1, rfl, _⟩, ⟨_, _, a2, c2, rfl, _⟩, _, _⟩ := ho
    exact ⟨a1, c1, a2, c2, he, ho', hb⟩
  | false =>
    refine (hn hd).mono fun _ _ ⟨he, hb⟩ => ?_
    have e1 : decO xs = ⟨0, 0, [], []⟩ := by simp [decO, hd]
    have e2 : decT xs = 5 := by simp [decT, hd]
    rw [e1, e2]
    exact ⟨none, 0, none, 0, he, obj_zero _, hb⟩
theorem decO_short (xs : List Int) : Short (decO xs) := by
  unfold decO
  split
  · rename_i h; exact short_ok (dec_parts h).2.1
  · constructor <;> decide
end Go.Proofs.Ytbkojjbigilclaa
