/- A memory of a law's own, and 'known', the chapter's example: it returns true. -/
import Derived.Test.YtmaeoefimkppoaaFSe
namespace Go.Proofs.Ytmaeoefimkppoaa.Fl
set_option maxRecDepth 1000000
open Go.ChangeShapes Go.WideShapes Go.ChangeAt Go.RowKit
open Go.Proofs.Ytmaeoefimkppoaa.Wd

def newW (w : World) : World := w.alloc (.cells #[.int .i64 0, .map none, .slice none 0 0] 75)
theorem cell_new (w : World) (cs : Array Value) (t : TypeId) (j : Nat) : (w.alloc (.cells cs t)).cell? ⟨w.heap.size, j, none⟩ = cs[j]? := by
  rw [World.cell?_alloc_at _ _ _ _ (by simp)]
theorem mem_new (w : World) (K : Nat → Prop) (hK : ∀ g, K g → g < w.heap.size) : MemB K (newW w) w.heap.size [] := by
  have e : ∀ i, at_ ([] : List (Option En)) i = none := fun i => at_none (by simp; omega)
  refine ⟨none, .slice none 0 0, [], { c0 := ?_, c1 := ?_, c2 := ?_, fz := ?_, mp := .inl ⟨rfl, fun i _ => by simp only [e]; rfl⟩, nums := World.ownsRow_nil _ _ _ _, rows := fun i x h => ?_, apart := fun i j x y h _ _ => ?_, off := fun i x h => ?_, offn := fun g hg => (by cases hg), offr := fun b hb => (by cases hb), km := ?_, kr := fun b hb => (by cases hb), kn := fun g hg => (by cases hg), ko := fun i x h => ?_, kb := ?_, lt := by unfold newW; simp, few := by simp }, rfl⟩
  · exact cell_new w _ 75 0
  · exact cell_new w _ 75 1
  · exact cell_new w _ 75 2
  · exact fun j => World.frozen?_alloc_new w _ 75 j
  · rw [e] at h; cases h
  · rw [e] at h; cases h
  · rw [e] at h; cases h
  · intro h; have := hK _ h; omega
  · rw [e] at h; cases h
  · intro g hg; have := hK g hg; unfold newW; simp; omega
theorem new10_any (w : World) : Calls Try.prog 14 #[] w fun e w' => e = .returned (.pointer (some ⟨w.heap.size, 0, none⟩)) ∧ w' = newW w := by
  go_enter Try.func14, Try.ntmps14
  go_wp2
  go_ret
  exact ⟨rfl, rfl⟩
theorem find_nil (o : Int) (w : World) : Calls Try.prog 48 #[.pointer none, .int .i64 o] w fun e w' => e = .returned (.tuple #[.int .i64 0, .int .i64 1]) ∧ w = w' := by
  go_enter Try.func48, Try.ntmps48
  go_wp2
  go_ret2
  exact ⟨rfl, rfl⟩
theorem open_nil (o k i : Int) (w : World) : Calls Try.prog 60 #[.pointer none, .int .i64 o, .int .i64 k, .int .i64 i] w fun e w' => e = .returned (.tuple #[.agg #[.int .i64 0, .int .i64 0, .slice none 0 0, .slice none 0 0], .int .i64 1]) ∧ Below w.heap.size w w' := by
  go_enter Try.func60, Try.ntmps60
  go_wp2_with (go_at_call 48; refine (find_nil _ _).mono ?_; rintro e w1 ⟨rfl, rfl⟩)
  refine bodyPost_ret (res_box2 rfl rfl (box_new w _ _ _ _)) rfl ?_
  exact ⟨rfl, below_new _ _⟩
theorem set_nil (o i v : Int) (w : World) : Calls Try.prog 32 #[.pointer none, .int .i64 o, .int .i64 i, .int .i64 v] w fun e w' => e = .returned (.int .i64 1) ∧ Below w.heap.size w w' := by
  go_enter Try.func32, Try.ntmps32
  go_wp2_with (go_at_call 60; refine (open_nil _ _ _ _).mono ?_; rintro e w1 ⟨rfl, hb⟩; have K1 := Lib.hid hb)
  go_ret
  exact ⟨rfl, K1.out.trans ((below_new _ _).mono K1.out.size)⟩
/-- What a row of calls may change: nothing that was there. -/
def KnPost (w : World) (e : Ending) (w' : World) : Prop := e = .returned (.bool true) ∧ Below w.heap.size w w'
def E1 : Mem := [some ⟨2, 1, [2, 2], []⟩]
def E2 : Mem := [some ⟨2, 1, [7, 2], []⟩]
set_option maxHeartbeats 1000000 in
theorem known_any (w : World) : Calls Try.prog 13 #[] w (KnPost w) := by
  have H1 : Hid (∀ w1, MemB (· < w.heap.size) w1 w.heap.size [] → Calls Try.prog 30 #[.pointer (some ⟨w.heap.size, 0, none⟩), .int .i64 2, .int .i64 1, .int .i64 2] w1 fun e w2 => e = .returned (.tuple #[.int .i64 2, .int .i64 0]) ∧ Hid (MemB (· < w.heap.size) w2 w.heap.size E1) ∧ Hid (Keeps (· < w.heap.size) w1 w2)) := fun w1 h => (new_any h (by decide) 2 1 2 ⟨by decide, by decide⟩ ⟨by decide, by decide⟩).mono fun e w2 ⟨he, hm, hk⟩ => ⟨he, hm, hk⟩
  have H2 : Hid (∀ w1, MemB (· < w.heap.size) w1 w.heap.size E1 → Calls Try.prog 32 #[.pointer (some ⟨w.heap.size, 0, none⟩), .int .i64 2, .int .i64 0, .int .i64 7] w1 fun e w2 => e = .returned (.int .i64 0) ∧ Hid (MemB (· < w.heap.size) w2 w.heap.size E2) ∧ Hid (Keeps (· < w.heap.size) w1 w2)) := fun w1 h => (set_any h 2 0 7 ⟨by decide, by decide⟩ ⟨by decide, by decide⟩).mono fun e w2 ⟨he, hm, hk⟩ => ⟨he, hm, hk⟩
  have H3 : Hid (∀ w1, MemB (· < w.heap.size) w1 w.heap.size E2 → Calls Try.prog 36 #[.pointer (some ⟨w.heap.size, 0, none⟩), .int .i64 2, .int .i64 0] w1 fun e w2 => e = .returned (.tuple #[.int .i64 7, .int .i64 0]) ∧ Below w1.heap.size w1 w2) := fun w1 h => (fetch_any h 2 0 ⟨by decide, by decide⟩).mono fun e w2 ⟨he, hb⟩ => ⟨he, hb⟩
  have H4 : Hid (∀ w1, MemB (· < w.heap.size) w1 w.heap.size E2 → Calls Try.prog 36 #[.pointer (some ⟨w.heap.size, 0, none⟩), .int .i64 2, .int .i64 1] w1 fun e w2 => e = .returned (.tuple #[.int .i64 2, .int .i64 0]) ∧ Below w1.heap.size w1 w2) := fun w1 h => (fetch_any h 2 1 ⟨by decide, by decide⟩).mono fun e w2 ⟨he, hb⟩ => ⟨he, hb⟩
  have H5 : Hid (∀ w1, MemB (· < w.heap.size) w1 w.heap.size E2 → Calls Try.prog 18 #[.pointer (some ⟨w.heap.size, 0, none⟩)] w1 fun e w2 => e = .returned (.int .i64 1) ∧ w1 = w2) := fun w1 h => (made_any h).mono fun e w2 ⟨he, hb⟩ => ⟨he, hb⟩
  have H0 := Lib.hid (mem_new w (· < w.heap.size) (fun _ h => h))
  have HW : Hid (Below w.heap.size w (newW w)) := Lib.hid (below_new w _)
  have hsz : w.heap.size < (newW w).heap.size := by unfold newW; simp
  go_enter Try.func13, Try.ntmps13
  go_wp2_with fail
  refine (new10_any w).mono ?_
  rintro e w0 ⟨rfl, rfl⟩
  generalize newW w = w0 at *
  go_wp2_with fail
  refine (H1.out _ H0.out).mono ?_
  rintro e w1 ⟨rfl, M1, K1⟩
  go_wp2_with fail
  refine (H2.out _ M1.out).mono ?_
  rintro e w2 ⟨rfl, M2, K2⟩
  go_wp2_with fail
  refine (H3.out _ M2.out).mono ?_
  rintro e w3 ⟨rfl, B3⟩
  have B3 := Lib.hid B3
  go_wp2_with fail
  refine (H4.out _ (M2.out.fresh B3.out)).mono ?_
  rintro e w4 ⟨rfl, B4⟩
  have B4 := Lib.hid B4
  go_wp2_with (first | (go_at_call 32; refine (set_nil _ _ _ _).mono ?_; rintro e w5 ⟨rfl, hb⟩; have B5 := Lib.hid hb) | (go_at_call 18; refine (H5.out _ (((M2.out.fresh B3.out).fresh B4.out).fresh B5.out)).mono ?_; rintro e w6 ⟨rfl, rfl⟩))
  go_ret
  refine ⟨rfl, HW.out.trans ?_⟩
  have k1 : Keeps (· < w.heap.size) w0 w5 := (((K1.out.trans K2.out).trans (Keeps.of_below B3.out)).trans (Keeps.of_below B4.out)).trans (Keeps.of_below B5.out)
  exact k1.below (fun g hg => hg) (by omega)
end Go.Proofs.Ytmaeoefimkppoaa.Fl
