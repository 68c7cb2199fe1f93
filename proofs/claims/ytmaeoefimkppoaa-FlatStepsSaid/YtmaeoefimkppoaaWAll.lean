/- What word.All, and the chapter's Put and All, return: the bytes of the words, one behind the other, in new memory. -/
import Derived.Test.YtmaeoefimkppoaaWGet
namespace Go.Proofs.Ytmaeoefimkppoaa.Wd
set_option maxRecDepth 1000000
open Go.RowKit

/-- The slice value v reads, in the world w, as the numbers ls. -/
def Ints (w : World) (v : Value) (ls : List Int) : Prop :=
  ∃ a c, v = .slice a ls.length c ∧ (ls = [] ∨ ∃ b off, a = some ⟨b, off, none⟩ ∧ ∀ i, i < ls.length → w.cell? ⟨b, off + i, none⟩ = some (.int .i64 (ls.getD i 0)))
def allB (ls : List Int) : List Int := ls.flatMap fun o => byts o 4
theorem allB_len (ls : List Int) : (allB ls).length = 4 * ls.length := by
  induction ls with
  | nil => rfl
  | cons o r ih => simp [allB, byts_len] at ih ⊢; omega
theorem allB_snoc (ls : List Int) (k : Nat) (h : k < ls.length) : allB (ls.take (k + 1)) = allB (ls.take k) ++ byts (ls.getD k 0) 4 := by
  have e : ls.getD k 0 = ls[k] := by simp [List.getD, List.getElem?_eq_getElem h]
  rw [List.take_succ_eq_append_getElem h, e]
  unfold allB
  rw [List.flatMap_append, List.flatMap_singleton]

theorem byt_lt (o : Int) (i : Nat) : 0 ≤ byt o i ∧ byt o i ≤ 255 := by unfold byt; omega
theorem byts_Bytes (o : Int) (k : Nat) : Bytes (byts o k) := by
  intro i
  by_cases h : i < k
  · have : (byts o k).getD i 0 = byt o i := by simp [byts, List.getD, h]
    rw [this]; exact byt_lt o i
  · have : (byts o k).getD i 0 = 0 := by simp [byts, List.getD, h]
    rw [this]; omega

theorem byts4 (o : Int) : byts o 4 = [o % 4294967296 / 16777216, o % 4294967296 / 65536 % 256, o % 4294967296 / 256 % 256, o % 256] := by
  have e : byts o 4 = [byt o 0, byt o 1, byt o 2, byt o 3] := rfl
  rw [e]
  simp only [byt]
  congr 1
  · show o / 16777216 % 256 = _; omega
  congr 1
  · show o / 65536 % 256 = _; omega
  congr 1
  · show o / 256 % 256 = _; omega
  congr 1
  · show o / 1 % 256 = _; omega

theorem own_lit (w : World) (a b c d : Int) : (w.alloc (.cells #[.int .u8 a, .int .u8 b, .int .u8 c, .int .u8 d] 5)).ownsRow w.heap.size 5 1 (.slice (some ⟨w.heap.size, 0, none⟩) 4 4) 4 ([a, b, c, d].map (Value.int .u8)) :=
  ⟨rfl, .inr ⟨w.heap.size, 4, _, rfl, Nat.le_refl _, heap_alloc_new w _, by omega, by decide, rfl, rfl⟩⟩

theorem Ints.kept {w w' : World} {v : Value} {ls : List Int} (h : Ints w v ls) (hb : Below w.heap.size w w') : Ints w' v ls := by
  obtain ⟨a, c, rfl, h⟩ := h
  refine ⟨a, c, rfl, ?_⟩
  rcases h with h | ⟨b, off, rfl, h⟩
  · exact .inl h
  · exact .inr ⟨b, off, rfl, fun i hi => (hb.cell (World.block_lt_of_cell? _ _ (h i hi))).trans (h i hi)⟩
theorem Bts.kept {w w' : World} {v : Value} {ls : List Int} (h : Bts w v ls) (hb : Below w.heap.size w w') : Bts w' v ls := by
  obtain ⟨a, c, rfl, h⟩ := h
  refine ⟨a, c, rfl, ?_⟩
  rcases h with h | ⟨b, off, rfl, h⟩
  · exact .inl h
  · exact .inr ⟨b, off, rfl, fun i hi => (hb.cell (World.block_lt_of_cell? _ _ (h i hi))).trans (h i hi)⟩
theorem Ints.at_ {w : World} {v : Value} {ls : List Int} {k : Nat} (h : Ints w v ls) (hk : k < ls.length) :
    ∃ b off c, v = .slice (some ⟨b, off, none⟩) ls.length c ∧ w.cell? ⟨b, off + k, none⟩ = some (.int .i64 (ls.getD k 0)) := by
  obtain ⟨a, c, rfl, h⟩ := h
  rcases h with rfl | ⟨b, off, rfl, h⟩
  · simp at hk
  · exact ⟨b, off, c, rfl, h k hk⟩

theorem mk4n (w : World) (n : Nat) (hn : n ≤ 100000) : (Instr.makeSlice 31 (.int .i64 0) (.int .i64 (4 * (n : Int)))).run Try.prog w = .ok (.slice (some ⟨w.heap.size, 0, none⟩) 0 (4 * n)) (w.alloc (.cells (madeCells (Value.int .u8 0).cells (4 * n)) 5)) := by
  obtain ⟨i0, hi, hz0, hz1, hz2⟩ := info_parts Try.info5
  have h := run_make (P := Try.prog) w 31 5 i0 (.int .u8 0) Try.underlying31 hi hz0 .i64 .i64 0 (4 * (n : Int)) (by omega) (by omega) (by rw [hz2]; omega) (by omega)
  rw [hz1, Nat.mul_one, show (4 * (n : Int)).toNat = 4 * n by omega] at h
  exact h

theorem own_form4 {w : World} {base : Nat} {v : Value} {xs : List Value} (h : w.ownsRow base 5 1 v 4 xs) : ∃ g c, v = .slice (some ⟨g, 0, none⟩) 4 c ∧ base ≤ g := by
  rcases h.2 with ⟨_, h0⟩ | ⟨g, cap, cur, rfl, hb, _⟩
  · cases h0
  · exact ⟨g, cap, rfl, hb⟩

end Go.Proofs.Ytmaeoefimkppoaa.Wd
