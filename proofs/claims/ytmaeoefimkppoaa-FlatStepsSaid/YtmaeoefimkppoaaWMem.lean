/- What the functions of package word that make bytes, and the comparison of two rows of bytes, do: what they return and that nothing that lay in memory before has changed. No condition but those that each statement names. -/
import Derived.Test.YtmaeoefimkppoaaWNum
import Derived.Laws.BytesArg
import Derived.Deep.QuietTactic
import Derived.BigQuiet
namespace Go.Proofs.Ytmaeoefimkppoaa.Wd
set_option maxRecDepth 1000000
open Go.RowKit

/-- The slice value v reads, in the world w, as the bytes xs. -/
def Bts (w : World) (v : Value) (xs : List Int) : Prop :=
  ∃ a c, v = .slice a xs.length c ∧ (xs = [] ∨ ∃ b off, a = some ⟨b, off, none⟩ ∧ ∀ i, i < xs.length → w.cell? ⟨b, off + i, none⟩ = some (.int .u8 (xs.getD i 0)))

theorem conv_bts {w : World} {v : Value} {xs : List Int} (h : Bts w v xs) : (convert 31 9 v).run Try.prog w = .ok (.string (strOfNums xs)) w := by
  obtain ⟨a, c, rfl, h⟩ := h
  rcases h with rfl | ⟨b, off, rfl, h⟩
  · rcases a with _ | a
    · exact run_convert_bytes_nil w 31 5 Try.underlying31 Try.underlying5 _ _ 9 Try.underlying9
    · rw [run_convert_bytes_string w 31 9 5 _ _ c Try.underlying31 Try.underlying5 Try.underlying9]
      exact run_bytesToString w a 0 c [] rfl
  · exact run_convert_bytes_arg w 31 5 Try.underlying31 Try.underlying5 b off _ c xs rfl h 9 Try.underlying9

theorem same_eq (v1 v2 : Value) (xs : List Int) (w : World) (h1 : Bts w v1 xs) (h2 : Bts w v2 xs) :
    Calls Try.prog 51 #[v1, v2] w fun e w' => e = .returned (.bool true) ∧ w = w' := by
  have c1 := conv_bts h1
  have c2 := conv_bts h2
  go_enter Try.func51, Try.ntmps51
  go_wp2
  go_ret
  exact ⟨rfl, rfl⟩

theorem Try.info5 : (Try.prog.info? 5).map (fun i => (i.zero, i.size, i.bytes)) = some (some (.int .u8 0), 1, 1) := by kernel_rfl

/-- Byte number i of the four bytes of the word o, the greatest first. -/
def byt (o : Int) (i : Nat) : Int := o / 2 ^ (8 * (3 - i)) % 256
def byts (o : Int) (k : Nat) : List Int := (List.range k).map (byt o)
theorem byts_succ (o : Int) (k : Nat) : byts o (k + 1) = byts o k ++ [byt o k] := by simp [byts, List.range_succ]
theorem byts_len (o : Int) (k : Nat) : (byts o k).length = k := by simp [byts]

def Wrote (base : Nat) (w : World) (xs : List Int) (e : Ending) (w' : World) : Prop :=
  ∃ v, e = .returned v ∧ w'.ownsRow base 5 1 v xs.length (xs.map (Value.int .u8)) ∧ Below base w w'

theorem wrote_step {base k : Nat} {xs : List Int} (o : Int) {w wr w1 : World} {u v' : Value} {ob : Obj} (hb : base ≤ w.heap.size)
    (hown : wr.ownsRow base 5 1 u (xs ++ byts o k).length ((xs ++ byts o k).map (Value.int .u8))) (hnx : Below base w wr)
    (hown' : w1.ownsRow base 5 1 v' ((xs ++ byts o k).length + 1) ((xs ++ byts o k).map (Value.int .u8) ++ [.int .u8 (byt o k)])) (hgrow : (wr.alloc ob).grownBy w1 u.ownBlock) :
    w1.ownsRow base 5 1 v' (xs ++ byts o (k + 1)).length ((xs ++ byts o (k + 1)).map (Value.int .u8)) ∧ Below base w w1 := by
  have hz := hnx.size
  refine ⟨?_, (hnx.alloc (by omega) ob).grown hgrow (by simp; omega) fun g hg => (hown.lt g hg).1⟩
  have e1 : (xs ++ byts o (k + 1)).length = (xs ++ byts o k).length + 1 := by simp [byts_len]; omega
  have e2 : (xs ++ byts o (k + 1)).map (Value.int .u8) = (xs ++ byts o k).map (Value.int .u8) ++ [.int .u8 (byt o k)] := by simp [byts_succ]
  rw [e1, e2]; exact hown'

theorem mk4 (w : World) : (Instr.makeSlice 31 (.int .i64 0) (.int .i64 4)).run Try.prog w = .ok (.slice (some ⟨w.heap.size, 0, none⟩) 0 4) (w.alloc (.cells (madeCells (Value.int .u8 0).cells 4) 5)) := by
  obtain ⟨i0, hi, hz0, hz1, hz2⟩ := info_parts Try.info5
  have h := run_make (P := Try.prog) w 31 5 i0 (.int .u8 0) Try.underlying31 hi hz0 .i64 .i64 0 4 (by omega) (by omega) (by rw [hz2]; decide) (by omega)
  rw [hz1] at h
  exact h

end Go.Proofs.Ytmaeoefimkppoaa.Wd
