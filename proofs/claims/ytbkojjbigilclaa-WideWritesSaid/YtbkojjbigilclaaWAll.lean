/- What word.All, and the chapter's Put and All, return: the bytes of the words, one behind the other, in new memory. -/
import Derived.Test.YtbkojjbigilclaaWGet
namespace Go.Proofs.Ytbkojjbigilclaa
open Go.RowKit

/-- The slice value v reads, in the world w, as the numbers ls. -/
def Ints (w : World) (v : Value) (ls : List Int) : Prop :=
  ∃ a c, v = .slice a ls.length c ∧ (ls = [] ∨ ∃ b off, a = some ⟨b, off, none⟩ ∧ ∀ i, i < ls.length → w.cell? ⟨b, off + i, none⟩ = some (.int .i64 (ls.getD i 0)))
def allB (ls : List Int) : List Int := ls.flatMap fun o => byts o 4
theorem allB_len (ls : List Int) : (allB ls).length = 4 * ls.length := by
  induction ls with
  | nil => rfl
  | cons o r ih => simp [allB, byts_len] at ih ⊢; omega
theorem allB_snoc (ls : List Int) (k : Nat) (h : k < ls.length) : allB (ls.take (k + 1)) = allB (ls.take k) ++ byts (ls.getD k 0) 4 := by
  have e : ls.getD k 0 = ls[k] := by simp [List.getD, List.getElem?_eq_getElem h]
  rw [List.take_succ_eq_append_getElem h, e]
  unfold allB
  rw [List.flatMap_append, List.flatMap_singleton]

theorem byt_lt (o : Int) (i : Nat) : 0 ≤ byt o i ∧ byt o i ≤ 255 := by unfold byt; omega
theorem byts_Bytes (o : Int) (k : Nat) : Bytes (byts o k) := by
  intro i
  by_cases h : i < k
  · have : (byts o k).getD i 0 = byt o i := by simp [byts, List.getD, h]
    rw [this]; exact byt_lt o i
  · have : (byts o k).getD i 0 = 0 := by simp [byts, List.getD, h]
    rw [this]; omega

theorem byts4 (o : Int) : byts o 4 = [o % 4294967296 / 16777216, o % 4294967296 / 65536 % 256, o % 4294967296 / 256 % 256, o % 256] := by
  have e : byts o 4 = [byt o 0, byt o 1, byt o 2, byt o 3] := rfl
  rw [e]
  simp only [byt]
  congr 1
  · show o / 16777216 % 256 = _; omega
  congr 1
  · show o / 65536 % 256 = _; omega
  congr 1
  · show o / 256 % 256 = _; omega
  congr 1
  · show o / 1 % 256 = _; omega

theorem own_lit (w : World) (a b c d : Int) : (w.alloc (.cells #[.int .u8 a, .int .u8 b, .int .u8 c, .int .u8 d] 5)).ownsRow w.heap.size 5 1 (.slice (some ⟨w.heap.size, 0, none⟩) 4 4) 4 ([a, b, c, d].map (Value.int .u8)) :=
  ⟨rfl, .inr ⟨w.heap.size, 4, _, rfl, Nat.le_refl _, heap_alloc_new w _, by omega, by decide, rfl, rfl⟩⟩

set_option maxHeartbeats 800000 in
theorem put_ref (o : Int) (w : World) :
    Calls Try.prog 31 #[.int .i64 o] w (Wrote w.heap.size w (byts o 4)) := by
  have h1 : 0 ≤ o % 4294967296 := by omega
  have h2 : o % 4294967296 < 4294967296 := by omega
  go_enter Try.func31, Try.ntmps31
  go_wp2
  go_ret
  refine ⟨_, rfl, ?_, (Below.refl _ _).alloc (Nat.le_refl _) _⟩
  rw [byts4]
  exact own_lit w _ _ _ _

theorem Ints.kept {w w' : World} {v : Value} {ls : List Int} (h : Ints w v ls) (hb : Below w.heap.size w w') : Ints w' v ls := by
  obtain ⟨a, c, rfl, h⟩ := h
  refine ⟨a, c, rfl, ?_⟩
  rcases h with h | ⟨b, off, rfl, h⟩
  · exact .inl h
  · exact .inr ⟨b, off, rfl, fun i hi => (hb.cell (World.block_lt_of_cell? _ _ (h i hi))).trans (h i hi)⟩
theorem Bts.kept {w w' : World} {v : Value} {ls : List Int} (h : Bts w v ls) (hb : Below w.heap.size w w') : Bts w' v ls := by
  obtain ⟨a, c, rfl, h⟩ := h
  refine ⟨a, c, rfl, ?_⟩
  rcases h with h | ⟨b, off, rfl, h⟩
  · exact .inl h
  · exact .inr ⟨b, off, rfl, fun i hi => (hb.cell (World.block_lt_of_cell? _ _ (h i hi))).trans (h i hi)⟩
theorem Ints.at_ {w : World} {v : Value} {ls : List Int} {k : Nat} (h : Ints w v ls) (hk : k < ls.length) :
    ∃ b off c, v = .slice (some ⟨b, off, none⟩) ls.length c ∧ w.cell? ⟨b, off + k, none⟩ = some (.int .i64 (ls.getD k 0)) := by
  obtain ⟨a, c, rfl, h⟩ := h
  rcases h with rfl | ⟨b, off, rfl, h⟩
  · simp at hk
  · exact ⟨b, off, c, rfl, h k hk⟩

theorem mk4n (w : World) (n : Nat) (hn : n ≤ 100000) : (Instr.makeSlice 23 (.int .i64 0) (.int .i64 (4 * (n : Int)))).run Try.prog w = .ok (.slice (some ⟨w.heap.size, 0, none⟩) 0 (4 * n)) (w.alloc (.cells (madeCells (Value.int .u8 0).cells (4 * n)) 5)) := by
  obtain ⟨i0, hi, hz0, hz1, hz2⟩ := info_parts Try.info5
  have h := run_make (P := Try.prog) w 23 5 i0 (.int .u8 0) Try.underlying23 hi hz0 .i64 .i64 0 (4 * (n : Int)) (by omega) (by omega) (by rw [hz2]; omega) (by omega)
  rw [hz1, Nat.mul_one, show (4 * (n : Int)).toNat = 4 * n by omega] at h
  exact h

set_option maxHeartbeats 800000 in
set_option maxRecDepth 1000000 in
theorem all_any (v : Value) (ls : List Int) (w : World) (hv : Ints w v ls) (hl : ls.length ≤ 1000) :
    Calls Try.prog 30 #[v] w (Wrote w.heap.size w (allB ls)) := by
  have hm := mk4n w ls.length (by omega)
  obtain ⟨a, c, rfl, hv⟩ := hv
  have hl' : (ls.length : Int) ≤ 1000 := by omega
  go_enter Try.func30, Try.ntmps30
  go_wp2
  clear hm
  go_loopw [3, 12] (fun r i wr => ∃ k : Nat, k ≤ ls.length ∧ i = .int .i64 k ∧ wr.ownsRow w.heap.size 5 1 r (allB (ls.take k)).length ((allB (ls.take k)).map (Value.int .u8)) ∧ Below w.heap.size w wr)
    (fun _ i _ => ls.length - (intOf i).toNat)
  case atStart => exact ⟨0, by omega, rfl, World.ownsRow_made w _ (4 * ls.length) (Nat.le_refl _) (by unfold maxLen; omega) (by simp [size_madeCells]), (Below.refl _ _).alloc (Nat.le_refl _) _⟩
  case round =>
    obtain ⟨k, hk, rfl, hown, hnx⟩ := hrel
    by_cases hlt : k < ls.length
    · rcases hv with rfl | ⟨b, off, rfl, hcell⟩
      · simp at hlt
      have hc := hcell k hlt
      have hc' : wr.cell? ⟨b, off + k, none⟩ = some (.int .i64 (ls.getD k 0)) := (hnx.cell (World.block_lt_of_cell? _ _ hc)).trans hc
      have HC := Lib.hid hcell
      clear hcell hc
      have hlen : (allB (ls.take k)).length ≤ 4000 := by rw [allB_len, List.length_take]; omega
      have hsz := hnx.size
      have HS := Lib.hid (allB_snoc ls k hlt)
      have eg : ls.getD k 0 = ls[k] := by simp [List.getD, List.getElem?_eq_getElem hlt]
      have EG := Lib.hid eg
      clear eg
      go_wp2_with fail
      refine (write_any w.heap.size u3 (allB (ls.take k)) _ wr (by omega) hsz hown).mono ?_
      rintro e w1 ⟨v', rfl, hown', hb'⟩
      rw [← EG.out, ← HS.out] at hown'
      have hn1 := hnx.trans hb'
      clear hown hc'
      go_wp2
      go_roundw
      case rel => exact ⟨k + 1, by omega, by go_num, hown', hn1⟩
      case measure => simp [intOf]; omega
    · have e : k = ls.length := by omega
      go_wp2
      go_ret
      refine ⟨_, rfl, ?_, hnx⟩
      rw [List.take_of_length_le (by omega)] at hown
      exact hown

theorem own_form4 {w : World} {base : Nat} {v : Value} {xs : List Value} (h : w.ownsRow base 5 1 v 4 xs) : ∃ g c, v = .slice (some ⟨g, 0, none⟩) 4 c ∧ base ≤ g := by
  rcases h.2 with ⟨_, h0⟩ | ⟨g, cap, cur, rfl, hb, _⟩
  · cases h0
  · exact ⟨g, cap, rfl, hb⟩

set_option maxHeartbeats 800000 in
set_option maxRecDepth 1000000 in
theorem all_ref (v : Value) (ls : List Int) (w : World) (hv : Ints w v ls) (hl : ls.length ≤ 1000) :
    Calls Try.prog 32 #[v] w (Wrote w.heap.size w (allB ls)) := by
  obtain ⟨i0, hi, hz0, hz1, hz2⟩ := info_parts Try.info5
  obtain ⟨a, c, rfl, hv⟩ := hv
  have hl' : (ls.length : Int) ≤ 1000 := by omega
  go_enter Try.func32, Try.ntmps32
  go_wp2
  go_loopw [3, 4] (fun r i wr => ∃ k : Nat, k ≤ ls.length ∧ i = .int .i64 k ∧ wr.ownsRow w.heap.size 5 1 r (allB (ls.take k)).length ((allB (ls.take k)).map (Value.int .u8)) ∧ Below w.heap.size w wr)
    (fun _ i _ => ls.length - (intOf i).toNat)
  case atStart => exact ⟨0, by omega, rfl, World.ownsRow_nil _ _ _ _, Below.refl _ _⟩
  case round =>
    obtain ⟨k, hk, rfl, hown, hnx⟩ := hrel
    by_cases hlt : k < ls.length
    · rcases hv with rfl | ⟨b, off, rfl, hcell⟩
      · simp at hlt
      have hc := hcell k hlt
      have hc' : wr.cell? ⟨b, off + k, none⟩ = some (.int .i64 (ls.getD k 0)) := (hnx.cell (World.block_lt_of_cell? _ _ hc)).trans hc
      have HC := Lib.hid hcell
      clear hcell hc
      have hlen : (allB (ls.take k)).length ≤ 4000 := by rw [allB_len, List.length_take]; omega
      have hsz := hnx.size
      have HS := Lib.hid (allB_snoc ls k hlt)
      have eg : ls.getD k 0 = ls[k] := by simp [List.getD, List.getElem?_eq_getElem hlt]
      have EG := Lib.hid eg
      clear eg
      go_wp2_with fail
      refine (put_ref _ wr).mono ?_
      rintro e w1 ⟨v', rfl, hown', hb'⟩
      have hbl := byts_len ls[k] 4
      rw [hbl] at hown'
      clear hbl
      obtain ⟨g, c', rfl, hg⟩ := own_form4 hown'
      have hown1 : w1.ownsRow w.heap.size 5 1 u3 (allB (ls.take k)).length ((allB (ls.take k)).map (Value.int .u8)) :=
        hown.kept (row := none) ⟨hb'.os, hb'.tape, hb'.output, hb'.size, fun i hi _ => hb'.block i hi⟩ (by cases u3.ownBlock <;> simp)
      have hcells := hown'.cells (g := g) rfl
      have HCS := Lib.hid hcells
      have HB' := Lib.hid hb'
      have hsz1 := hb'.size
      clear hcells hb' hc'
      go_wp2_with (at_builtin; refine wpList_append_own _ rfl _ _ 23 rfl w.heap.size 5 i0 (.int .u8 0) 1 1 Try.underlying23 hi hz0 hz1 hz2 rfl (by decide) _ _ _ rfl hown1 ⟨g, 0, none⟩ 4 c' ((byts ls[k] 4).map (Value.int .u8)) rfl (by simp [byts_len]) ?c1 ?c2 ?c3 ?c4 ?c5 ?_)
      case c1 => exact HCS.out
      case c2 => intro u hu; simp at hu; obtain ⟨x, _, rfl⟩ := hu; rfl
      case c3 => unfold maxLen; omega
      case c4 => omega
      case c5 => omega
      intro v2 w2 hown2 hgrow _
      have hn2 : Below w.heap.size w w2 := (hnx.trans (HB'.out.mono hsz)).grown hgrow (by omega) fun g hg => (hown1.lt g hg).1
      have hown3 : w2.ownsRow w.heap.size 5 1 v2 (allB (ls.take (k + 1))).length ((allB (ls.take (k + 1))).map (Value.int .u8)) := by
        rw [HS.out, EG.out, List.length_append, byts_len, List.map_append]
        exact hown2
      clear hown hown1 hown' hown2 hgrow
      go_wp2
      go_roundw
      case rel => exact ⟨k + 1, by omega, by go_num, hown3, hn2⟩
      case measure => simp [intOf]; omega
    · have e : k = ls.length := by omega
      go_wp2
      go_ret
      refine ⟨_, rfl, ?_, hnx⟩
      rw [List.take_of_length_le (by omega)] at hown
      exact hown
end Go.Proofs.Ytbkojjbigilclaa
