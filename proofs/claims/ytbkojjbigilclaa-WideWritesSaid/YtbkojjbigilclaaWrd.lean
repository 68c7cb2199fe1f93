/- What Word of package wide returns of any bytes, at any place; and 'known', the chapter's example. -/
import Derived.Test.YtbkojjbigilclaaSam
namespace Go.Proofs.Ytbkojjbigilclaa
open Go.ChangeShapes Go.WideShapes Go.ChangeAt Go.RowKit
set_option maxRecDepth 1000000

theorem decode_yes (v : Value) (xs : List Int) (w : World) (h : RowB w v xs) (hl2 : xs.length ≤ 10000) (hd : decB xs = true) : Calls Try.prog 15 #[v] w (DecYes (rdO xs) w) :=
  (decode_long v xs w h (dec_parts hd).1 hl2).mono fun _ _ h => h.1 hd
theorem decode_no (v : Value) (xs : List Int) (w : World) (h : RowB w v xs) (hl2 : xs.length ≤ 10000) (hd : decB xs = false) : Calls Try.prog 15 #[v] w (DecNo w) := by
  by_cases hl : xs.length < 12
  · exact decode_short v xs w h hl
  · exact (decode_long v xs w h (by omega) hl2).mono fun _ _ h => h.2 hd

def WordPost (x t : Int) (w : World) (e : Ending) (w' : World) : Prop := e = .returned (.tuple #[.int .i64 x, .int .i64 t]) ∧ Below w.heap.size w w'
set_option maxHeartbeats 1000000 in
theorem word_bad (v : Value) (xs : List Int) (i : Int) (w : World) (h : RowB w v xs) (hl2 : xs.length ≤ 10000) (hd : decB xs = false) : Calls Try.prog 26 #[v, .int .i64 i] w (WordPost 0 5 w) := by
  have HD := Lib.hid (decode_no v xs w h hl2 hd)
  obtain ⟨_, _, a, c, rfl, _⟩ := h
  clear hd
  go_enter Try.func26, Try.ntmps26
  go_wp2_with fail
  refine HD.out.mono ?_
  rintro e w1 ⟨rfl, hb1⟩
  have B1 := Lib.hid hb1
  clear hb1
  go_wp2
  go_ret2
  exact ⟨rfl, B1.out.alloc B1.out.size _⟩

set_option maxHeartbeats 1000000 in
theorem word_bytes (v : Value) (xs : List Int) (i : Int) (w : World) (h : RowB w v xs) (hl2 : xs.length ≤ 10000) (hd : decB xs = true) (hk : (rdO xs).k ≠ 1) : Calls Try.prog 26 #[v, .int .i64 i] w (WordPost 0 2 w) := by
  have HD := Lib.hid (decode_yes v xs w h hl2 hd)
  obtain ⟨_, _, a, c, rfl, _⟩ := h
  clear hd
  generalize rdO xs = o at *
  obtain ⟨x, k, l, b⟩ := o
  have hk' : (k != 1) = true := by simpa using hk
  clear hk
  go_enter Try.func26, Try.ntmps26
  go_wp2_with fail
  refine HD.out.mono ?_
  rintro e w1 ⟨v1, rfl, ⟨wv, bv, rfl, ⟨_, _, a1, c1, rfl, _⟩, ⟨_, _, a2, c2, rfl, _⟩, _, _⟩, hb1⟩
  simp only
  have B1 := Lib.hid hb1
  clear hb1
  go_wp2
  go_ret2
  exact ⟨rfl, B1.out.alloc B1.out.size _⟩

set_option maxHeartbeats 1000000 in
theorem word_none (v : Value) (xs : List Int) (i : Int) (w : World) (h : RowB w v xs) (hl2 : xs.length ≤ 10000) (hd : decB xs = true) (hk : (rdO xs).k = 1) (hi : ¬ (0 ≤ i ∧ i < (rdO xs).w.length)) : Calls Try.prog 26 #[v, .int .i64 i] w (WordPost 0 4 w) := by
  have HD := Lib.hid (decode_yes v xs w h hl2 hd)
  obtain ⟨_, _, a, c, rfl, _⟩ := h
  clear hd
  generalize rdO xs = o at *
  obtain ⟨x, k, l, b⟩ := o
  simp only at hk hi
  subst hk
  by_cases h0 : i < 0
  · clear hi
    go_enter Try.func26, Try.ntmps26
    go_wp2_with fail
    refine HD.out.mono ?_
    rintro e w1 ⟨v1, rfl, ⟨wv, bv, rfl, ⟨_, _, a1, c1, rfl, _⟩, ⟨_, _, a2, c2, rfl, _⟩, _, _⟩, hb1⟩
    simp only
    have B1 := Lib.hid hb1
    clear hb1
    go_wp2
    go_ret2
    exact ⟨rfl, B1.out.alloc B1.out.size _⟩
  · have h1 : (l.length : Int) ≤ i := by omega
    have h2 : 0 ≤ i := by omega
    clear hi h0
    go_enter Try.func26, Try.ntmps26
    go_wp2_with fail
    refine HD.out.mono ?_
    rintro e w1 ⟨v1, rfl, ⟨wv, bv, rfl, ⟨_, _, a1, c1, rfl, _⟩, ⟨_, _, a2, c2, rfl, _⟩, _, _⟩, hb1⟩
    simp only
    have B1 := Lib.hid hb1
    clear hb1
    go_wp2
    go_ret2
    exact ⟨rfl, B1.out.alloc B1.out.size _⟩

set_option maxHeartbeats 1000000 in
theorem word_at (v : Value) (xs : List Int) (i : Nat) (w : World) (h : RowB w v xs) (hl2 : xs.length ≤ 10000) (hd : decB xs = true) (hk : (rdO xs).k = 1) (hi : i < (rdO xs).w.length) : Calls Try.prog 26 #[v, .int .i64 i] w (WordPost ((rdO xs).w.getD i 0) 0 w) := by
  have HD := Lib.hid (decode_yes v xs w h hl2 hd)
  obtain ⟨_, _, a, c, rfl, _⟩ := h
  clear hd
  generalize rdO xs = o at *
  obtain ⟨x, k, l, b⟩ := o
  simp only at hk hi ⊢
  subst hk
  have hi' : (i : Int) < l.length := by omega
  go_enter Try.func26, Try.ntmps26
  go_wp2_with fail
  refine HD.out.mono ?_
  rintro e w1 ⟨v1, rfl, ⟨wv, bv, rfl, ⟨⟨a0, c0, hz0, hr⟩, _, a1, c1, rfl, _⟩, ⟨_, _, a2, c2, rfl, _⟩, _, _⟩, hb1⟩
  simp only at *
  have B1 := Lib.hid hb1
  obtain ⟨b1, o1, rfl, q1⟩ := hr.resolve_left (fun e => by subst e; simp at hi)
  injection hz0 with e1 e2 e3
  subst e1
  have r0 := q1 i hi
  have r1 := (World.cell?_alloc_lt w1 (.cells #[.int .i64 x, .int .i64 1, .slice (some ⟨b1, o1, none⟩) l.length c1, .slice a2 b.length c2] 25) _ (World.block_lt_of_cell? _ _ r0)).trans r0
  clear hb1 q1 hr r0 e3
  generalize l.getD i 0 = z at *
  go_wp2
  go_ret2
  exact ⟨rfl, B1.out.alloc B1.out.size _⟩
end Go.Proofs.Ytbkojjbigilclaa
