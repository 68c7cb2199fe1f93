/- What the functions Alloc, Free, Write of package heap do. No condition but those that each statement names. -/
import Derived.Test.YtgfjfpfhalblgaaHEn
import Derived.Test.YtgfjfpfhalblgaaHFn
namespace Go.Proofs.Ytgfjfpfhalblgaa
set_option maxRecDepth 1000000
open Go.ChangeShapes Go.WideShapes Go.ChangeAt Go.RowKit

section
variable {w w' : World} {c : Hp} {v : Value} {n nx : Nat} {B : List (Option Bk)} {V V' : Nat → Int}
theorem HeapM.filled (h : HeapM w c v n B nx V) (hr : RowV w' c.x n V') (o : Only (· = c.x) w w') : HeapM w' c v n B nx V' := by
  have od := h.ord
  have hh : ¬ c.h = c.x := by omega
  exact ⟨(o.cell (p := ⟨c.h, 0, none⟩) h.lt hh).trans h.c0, (o.cell (p := ⟨c.h, 1, none⟩) h.lt hh).trans h.c1, (o.cell (p := ⟨c.h, 2, none⟩) h.lt hh).trans h.c2, fun j => (o.frozen (p := ⟨c.h, j, none⟩) h.lt hh).trans (h.fz j),
    own_only2 h.own o (fun b hb e => by have := (h.own.lt b hb).1; omega), hr, h.ord, Nat.lt_of_lt_of_le h.lt o.size, h.small, h.few⟩
theorem HeapM.congr (h : HeapM w c v n B nx V) (he : ∀ j, j < n → V j = V' j) : HeapM w c v n B nx V' := ⟨h.c0, h.c1, h.c2, h.fz, h.own, h.row.congr he, h.ord, h.lt, h.small, h.few⟩
theorem NewRow.later {w1 : World} {v' : Value} (h : NewRow w1 v v') (hs : w.heap.size ≤ w1.heap.size) : NewRow w v v' := fun g hg => (h g hg).imp id fun h => by omega
theorem newRow_refl (w : World) (v : Value) : NewRow w v v := fun _ hg => .inl hg

/-- What Alloc tells, and the blocks then. -/
def AllocIs (n : Nat) (B : List (Option Bk)) (q : Int) (id t : Int) (B' : List (Option Bk)) : Prop :=
  (q < 0 ∧ id = 0 ∧ t = 2 ∧ B' = B) ∨ ∃ (q' a : Nat) (ok : Bool), q = q' ∧ FirstF (wordAt B) n q' a ok ∧ id = (if ok = true then (nextB B : Int) else 0) ∧ t = (if ok = true then 0 else 3) ∧ B' = (if ok = true then putB B (nextB B) ⟨a, List.replicate q' 0⟩ else B)
/-- What a call that may change the heap leaves. -/
def HeapPost (u : Value) (c : Hp) (v : Value) (n : Nat) (B' : List (Option Bk)) (w : World) (e : Ending) (w' : World) : Prop :=
  e = .returned u ∧ ∃ v', HeapAt w' c v' n B' ∧ NewRow w v v' ∧ Only (HF c v) w w'
theorem firstF_ex (V : Nat → Int) (n q : Nat) : ∃ a ok, FirstF V n q a ok := by
  have key : ∀ m, m ≤ n + 1 → (∀ b, b < n + 1 - m → b + q ≤ n → ∃ j, j < q ∧ V (b + j) ≠ -1) → ∃ a ok, FirstF V n q a ok := by
    intro m
    induction m with
    | zero => intro _ h; exact ⟨0, false, .inr ⟨rfl, rfl, fun b hb => h b (by omega) hb⟩⟩
    | succ m ih =>
      intro hm h
      by_cases hr : n + 1 - (m + 1) + q ≤ n
      · by_cases hf : ∀ j, j < q → V (n + 1 - (m + 1) + j) = -1
        · exact ⟨_, true, .inl ⟨rfl, hr, hf, fun b hb => h b hb (by omega)⟩⟩
        · refine ih (by omega) fun b hb hbq => ?_
          by_cases hbe : b = n + 1 - (m + 1)
          · subst hbe
            refine Classical.byContradiction fun hc => hf fun j hj => Classical.byContradiction fun hv => hc ⟨j, hj, hv⟩
          · exact h b (by omega) hbq
      · exact ih (by omega) fun b hb hbq => h b (by omega) hbq
  exact key (n + 1) (Nat.le_refl _) fun b hb => by omega
theorem first_place {n : Nat} {B : List (Option Bk)} {q a : Nat} (h : FirstF (wordAt B) n q a true) : a + q ≤ n ∧ (∀ j, j < q → wordAt B (a + j) = -1) ∧ (q = 0 → a = 0) := by
  rcases h with ⟨_, h1, h2, h3⟩ | ⟨h, _⟩
  · refine ⟨h1, h2, fun hq => ?_⟩
    rcases Nat.eq_zero_or_pos a with h0 | h0
    · exact h0
    · obtain ⟨j, hj, _⟩ := h3 0 h0; omega
  · cases h

set_option maxHeartbeats 1000000 in
theorem alloc_neg (q : Int) (hq : q < 0) (h : HeapAt w c v n B) : Calls Try.prog 11 #[.pointer (some ⟨c.h, 0, none⟩), .int .i64 q] w (HeapPost (.tuple #[.int .i64 0, .int .i64 2]) c v n B w) := by
  have HH := Lib.hid h
  clear h
  go_enter Try.func11, Try.ntmps11
  go_wp2
  go_ret2
  exact ⟨rfl, v, HH.out, newRow_refl _ _, Only.refl _ _⟩
set_option maxHeartbeats 1000000 in
theorem alloc_full (q : Nat) (hq : q ≤ 9223372036854775807) (h : HeapAt w c v n B) (hf : FirstF (wordAt B) n q 0 false) : Calls Try.prog 11 #[.pointer (some ⟨c.h, 0, none⟩), .int .i64 q] w (HeapPost (.tuple #[.int .i64 0, .int .i64 3]) c v n B w) := by
  have HH := Lib.hid h
  have HF1 := Lib.hid (first_any q h.m (wordAt_rng h.good) hq)
  have HFF := Lib.hid hf
  clear h hf
  go_enter Try.func11, Try.ntmps11
  go_wp2_with fail
  refine HF1.out.mono ?_
  rintro e w1 ⟨a, ok, rfl, h1, rfl⟩
  obtain ⟨rfl, rfl⟩ := h1.eq HFF.out
  clear h1
  go_wp2
  go_ret2
  exact ⟨rfl, v, HH.out, newRow_refl _ _, Only.refl _ _⟩
set_option maxHeartbeats 2000000 in
theorem alloc_yes (q a : Nat) (hq : q ≤ 9223372036854775807) (h : HeapAt w c v n B) (hf : FirstF (wordAt B) n q a true) (hfew : B.length < 3000000000000) :
    Calls Try.prog 11 #[.pointer (some ⟨c.h, 0, none⟩), .int .i64 q] w (HeapPost (.tuple #[.int .i64 (nextB B), .int .i64 0]) c v n (putB B (nextB B) ⟨a, List.replicate q 0⟩) w) := by
  have HH := Lib.hid h
  have HF1 := Lib.hid (first_any q h.m (wordAt_rng h.good) hq)
  have HFF := Lib.hid hf
  have HPL := Lib.hid (first_place hf)
  have hs := h.m.small
  have haq := (first_place hf).1
  have hch := h.m.lt
  clear h hf
  go_enter Try.func11, Try.ntmps11
  go_wp2_with fail
  refine HF1.out.mono ?_
  rintro e w1 ⟨a', ok, rfl, h1, rfl⟩
  obtain ⟨rfl, rfl⟩ := h1.eq HFF.out
  clear h1 HF1
  have X0 := Lib.hid (box_new w a' q 58)
  have B1 : Hid (Below w.heap.size w (w.alloc (.cells #[.int .i64 (a' : Int), .int .i64 (q : Int)] 58))) := (Below.refl _ _).alloc (Nat.le_refl _) _
  have H1 := Lib.hid (HH.out.fresh B1.out)
  go_wp2_with fail
  generalize w.alloc (.cells #[.int .i64 (a' : Int), .int .i64 (q : Int)] 58) = w1 at X0 B1 H1 ⊢
  refine (of_any a' q H1.out.m haq).mono ?_
  rintro e w2 ⟨p, cp, rfl, hp, hcp, _, b2⟩
  have H2 := Lib.hid (H1.out.fresh b2)
  have X2 := Lib.hid (X0.out.fresh b2)
  have B2 := Lib.hid (B1.out.trans (b2.mono B1.out.size))
  have HPP := Lib.hid hp
  clear b2 hp
  go_wp2_with fail
  refine (fill_any c.x n (wordAt B) a' q cp p 0 w2 H2.out.m.row haq hs HPP.out).mono ?_
  rintro e w3 ⟨rfl, hr3, ho3⟩
  have H3 := Lib.hid (H2.out.m.filled hr3 ho3)
  have hx : ¬ w.heap.size = c.x := by have := HH.out.m.ord; omega
  have hl := World.block_lt_of_cell? _ _ X2.out.c0
  have b0 := (ho3.cell (p := ⟨w.heap.size, 0, none⟩) hl hx).trans X2.out.c0
  have b1 := (ho3.cell (p := ⟨w.heap.size, 1, none⟩) hl hx).trans X2.out.c1
  have O3 := Lib.hid ((Only.of_below (F := HF c v) B2.out).then_ ho3 (fun i _ h => .inl h))
  clear hr3 ho3
  go_wp2_with fail
  refine (enter_any a' q H3.out hfew).mono ?_
  rintro e w4 ⟨v', rfl, h4, n4, o4⟩
  have H4 := Lib.hid h4
  have N4 := Lib.hid n4
  have O4 := Lib.hid o4
  clear h4 n4 o4
  go_wp2_with fail
  go_ret2
  have hP := HPL.out
  refine ⟨rfl, v', ⟨H4.out.congr fun j hj => ?_, HH.out.good.put (next_le B) hP.2.1 hP.1 hP.2.2⟩, N4.out.later O3.out.size, O3.out.then_ O4.out (fun _ _ h => h)⟩
  rw [HH.out.good.put_word (next_le B) (next_none B) hP.2.1 hP.1 hP.2.2]
  rfl
theorem alloc_any (q : Int) (h : HeapAt w c v n B) (hfew : B.length < 3000000000000) (hq : q ≤ 9223372036854775807) :
    ∃ id t B', AllocIs n B q id t B' ∧ Calls Try.prog 11 #[.pointer (some ⟨c.h, 0, none⟩), .int .i64 q] w (HeapPost (.tuple #[.int .i64 id, .int .i64 t]) c v n B' w) := by
  by_cases hn : q < 0
  · exact ⟨0, 2, B, .inl ⟨hn, rfl, rfl, rfl⟩, alloc_neg q hn h⟩
  · obtain ⟨q, rfl⟩ := Int.eq_ofNat_of_zero_le (by omega : 0 ≤ q)
    obtain ⟨a, ok, hf⟩ := firstF_ex (wordAt B) n q
    cases ok with
    | true => exact ⟨_, _, _, .inr ⟨q, a, true, rfl, hf, rfl, rfl, rfl⟩, alloc_yes q a (by omega) h hf hfew⟩
    | false =>
      have : a = 0 := by
        rcases hf with ⟨h, _⟩ | ⟨_, h, _⟩
        · cases h
        · exact h
      subst this
      exact ⟨_, _, _, .inr ⟨q, 0, false, rfl, hf, rfl, rfl, rfl⟩, alloc_full q (by omega) h hf⟩
end
end Go.Proofs.Ytgfjfpfhalblgaa
