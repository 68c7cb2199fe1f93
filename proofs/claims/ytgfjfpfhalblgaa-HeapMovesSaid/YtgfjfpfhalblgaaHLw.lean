/- A heap of a law's own: what was there ahead of the law stays; the law's own function known. -/
import Derived.Test.YtgfjfpfhalblgaaHCo
namespace Go.Proofs.Ytgfjfpfhalblgaa
set_option maxRecDepth 1000000
open Go.ChangeShapes Go.WideShapes Go.ChangeAt Go.RowKit

/-- A heap made behind W0. -/
structure HeapB (W0 w : World) (c : Hp) (v : Value) (n : Nat) (B : List (Option Bk)) : Prop where
  is : HeapAt w c v n B
  fr : ∀ k, HF c v k → W0.heap.size ≤ k
  bl : Below W0.heap.size W0 w
section
variable {W0 w w' : World} {c : Hp} {v u : Value} {n : Nat} {B B' : List (Option Bk)} {e : Ending}
theorem HeapB.fresh (h : HeapB W0 w c v n B) (b : Below w.heap.size w w') : HeapB W0 w' c v n B := ⟨h.is.fresh b, h.fr, h.bl.trans (b.mono h.bl.size)⟩
theorem HeapB.drewN (h : HeapB W0 w c v n B) (q : Nat) : HeapB W0 (w.drewN q) c v n B := h.fresh (below_drewN (Below.refl _ _) q)
theorem HeapB.post (h : HeapB W0 w c v n B) (p : HeapPost u c v n B' w e w') : e = .returned u ∧ ∃ v', HeapB W0 w' c v' n B' ∧ NewRow w v v' ∧ Only (HF c v) w w' := by
  obtain ⟨rfl, v', h', nr, o⟩ := p
  refine ⟨rfl, v', ⟨h', fun k hk => ?_, h.bl.trans (o.below (B := W0.heap.size) (fun i hi hF => by have := h.fr i hF; omega) h.bl.size)⟩, nr, o⟩
  rcases hk with hk | hk | hk
  · exact h.fr k (.inl hk)
  · exact h.fr k (.inr (.inl hk))
  · rcases nr k hk with h1 | h1
    · exact h.fr k (.inr (.inr h1))
    · exact Nat.le_trans h.bl.size h1
theorem HeapB.comp (h : HeapB W0 w c v n B) (p : CompPost c v n B w e w') : ∃ m B' S, e = .returned (.int .i64 (m : Nat)) ∧ CompIs n B B' m S ∧ HeapB W0 w' c v n B' ∧ Only (HF c v) w w' := by
  obtain ⟨m, B', S, rfl, hc, h', o⟩ := p
  exact ⟨m, B', S, rfl, hc, ⟨h', h.fr, h.bl.trans (o.below (B := W0.heap.size) (fun i hi hF => by have := h.fr i hF; omega) h.bl.size)⟩, o⟩
theorem heapB_new {e : Ending} (p : NewPost n w e w') : ∃ c : Hp, e = .returned (.tuple #[.pointer (some ⟨c.h, 0, none⟩), .int .i64 0]) ∧ HeapB w w' c (.slice none 0 0) n [] ∧ w.heap.size ≤ c.x := by
  obtain ⟨c, rfl, hx, h, b⟩ := p
  refine ⟨c, rfl, ⟨h, fun k hk => ?_, b⟩, hx⟩
  have := h.m.ord
  rcases hk with hk | hk | hk
  · omega
  · omega
  · cases hk
end

/-! The example. -/
def z4 : List Int := [0, 0, 0, 0]
def kB1 : List (Option Bk) := [some ⟨0, z4⟩]
def kB2 : List (Option Bk) := [some ⟨0, z4⟩, some ⟨4, z4⟩]
def kB3 : List (Option Bk) := [none, some ⟨4, z4⟩]
def kB4 : List (Option Bk) := [none, some ⟨0, z4⟩]
def kB5 : List (Option Bk) := [some ⟨4, [0, 0, 0, 0, 0]⟩, some ⟨0, z4⟩]
theorem kF1 : FirstF (wordAt []) 10 4 0 true := .inl ⟨rfl, by omega, fun j _ => rfl, fun b hb => by omega⟩
theorem kF2 : FirstF (wordAt kB1) 10 4 4 true := .inl ⟨rfl, by omega, by decide, fun b hb => ⟨0, by omega, (by decide : ∀ b, b < 4 → wordAt kB1 (b + 0) ≠ -1) b hb⟩⟩
theorem kF3 : FirstF (wordAt kB3) 10 5 0 false := .inr ⟨rfl, rfl, fun b hb => ⟨4 - b, by omega, (by decide : ∀ b, b < 6 → wordAt kB3 (b + (4 - b)) ≠ -1) b (by omega)⟩⟩
theorem kF4 : FirstF (wordAt kB4) 10 5 4 true := .inl ⟨rfl, by omega, by decide, fun b hb => ⟨0, by omega, (by decide : ∀ b, b < 4 → wordAt kB4 (b + 0) ≠ -1) b hb⟩⟩
theorem kP1 : putB [] (nextB []) ⟨0, List.replicate 4 0⟩ = kB1 := rfl
theorem kP2 : putB kB1 (nextB kB1) ⟨4, List.replicate 4 0⟩ = kB2 := rfl
theorem kP3 : kB2.set 0 none = kB3 := rfl
theorem kP5 : putB kB4 (nextB kB4) ⟨4, List.replicate 5 0⟩ = kB5 := rfl
theorem kC {B' : List (Option Bk)} {m : Nat} {S : List Nat} (h : CompIs 10 kB3 B' m S) : m = 1 ∧ B' = kB4 := by
  have hmem : ∀ k, k ∈ S ↔ k = 1 := fun k => by
    rw [h.plc.mem]
    match k with
    | 0 => simp [lenB, kB3, look]
    | 1 => simp [lenB, kB3, look, z4]
    | k + 2 => simp [lenB, kB3, look]
  have hS : S = [1] := by
    have hn := h.plc.nodup
    match S, hmem, hn with
    | [], hm, _ => exact absurd ((hm 1).2 rfl) (by simp)
    | [x], hm, _ => rw [(hm x).1 (by simp)]
    | x :: y :: r, hm, hn =>
      have e1 := (hm x).1 (by simp)
      have e2 := (hm y).1 (by simp)
      rw [e1, e2] at hn
      simp at hn
  subst hS
  refine ⟨by rw [h.mv]; rfl, ?_⟩
  have h0 := h.old 0 rfl
  have h1 := h.put 0 ⟨4, z4⟩ (by simp) rfl
  have hl := h.len
  match B', hl, h0, h1 with
  | [x, y], _, h0, h1 =>
    simp [look, kB3] at h0 h1
    rw [h0, h1]
    rfl
set_option maxHeartbeats 2000000 in
theorem known_any (w : World) : Calls Try.prog 9 #[] w fun e w' => e = .returned (.bool true) ∧ Below w.heap.size w w' := by
  have HN : Hid (Calls Try.prog 10 #[.int .i64 10] w (NewPost 10 w)) := Lib.hid (new_yes 10 w (by omega))
  have HA1 : Hid (∀ (c : Hp) (v : Value) (w1 : World), HeapB w w1 c v 10 [] → Calls Try.prog 11 #[.pointer (some ⟨c.h, 0, none⟩), .int .i64 4] w1 (HeapPost (.tuple #[.int .i64 0, .int .i64 0]) c v 10 kB1 w1)) :=
    Lib.hid (fun c v w1 h => alloc_yes 4 0 (by omega) h.is kF1 (by simp))
  have HA2 : Hid (∀ (c : Hp) (v : Value) (w1 : World), HeapB w w1 c v 10 kB1 → Calls Try.prog 11 #[.pointer (some ⟨c.h, 0, none⟩), .int .i64 4] w1 (HeapPost (.tuple #[.int .i64 1, .int .i64 0]) c v 10 kB2 w1)) :=
    Lib.hid (fun c v w1 h => alloc_yes 4 4 (by omega) h.is kF2 (by decide))
  have HF1 : Hid (∀ (c : Hp) (v : Value) (w1 : World), HeapB w w1 c v 10 kB2 → Calls Try.prog 12 #[.pointer (some ⟨c.h, 0, none⟩), .int .i64 0] w1 (HeapPost (.int .i64 0) c v 10 kB3 w1)) :=
    Lib.hid (fun c v w1 h => free_some 0 _ h.is rfl)
  have HA3 : Hid (∀ (c : Hp) (v : Value) (w1 : World), HeapB w w1 c v 10 kB3 → Calls Try.prog 11 #[.pointer (some ⟨c.h, 0, none⟩), .int .i64 5] w1 (HeapPost (.tuple #[.int .i64 0, .int .i64 3]) c v 10 kB3 w1)) :=
    Lib.hid (fun c v w1 h => alloc_full 5 (by omega) h.is kF3)
  have HC1 : Hid (∀ (c : Hp) (v : Value) (w1 : World), HeapB w w1 c v 10 kB3 → Calls Try.prog 19 #[.pointer (some ⟨c.h, 0, none⟩)] w1 (CompPost c v 10 kB3 w1)) :=
    Lib.hid (fun c v w1 h => compact_any h.is)
  have HA4 : Hid (∀ (c : Hp) (v : Value) (w1 : World), HeapB w w1 c v 10 kB4 → Calls Try.prog 11 #[.pointer (some ⟨c.h, 0, none⟩), .int .i64 5] w1 (HeapPost (.tuple #[.int .i64 0, .int .i64 0]) c v 10 kB5 w1)) :=
    Lib.hid (fun c v w1 h => alloc_yes 5 4 (by omega) h.is kF4 (by decide))
  have HT0 : Hid (∀ (c : Hp) (v : Value) (w1 : World), HeapB w w1 c v 10 kB5 → Calls Try.prog 17 #[.pointer (some ⟨c.h, 0, none⟩), .int .i64 0] w1 (Told (.int .i64 4) w1)) :=
    Lib.hid (fun c v w1 h => at_any 0 h.is.m)
  have HT1 : Hid (∀ (c : Hp) (v : Value) (w1 : World), HeapB w w1 c v 10 kB5 → Calls Try.prog 17 #[.pointer (some ⟨c.h, 0, none⟩), .int .i64 1] w1 (Told (.int .i64 0) w1)) :=
    Lib.hid (fun c v w1 h => at_any 1 h.is.m)
  have HFN : Hid (∀ w1, Calls Try.prog 12 #[.pointer none, .int .i64 0] w1 (Told (.int .i64 1) w1)) := Lib.hid (fun w1 => free_nil 0 w1)
  go_enter Try.func9, Try.ntmps9
  go_wp2_with fail
  refine HN.out.mono ?_
  rintro e w1 p
  obtain ⟨c, rfl, h1, _⟩ := heapB_new p
  have H1 := Lib.hid h1
  clear p h1
  go_wp2_with fail
  refine (HA1.out c _ w1 H1.out).mono ?_
  rintro e w2 p
  obtain ⟨rfl, v2, h2, _⟩ := H1.out.post p
  have H2 := Lib.hid h2
  clear p h2
  go_wp2_with fail
  refine (HA2.out c _ w2 H2.out).mono ?_
  rintro e w3 p
  obtain ⟨rfl, v3, h3, _⟩ := H2.out.post p
  have H3 := Lib.hid h3
  clear p h3
  go_wp2_with fail
  refine (HF1.out c _ w3 H3.out).mono ?_
  rintro e w4 p
  obtain ⟨rfl, v4, h4, _⟩ := H3.out.post p
  have H4 := Lib.hid h4
  clear p h4
  go_wp2_with fail
  refine (HA3.out c _ w4 H4.out).mono ?_
  rintro e w5 p
  obtain ⟨rfl, v5, h5, _⟩ := H4.out.post p
  have H5 := Lib.hid h5
  clear p h5
  go_wp2_with fail
  refine (HC1.out c _ w5 H5.out).mono ?_
  rintro e w6 p
  obtain ⟨m, B', S, rfl, hc, h6, _⟩ := H5.out.comp p
  obtain ⟨rfl, rfl⟩ := kC hc
  have H6 := Lib.hid h6
  clear p h6 hc
  go_wp2_with fail
  refine (HA4.out c _ w6 H6.out).mono ?_
  rintro e w7 p
  obtain ⟨rfl, v7, h7, _⟩ := H6.out.post p
  have H7 := Lib.hid h7
  clear p h7
  go_wp2_with fail
  refine (HT0.out c _ w7 H7.out).mono ?_
  rintro e w8 ⟨rfl, b8⟩
  have H8 := Lib.hid (H7.out.fresh b8)
  clear b8
  go_wp2_with fail
  refine (HT1.out c _ w8 H8.out).mono ?_
  rintro e w9 ⟨rfl, b9⟩
  have H9 := Lib.hid (H8.out.fresh b9)
  clear b9
  go_wp2_with fail
  refine (HFN.out w9).mono ?_
  rintro e w10 ⟨rfl, b10⟩
  have H10 := Lib.hid (H9.out.fresh b10)
  clear b10
  go_wp2_with fail
  go_ret
  exact ⟨rfl, H10.out.bl⟩
end Go.Proofs.Ytgfjfpfhalblgaa
