/- What the function Write of package heap does. No condition but those that each statement names. -/
import Derived.Test.YtgfjfpfhalblgaaHFr
namespace Go.Proofs.Ytgfjfpfhalblgaa
set_option maxRecDepth 1000000
open Go.ChangeShapes Go.WideShapes Go.ChangeAt Go.RowKit

theorem set_same {α : Type} {l : List α} {i : Nat} {x : α} (h : l[i]? = some x) : l.set i x = l := by
  apply List.ext_getElem?
  intro j
  by_cases hj : j = i
  · subst hj
    rw [List.getElem?_set_self (List.getElem?_eq_some_iff.1 h).1, h]
  · rw [List.getElem?_set_ne (fun e => hj e.symm)]
/-- copy of numbers over words of a row. -/
theorem copy_run {N : Nat → Prop} {w : World} {x n : Nat} {V : Nat → Int} (h : RowV w x n V) (o l cp : Nat) (a : Option Addr) (v : Value) (ws : List Int) (hv : Ints N w v ws) (ha : 0 < ws.length → a = some ⟨x, o, none⟩) (hl : ws.length ≤ l) (ho : o + ws.length ≤ n) (ty : TypeId) :
    (Builtin.copy_ #[29, 29] ty #[.slice a l cp, v]).run Try.prog w = .ok (.int .i64 ws.length) (w.setCells x o (ws.map (Value.int .i64))) := by
  have hs : (Try.prog.info? 3).map (·.size) = some 1 := by
    obtain ⟨i0, hi, hz0, hz1, hz2⟩ := info_parts Try.info3
    simp [hi, hz1]
  obtain ⟨a', cp', rfl, _, h'⟩ := hv
  rw [List.length_map]
  by_cases h0 : ws = []
  · subst h0
    exact run_copy_none w 29 29 ty 3 a a' l cp 0 cp' Try.underlying29 hs (by simp)
  · have hpos := List.length_pos_iff.2 h0
    obtain ⟨b, off, rfl, _, h'⟩ := h'.resolve_left (fun e => h0 (List.map_eq_nil_iff.1 e))
    rw [ha hpos]
    have := run_copy_cells (P := Try.prog) w 29 29 ty 3 x o l cp ⟨b, off, none⟩ ws.length cp' (ws.map (Value.int .i64)) Try.underlying29 hs (by rw [List.length_map]; exact (Nat.min_eq_left hl).symm)
      (fun j u hu => by rw [add_plain]; exact h' j u hu) (fun j hj => by rw [List.length_map] at hj; rw [(h _ (by omega)).1]; rfl) (fun j hj => by rw [List.length_map] at hj; exact (h _ (by omega)).2)
      (fun u hu => by obtain ⟨q, _, rfl⟩ := List.mem_map.1 hu; rfl)
    rw [List.length_map] at this
    exact this
theorem only_setCells {w0 w : World} {x o : Nat} {vs : List Value} {F : Nat → Prop} (h : Only F w0 w) (hp : F x ∨ w0.heap.size ≤ x) : Only F w0 (w.setCells x o vs) := Only.setCells x hp vs o w h

/-- Do these words fit into the block from i on? -/
def fitsW (B : List (Option Bk)) (k i : Int) (m : Nat) : Prop := ∃ b, lookI B k = some b ∧ 0 ≤ i ∧ i + m ≤ b.ws.length
section
variable {w w' : World} {c : Hp} {v : Value} {n nx : Nat} {B : List (Option Bk)} {V V' : Nat → Int}
set_option maxHeartbeats 2000000 in
theorem write_none {N : Nat → Prop} (k i : Int) (u : Value) (ws : List Int) (h : HeapAt w c v n B) (hu : Ints N w u ws) (hl : ws.length ≤ 9223372036854775807) (hf : ¬ fitsW B k i ws.length) :
    Calls Try.prog 13 #[.pointer (some ⟨c.h, 0, none⟩), .int .i64 k, .int .i64 i, u] w (HeapPost (.int .i64 4) c v n B w) := by
  have HC := Lib.hid (find_any k h.m)
  have HH := Lib.hid h
  have hy : i < 0 ∨ spL (lookI B k) < i ∨ spL (lookI B k) - i < ws.length := by
    refine Classical.byContradiction fun hc => hf ?_
    cases hb : lookI B k with
    | none => rw [hb] at hc; simp only [spL] at hc; omega
    | some b => rw [hb] at hc; simp only [spL] at hc; exact ⟨b, hb, by omega, by omega⟩
  have hy2 : -1 ≤ spL (lookI B k) ∧ spL (lookI B k) ≤ 32768 := by
    have hs := h.m.small
    cases hb : lookI B k with
    | none => simp [spL]
    | some b =>
      have hk : look B k.toNat = some b := by
        unfold lookI at hb
        split at hb
        · cases hb
        · exact hb
      have := h.good.fits _ b hk
      simp only [spL]; omega
  obtain ⟨a', cp', rfl, _⟩ := hu
  rw [List.length_map]
  generalize spA (lookI B k) = x at HC
  generalize spL (lookI B k) = y at HC hy hy2
  clear h hf
  by_cases hi : i < 0
  · have hd : decide (i < 0) = true := decide_eq_true hi
    clear hy
    go_enter Try.func13, Try.ntmps13
    go_wp2_with (go_at_call 25; refine HC.out.mono ?_; rintro e w1 ⟨rfl, hb⟩)
    go_ret
    have hb2 : Below w.heap.size w (w1.alloc (.cells #[.int .i64 x, .int .i64 y] 58)) := hb.alloc hb.size _
    exact ⟨rfl, v, HH.out.fresh hb2, newRow_refl _ _, Only.of_below hb2⟩
  · have hd : decide (i < 0) = false := decide_eq_false hi
    by_cases hi2 : y < i
    · clear hy
      go_enter Try.func13, Try.ntmps13
      go_wp2_with (go_at_call 25; refine HC.out.mono ?_; rintro e w1 ⟨rfl, hb⟩)
      go_ret
      have hb2 : Below w.heap.size w (w1.alloc (.cells #[.int .i64 x, .int .i64 y] 58)) := hb.alloc hb.size _
      exact ⟨rfl, v, HH.out.fresh hb2, newRow_refl _ _, Only.of_below hb2⟩
    · have hi3 : decide (y < i) = false := decide_eq_false hi2
      have hy3 : y - i < ws.length := by omega
      clear hy
      go_enter Try.func13, Try.ntmps13
      go_wp2_with (go_at_call 25; refine HC.out.mono ?_; rintro e w1 ⟨rfl, hb⟩)
      go_ret
      have hb2 : Below w.heap.size w (w1.alloc (.cells #[.int .i64 x, .int .i64 y] 58)) := hb.alloc hb.size _
      exact ⟨rfl, v, HH.out.fresh hb2, newRow_refl _ _, Only.of_below hb2⟩

theorem ints_kept {N : Nat → Prop} {w w' : World} {v : Value} {xs : List Int} (h : Ints N w v xs) (b : Below w.heap.size w w') : Ints N w' v xs := Ints.only h (F := fun _ => False) (Only.of_below b) (fun _ _ h => h)
set_option maxHeartbeats 2000000 in
theorem write_bad {N : Nat → Prop} (k i : Nat) (b : Bk) (u : Value) (ws : List Int) (h : HeapAt w c v n B) (hu : Ints N w u ws) (hb : look B k = some b) (hi : i + ws.length ≤ b.ws.length) (hw : ws.any badW = true) :
    Calls Try.prog 13 #[.pointer (some ⟨c.h, 0, none⟩), .int .i64 k, .int .i64 i, u] w (HeapPost (.int .i64 2) c v n B w) := by
  have HC : Hid (Calls Try.prog 25 #[.pointer (some ⟨c.h, 0, none⟩), .int .i64 k] w (Told2 b.a b.ws.length w)) := by
    have := find_any k h.m
    rw [lookI_nat, hb] at this; exact this
  have HH := Lib.hid h
  have HU := Lib.hid hu
  have hf := h.good.fits k b hb
  have hs := h.m.small
  obtain ⟨a', cp', rfl, _⟩ := hu
  rw [List.length_map] at HU ⊢
  obtain ⟨a, ha⟩ : ∃ a, b.a = a := ⟨_, rfl⟩
  obtain ⟨l, hl⟩ : ∃ l, b.ws.length = l := ⟨_, rfl⟩
  rw [ha, hl] at HC hf
  rw [hl] at hi
  have HW := Lib.hid hw
  have hi0 : decide ((i : Int) < 0) = false := decide_eq_false (by omega)
  have hi1 : decide (l < i) = false := decide_eq_false (by omega)
  clear h hb ha hl hw
  go_enter Try.func13, Try.ntmps13
  go_wp2_with fail
  refine HC.out.mono ?_
  rintro e w1 ⟨rfl, b1⟩
  have b2 : Below w.heap.size w (w1.alloc (.cells #[.int .i64 (a : Int), .int .i64 (l : Int)] 58)) := b1.alloc b1.size _
  have B2 := Lib.hid b2
  clear b1 b2
  go_wp2_with fail
  refine (contains_any 28 #[] eg28 badW _ ws _ (ints_kept HU.out B2.out) (by omega) (fun x _ => bad_any x _)).mono ?_
  rintro e w2 ⟨rfl, rfl⟩
  rw [HW.out]
  go_wp2_with fail
  go_ret
  exact ⟨rfl, v, HH.out.fresh B2.out, newRow_refl _ _, Only.of_below B2.out⟩

set_option maxHeartbeats 2000000 in
theorem write_yes {N : Nat → Prop} (k i : Nat) (b : Bk) (u : Value) (ws : List Int) (h : HeapAt w c v n B) (hu : Ints N w u ws) (hb : look B k = some b) (hi : i + ws.length ≤ b.ws.length) (hw : ws.any badW = false) :
    Calls Try.prog 13 #[.pointer (some ⟨c.h, 0, none⟩), .int .i64 k, .int .i64 i, u] w (HeapPost (.int .i64 0) c v n (B.set k (some ⟨b.a, overL b.ws i ws⟩)) w) := by
  have HC : Hid (Calls Try.prog 25 #[.pointer (some ⟨c.h, 0, none⟩), .int .i64 k] w (Told2 b.a b.ws.length w)) := by
    have := find_any k h.m
    rw [lookI_nat, hb] at this; exact this
  have HH := Lib.hid h
  have HU := Lib.hid hu
  have HB := Lib.hid hb
  have hf := h.good.fits k b hb
  have hs := h.m.small
  have w16 : ∀ x ∈ ws, 0 ≤ x ∧ x ≤ 65535 := fun x hx => by
    have := List.any_eq_false.1 hw x hx
    simp [badW] at this; omega
  have W16 := Lib.hid w16
  obtain ⟨a', cp', rfl, _⟩ := hu
  rw [List.length_map] at HU ⊢
  obtain ⟨a, ha⟩ : ∃ a, b.a = a := ⟨_, rfl⟩
  obtain ⟨l, hl⟩ : ∃ l, b.ws.length = l := ⟨_, rfl⟩
  have HAL : Hid (b.a = a ∧ b.ws.length = l) := ⟨ha, hl⟩
  rw [ha, hl] at HC hf
  rw [hl] at hi
  have HW := Lib.hid hw
  have hi0 : decide ((i : Int) < 0) = false := decide_eq_false (by omega)
  have hi1 : decide (l < i) = false := decide_eq_false (by omega)
  clear h hb ha hl hw w16
  go_enter Try.func13, Try.ntmps13
  go_wp2_with fail
  refine HC.out.mono ?_
  rintro e w1 ⟨rfl, b1⟩
  have X2 := Lib.hid (box_new w1 a l 58)
  have b2 : Below w.heap.size w (w1.alloc (.cells #[.int .i64 (a : Int), .int .i64 (l : Int)] 58)) := b1.alloc b1.size _
  have B2 := Lib.hid b2
  clear b1 b2
  go_wp2_with fail
  refine (contains_any 28 #[] eg28 badW _ ws _ (ints_kept HU.out B2.out) (by omega) (fun x _ => bad_any x _)).mono ?_
  rintro e w2 ⟨rfl, rfl⟩
  rw [HW.out]
  have H2 := Lib.hid (HH.out.fresh B2.out)
  go_wp2_with fail
  generalize w1.alloc (.cells #[.int .i64 (a : Int), .int .i64 (l : Int)] 58) = w2 at X2 B2 H2 ⊢
  refine (of_any a l H2.out.m hf).mono ?_
  rintro e w3 ⟨p, cp, rfl, hp, hcp, hpo, b3⟩
  have H3 := Lib.hid (H2.out.fresh b3)
  have HPP := Lib.hid hp
  have B3 := Lib.hid (B2.out.trans (b3.mono B2.out.size))
  clear b3 hp
  have U3 := Lib.hid (ints_kept HU.out B3.out)
  have fin : Hid (HeapAt (w3.setCells c.x (a + i) (ws.map (Value.int .i64))) c v n (B.set k (some ⟨b.a, overL b.ws i ws⟩)) ∧ Only (HF c v) w (w3.setCells c.x (a + i) (ws.map (Value.int .i64)))) := by
    have hm := H3.out.m.filled (V' := over (wordAt B) (a + i) ws) (H3.out.m.row.over (a + i) ws (by omega)) (only_setCells (Only.refl _ _) (.inl rfl))
    have hbb := HB.out
    have hii : i + ws.length ≤ b.ws.length := by rw [HAL.out.2]; exact hi
    refine ⟨⟨?_, HH.out.good.wr hbb hii W16.out⟩, only_setCells (Only.of_below B3.out) (.inl (.inl rfl))⟩
    have hnx : nextB (B.set k (some ⟨b.a, overL b.ws i ws⟩)) = nextB B := by
      have hk := look_lt hbb
      refine next_is (by rw [List.length_set]; exact next_le B) (fun j hj => ?_) (fun hl => ?_)
      · rw [look_set hk]
        split
        · simp
        · exact next_some hj
      · rw [look_set hk]
        split
        · rename_i e
          have := next_none B
          rw [e, hbb] at this; cases this
        · exact next_none B
    rw [hnx]
    have hm2 := hm.congr (V' := wordAt (B.set k (some ⟨b.a, overL b.ws i ws⟩))) fun j hj => by
      rw [HH.out.good.wr_word hbb hii W16.out, HAL.out.1]
      rfl
    obtain ⟨g1, g2, g3, g4, g5, g6, g7, g8, g9, g10⟩ := hm2
    refine ⟨g1, g2, g3, g4, ?_, g6, g7, g8, g9, by rw [List.length_set]; exact g10⟩
    have hk := look_lt hbb
    rw [List.length_set, cellsB_set hk]
    have e1 : ((cellsB B).set (k * 2) (.int .i64 (spA (some ⟨b.a, overL b.ws i ws⟩)))).set (k * 2 + 1) (.int .i64 (spL (some ⟨b.a, overL b.ws i ws⟩))) = cellsB B := by
      obtain ⟨q1, q2⟩ := cellsB_get hk
      rw [hbb] at q1 q2
      have e2 : spL (some ⟨b.a, overL b.ws i ws⟩) = spL (some b) := by simp only [spL, overL_len hii]
      rw [e2]
      have e3 : spA (some ⟨b.a, overL b.ws i ws⟩) = spA (some b) := rfl
      rw [e3, set_same q1, set_same q2]
    rw [e1]; exact g5
  by_cases hcpi : i = cp
  · have h0 : ws.length = 0 := by omega
    have hcr := copy_run H3.out.m.row (a + i) 0 0 p _ ws U3.out (fun h => by omega) (by omega) (by omega)
    have hli : l = i := by omega
    subst hcpi hli
    have HL0 := Lib.hid h0
    clear h0 hi0 hi1
    go_wp2_with fail
    go_ret
    exact ⟨rfl, v, fin.out.1, newRow_refl _ _, fin.out.2⟩
  · have hcr := copy_run H3.out.m.row (a + i) (l - i) (cp - i) (some ⟨c.x, a + i, none⟩) _ ws U3.out (fun h => rfl) (by omega) (by omega)
    have hp : p = some ⟨c.x, a, none⟩ ∨ l = 0 := by
      rcases Nat.eq_zero_or_pos l with h | h
      · exact .inr h
      · exact .inl (HPP.out h)
    have hic : (i : Int) < cp := by omega
    have hil : (i : Int) ≤ l := by omega
    obtain ⟨po, hpo⟩ := hpo
    rcases hp with rfl | rfl
    · clear hi0 hi1 hpo
      go_wp2_with fail
      go_ret
      exact ⟨rfl, v, fin.out.1, newRow_refl _ _, fin.out.2⟩
    · have h0 : ws.length = 0 := by omega
      obtain rfl : i = 0 := by omega
      subst hpo
      have hcr := copy_run H3.out.m.row (a + 0) 0 cp (some ⟨c.x, po, none⟩) _ ws U3.out (fun h => by omega) (by omega) (by omega)
      clear hi0 hi1 h0
      go_wp2_with fail
      go_ret
      exact ⟨rfl, v, fin.out.1, newRow_refl _ _, fin.out.2⟩
end
end Go.Proofs.Ytgfjfpfhalblgaa
