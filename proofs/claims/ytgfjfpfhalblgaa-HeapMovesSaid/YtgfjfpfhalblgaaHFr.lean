/- What the function Free of package heap does. No condition but those that each statement names. -/
import Derived.Test.YtgfjfpfhalblgaaHAl
namespace Go.Proofs.Ytgfjfpfhalblgaa
set_option maxRecDepth 1000000
open Go.ChangeShapes Go.WideShapes Go.ChangeAt Go.RowKit

theorem next_del {B : List (Option Bk)} {k : Nat} (hk : k < B.length) : nextB (B.set k none) = min (nextB B) k := by
  have h0 := next_le B
  refine next_is (by rw [List.length_set]; omega) (fun i hi => ?_) (fun _ => ?_)
  · rw [look_del, if_neg (by omega)]; exact next_some (by omega)
  · rw [look_del]
    split
    · rfl
    · rename_i h
      have : min (nextB B) k = nextB B := by omega
      rw [this]; exact next_none B
section
variable {w w' : World} {c : Hp} {v : Value} {n nx : Nat} {B : List (Option Bk)} {V V' : Nat → Int}
theorem free_nil (k : Int) (w : World) : Calls Try.prog 12 #[.pointer none, .int .i64 k] w (Told (.int .i64 1) w) := by
  go_enter Try.func12, Try.ntmps12
  go_wp2
  go_ret
  exact ⟨rfl, Below.refl _ _⟩
/-- A box of two numbers in later worlds. -/
theorem box_later {w1 : World} {x y : Int} {t : TypeId} : ∀ w', Below (w1.heap.size + 1) (w1.alloc (.cells #[.int .i64 x, .int .i64 y] t)) w' → (w'.cell? ⟨w1.heap.size, 0, none⟩ = some (.int .i64 x) ∧ w'.cell? ⟨w1.heap.size, 1, none⟩ = some (.int .i64 y)) ∧ Below w1.heap.size w1 w' := fun w' hb' => by
  have := (box_new w1 x y t).fresh (w' := w') (by simpa using hb')
  exact ⟨⟨this.c0, this.c1⟩, ((Below.refl _ _).alloc (Nat.le_refl _) _).trans (hb'.mono (by omega))⟩

set_option maxHeartbeats 2000000 in
theorem free_none (k : Int) (h : HeapAt w c v n B) (hk : lookI B k = none) : Calls Try.prog 12 #[.pointer (some ⟨c.h, 0, none⟩), .int .i64 k] w (HeapPost (.int .i64 4) c v n B w) := by
  have HC : Hid (Calls Try.prog 25 #[.pointer (some ⟨c.h, 0, none⟩), .int .i64 k] w (Told2 (-1) (-1) w)) := by
    have := find_any k h.m
    rw [hk] at this; exact this
  have HH := Lib.hid h
  have hN := Lib.hid (fun w => none_any w)
  have hq := eql_span none
  have hgd := fun op x y xs ys w => guard_span op x y xs ys w
  simp only [spA, spL, Option.isNone] at hq
  clear h hk
  go_enter Try.func12, Try.ntmps12
  go_wp2_with fail
  refine HC.out.mono ?_
  rintro e w1 ⟨rfl, b1⟩
  have B1 := Lib.hid b1
  have KB := Lib.hid (box_later (w1 := w1) (x := -1) (y := -1) (t := 58))
  clear b1
  go_wp2_with fail
  go_region_held3 (fun w' => w'.cell? ⟨w1.heap.size, 0, none⟩ = some (.int .i64 (-1)) ∧ w'.cell? ⟨w1.heap.size, 1, none⟩ = some (.int .i64 (-1))) (first | go_keep | (exact (KB.out _ (undrew (by simpa using hb2))).1)) (first | (go_at_call 26; refine (hN.out _).mono ?_; rintro e w2 ⟨rfl, hb2⟩))
  have B2 := Lib.hid (KB.out w2 (undrew (by simpa using hb2))).2
  clear hb2
  go_wp2
  go_ret
  have hb : Below w.heap.size w w2 := B1.out.trans (B2.out.mono B1.out.size)
  exact ⟨rfl, v, HH.out.fresh hb, newRow_refl _ _, Only.of_below hb⟩

set_option maxHeartbeats 4000000 in
theorem free_some (k : Nat) (b : Bk) (h : HeapAt w c v n B) (hk : look B k = some b) : Calls Try.prog 12 #[.pointer (some ⟨c.h, 0, none⟩), .int .i64 k] w (HeapPost (.int .i64 0) c v n (B.set k none) w) := by
  have HC : Hid (Calls Try.prog 25 #[.pointer (some ⟨c.h, 0, none⟩), .int .i64 k] w (Told2 b.a b.ws.length w)) := by
    have := find_any k h.m
    rw [lookI_nat, hk] at this; exact this
  have HH := Lib.hid h
  have hN := Lib.hid (fun w => none_any w)
  have hq := eql_span (some b)
  have hgd := fun op x y xs ys w => guard_span op x y xs ys w
  simp only [spA, spL, Option.isNone] at hq
  have hf := h.good.fits k b hk
  have hs := h.m.small
  have hkl := look_lt hk
  have HK := Lib.hid hk
  have hlt := h.m.lt
  obtain ⟨a, ha⟩ : ∃ a, b.a = a := ⟨_, rfl⟩
  obtain ⟨l, hl⟩ : ∃ l, b.ws.length = l := ⟨_, rfl⟩
  have HAL : Hid (b.a = a ∧ b.ws.length = l) := ⟨ha, hl⟩
  rw [ha, hl] at HC hq hf
  clear h hk ha hl
  go_enter Try.func12, Try.ntmps12
  go_wp2_with fail
  refine HC.out.mono ?_
  rintro e w1 ⟨rfl, b1⟩
  have B1 := Lib.hid b1
  have KB := Lib.hid (box_later (w1 := w1) (x := a) (y := l) (t := 58))
  clear b1 HC
  go_wp2_with fail
  go_region_held3 (fun w' => w'.cell? ⟨w1.heap.size, 0, none⟩ = some (.int .i64 (a : Int)) ∧ w'.cell? ⟨w1.heap.size, 1, none⟩ = some (.int .i64 (l : Int))) (first | go_keep | (exact (KB.out _ (undrew (by simpa using hb2))).1)) (first | (go_at_call 26; refine (hN.out _).mono ?_; rintro e w2 ⟨rfl, hb2⟩))
  obtain ⟨c0, c1⟩ := (KB.out w2 (undrew (by simpa using hb2))).1
  have B2 : Hid (Below w.heap.size w w2) := B1.out.trans ((KB.out w2 (undrew (by simpa using hb2))).2.mono B1.out.size)
  have H2 := Lib.hid (HH.out.fresh B2.out)
  clear hb2 KB hq
  go_wp2_with fail
  refine (of_any a l H2.out.m hf).mono ?_
  rintro e w3 ⟨p, cp, rfl, hp, hcp, _, b3⟩
  have H3 := Lib.hid (H2.out.fresh b3)
  have HPP := Lib.hid hp
  have B3 : Hid (Below w.heap.size w w3) := B2.out.trans (b3.mono B2.out.size)
  clear b3 hp c0 c1
  go_wp2_with fail
  refine (fill_any c.x n (wordAt B) a l cp p (-1) w3 H3.out.m.row hf hs HPP.out).mono ?_
  rintro e w4 ⟨rfl, hr4, ho4⟩
  have H4 := Lib.hid (H3.out.m.filled hr4 ho4)
  have O4 := Lib.hid ((Only.of_below (F := HF c v) B3.out).then_ ho4 (fun i _ h => .inl h))
  clear hr4 ho4
  obtain ⟨g, cap, hv, hcap, hg1, hg2, e0, e1, ef⟩ := H4.out.rows hkl
  subst hv
  have d1 := H4.out.c1
  have hlt4 := H4.out.lt
  have hne : ¬ c.h = g := by omega
  have hkl' : (k : Int) < B.length := by omega
  generalize spA (look B k) = x0 at e0
  generalize spL (look B k) = y0 at e1
  have K4 : Hid (∀ w', Below w4.drew.heap.size w4.drew w' → w'.cell? ⟨c.h, 1, none⟩ = some (.slice (some ⟨g, 0, none⟩) B.length cap) ∧ w'.cell? ⟨g, k * 2, none⟩ = some (.int .i64 x0) ∧ w'.cell? ⟨g, k * 2 + 1, none⟩ = some (.int .i64 y0) ∧ w'.frozen? ⟨g, k * 2, none⟩ = false ∧ w'.frozen? ⟨g, k * 2 + 1, none⟩ = false ∧ Below w4.heap.size w4 w') := fun w' hb' => by
    have hb : Below w4.heap.size w4 w' := undrew hb'
    exact ⟨(hb.cell (p := ⟨c.h, 1, none⟩) hlt4).trans d1, (hb.cell (p := ⟨g, k * 2, none⟩) hg2).trans e0, (hb.cell (p := ⟨g, k * 2 + 1, none⟩) hg2).trans e1, (hb.frozen (p := ⟨g, k * 2, none⟩) hg2).trans (ef _), (hb.frozen (p := ⟨g, k * 2 + 1, none⟩) hg2).trans (ef _), hb⟩
  have KS : Hid (∀ (w' : World) (i j : Nat) (u u' x : Value), w'.cell? ⟨c.h, 1, none⟩ = some x → ((w'.setCell ⟨g, i, none⟩ u).setCell ⟨g, j, none⟩ u').cell? ⟨c.h, 1, none⟩ = some x) := fun w' i j u u' x hx => by
    rw [World.cell?_setCell_other _ _ _ _ (by intro e; injection e with e1; exact hne e1.symm), World.cell?_setCell_other _ _ _ _ (by intro e; injection e with e1; exact hne e1.symm)]
    exact hx
  clear ef
  go_wp2_with fail
  go_region_held3 (fun w' => w'.cell? ⟨c.h, 1, none⟩ = some (.slice (some ⟨g, 0, none⟩) B.length cap)) (first | (exact (K4.out _ hb5).1) | (exact KS.out _ _ _ _ _ _ z1) | go_keep) (first | (go_at_call 26; refine (hN.out _).mono ?_; rintro e w5 ⟨rfl, hb5⟩; obtain ⟨z1, z2, z3, z4, z5, z6⟩ := K4.out w5 hb5))
  have H6 := Lib.hid ((H4.out.fresh z6).row_set (o := none) hkl)
  have O6 : Hid (Only (HF c (.slice (some ⟨g, 0, none⟩) B.length cap)) w ((w5.setCell ⟨g, k * 2, none⟩ (.int .i64 (-1))).setCell ⟨g, k * 2 + 1, none⟩ (.int .i64 (-1)))) :=
    ((O4.out.then_ (Only.of_below (F := HF c (.slice (some ⟨g, 0, none⟩) B.length cap)) z6) (fun _ _ h => h)).setCell ⟨g, k * 2, none⟩ (.inl (.inr (.inr rfl))) _).setCell ⟨g, k * 2 + 1, none⟩ (.inl (.inr (.inr rfl))) _
  have s2 : ((w5.setCell ⟨g, k * 2, none⟩ (.int .i64 (-1))).setCell ⟨g, k * 2 + 1, none⟩ (.int .i64 (-1))).cell? ⟨c.h, 2, none⟩ = some (.int .i64 (nextB B)) := H6.out.c2
  have sf : ((w5.setCell ⟨g, k * 2, none⟩ (.int .i64 (-1))).setCell ⟨g, k * 2 + 1, none⟩ (.int .i64 (-1))).frozen? ⟨c.h, 2, none⟩ = false := H6.out.fz 2
  have H6' : Hid (HeapM ((w5.setCell ⟨g, k * 2, none⟩ (.int .i64 (-1))).setCell ⟨g, k * 2 + 1, none⟩ (.int .i64 (-1))) c (.slice (some ⟨g, 0, none⟩) B.length cap) n (B.set k none) (nextB B) (fillV (wordAt B) a l (-1))) := H6.out
  clear H6 z1 z2 z3 z4 z5 z6 hb5 d1 e0 e1 H2 H3 K4 KS
  generalize ((w5.setCell ⟨g, k * 2, none⟩ (.int .i64 (-1))).setCell ⟨g, k * 2 + 1, none⟩ (.int .i64 (-1))) = w6 at s2 sf O6 H6' ⊢
  obtain ⟨nx, hnx⟩ : ∃ nx, nextB B = nx := ⟨_, rfl⟩
  have HX := Lib.hid hnx
  rw [hnx] at s2 H6'
  clear hnx
  go_wp2_with fail
  go_ret
  have hm := H6'.out.next_set (min nx k)
  have e : ((min nx k : Nat) : Int) = min (nx : Int) (k : Int) := by omega
  rw [e] at hm
  refine ⟨rfl, _, ⟨?_, HH.out.good.del⟩, newRow_refl _ _, O6.out.setCell ⟨c.h, 2, none⟩ (.inl (.inr (.inl rfl))) _⟩
  rw [next_del hkl, HX.out]
  refine HeapM.congr hm fun j hj => ?_
  rw [HH.out.good.del_word HK.out, HAL.out.1, HAL.out.2]
  rfl
end
end Go.Proofs.Ytgfjfpfhalblgaa
