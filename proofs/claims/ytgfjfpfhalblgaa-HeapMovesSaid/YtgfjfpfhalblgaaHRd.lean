/- What the functions Room, Read, Blocks of package heap do. No condition but those that each statement names. -/
import Derived.Test.YtgfjfpfhalblgaaHOp
import Derived.Maps.AppendAt
namespace Go.Proofs.Ytgfjfpfhalblgaa
set_option maxRecDepth 1000000
open Go.ChangeShapes Go.WideShapes Go.ChangeAt Go.RowKit

section
variable {w : World} {c : Hp} {v : Value} {n nx : Nat} {B : List (Option Bk)} {V : Nat → Int}
set_option maxHeartbeats 1000000 in
theorem room_any (h : HeapM w c v n B nx V) : Calls Try.prog 18 #[.pointer (some ⟨c.h, 0, none⟩)] w (RoomPost V n w) := by
  have h0 := h.c0
  have hs := h.small
  have HR := Lib.hid h.row
  clear h
  go_enter Try.func18, Try.ntmps18
  go_wp2
  go_loop [4, 5, 6, 16] (fun s4 s5 s6 s16 => ∃ i m r : Nat, i ≤ n ∧ s16 = .int .i64 i ∧ s4 = .int .i64 (cntF V i) ∧ s5 = .int .i64 m ∧ s6 = .int .i64 r ∧ LongIs V i m ∧ RunIs V i r ∧ cntF V i ≤ i ∧ m ≤ i) (fun _ _ _ i => n - (intOf i).toNat)
  case atStart => exact ⟨0, 0, 0, Nat.zero_le _, rfl, rfl, rfl, rfl, long_zero V, run_zero V, Nat.le_refl _, Nat.le_refl _⟩
  case round =>
    obtain ⟨i, m, r, hi, rfl, rfl, rfl, rfl, hl, hr, hc, hm⟩ := hrel
    have HL := Lib.hid hl
    have HU := Lib.hid hr
    have hri : r ≤ i := hr.1
    clear hl hr
    by_cases hlt : i < n
    · obtain ⟨c1, _⟩ := HR.out i hlt
      have HS : Hid (cntF V (i + 1) = cntF V i + if V i = -1 then 1 else 0) := rfl
      by_cases hv : V i = -1
      · have HV := Lib.hid hv
        rw [hv] at c1
        clear hv
        obtain ⟨q, hq⟩ : ∃ q, cntF V i = q := ⟨_, rfl⟩
        have HQ := Lib.hid hq
        rw [hq] at hc ⊢
        clear hq
        go_wp2
        go_round
        case rel =>
          have e : cntF V (i + 1) = q + 1 := by rw [HS.out, HQ.out, if_pos HV.out]
          refine ⟨i + 1, max m (r + 1), r + 1, by omega, by go_num, by rw [e]; go_num, ?_, by go_num, HL.out.free HU.out HV.out, HU.out.free HV.out, by omega, by omega⟩
          first | go_num | (congr 1; omega) | (simp only [Value.int.injEq, true_and]; omega)
        case measure => simp [intOf]; omega
      · have HV := Lib.hid hv
        have hne : (V i == -1) = false := by simpa using hv
        have hne2 : (V i != -1) = true := by simpa using hv
        have e : cntF V (i + 1) = cntF V i := by rw [HS.out, if_neg hv]; omega
        have HE := Lib.hid e
        clear e hv
        generalize V i = u at c1 hne hne2
        generalize cntF V i = q at *
        go_wp2
        go_round
        case rel => exact ⟨i + 1, m, 0, by omega, by go_num, by rw [HE.out], rfl, rfl, HL.out.taken HV.out, RunIs.taken HV.out, by rw [HE.out]; omega, by omega⟩
        case measure => simp [intOf]; omega
    · obtain rfl : i = n := by omega
      go_wp2
      go_ret2
      exact ⟨m, rfl, HL.out, rfl⟩

theorem read_none (k i : Int) (h : HeapM w c v n B nx V) (hn : i < 0 ∨ spL (lookI B k) ≤ i) : Calls Try.prog 16 #[.pointer (some ⟨c.h, 0, none⟩), .int .i64 k, .int .i64 i] w (Told (.tuple #[.int .i64 0, .int .i64 4]) w) := by
  have HC := Lib.hid (find_any k h)
  clear h
  generalize spA (lookI B k) = x at HC
  generalize spL (lookI B k) = y at HC hn
  by_cases hi : i < 0
  · have hd : decide (i < 0) = true := decide_eq_true hi
    clear hn hi
    go_enter Try.func16, Try.ntmps16
    go_wp2_with (go_at_call 25; refine HC.out.mono ?_; rintro e w1 ⟨rfl, hb⟩)
    go_ret2
    exact ⟨rfl, hb.alloc (by have := hb.size; omega) _⟩
  · have hd : decide (i < 0) = false := decide_eq_false hi
    have hy : y ≤ i := by omega
    clear hn
    go_enter Try.func16, Try.ntmps16
    go_wp2_with (go_at_call 25; refine HC.out.mono ?_; rintro e w1 ⟨rfl, hb⟩)
    go_ret2
    exact ⟨rfl, hb.alloc (by have := hb.size; omega) _⟩
theorem read_nil (k i : Int) (w : World) : Calls Try.prog 16 #[.pointer none, .int .i64 k, .int .i64 i] w (Told (.tuple #[.int .i64 0, .int .i64 1]) w) := by
  go_enter Try.func16, Try.ntmps16
  go_wp2
  go_ret2
  exact ⟨rfl, Below.refl _ _⟩
theorem read_some {k i : Nat} {b : Bk} (h : HeapM w c v n B nx V) (hb : look B k = some b) (hi : i < b.ws.length) (hf : b.a + b.ws.length ≤ n) :
    Calls Try.prog 16 #[.pointer (some ⟨c.h, 0, none⟩), .int .i64 k, .int .i64 i] w (Told (.tuple #[.int .i64 (V (b.a + i)), .int .i64 0]) w) := by
  have hc := find_any k h
  rw [lookI_nat, hb] at hc
  have HC : Hid (Calls Try.prog 25 #[.pointer (some ⟨c.h, 0, none⟩), .int .i64 k] w (Told2 b.a b.ws.length w)) := hc
  have HH := Lib.hid h
  have hs := h.small
  obtain ⟨a, ha⟩ : ∃ a, b.a = a := ⟨_, rfl⟩
  obtain ⟨l, hl⟩ : ∃ l, b.ws.length = l := ⟨_, rfl⟩
  rw [ha, hl] at HC
  rw [hl] at hi hf
  rw [ha] at hf ⊢
  obtain ⟨u, hu⟩ : ∃ u, V (a + i) = u := ⟨_, rfl⟩
  have HU := Lib.hid hu
  rw [hu]
  clear h hc hb ha hl hu
  go_enter Try.func16, Try.ntmps16
  go_wp2_with (go_at_call 25; refine HC.out.mono ?_; rintro e w1 ⟨rfl, hb⟩; have h1 := HH.out.fresh hb; have c0 := h1.c0; obtain ⟨c1, _⟩ := h1.row (a + i) (by omega); rw [HU.out] at c1; have hsz := hb.size; have HB := Lib.hid hb; have hlt := h1.lt; have hxl := h1.ord; have hxs : c.x < w1.heap.size := (by omega); clear h1 hb)
  have e1 : IntKind.i64.wrap ((a : Int) + i) = (a : Int) + i := IntWalk.i64_in _ (by omega)
  have e2 : ((a : Int) + i).toNat = a + i := by omega
  have e3 : (0 : Int) ≤ (a : Int) + i := by omega
  have e4 : (a : Int) + i < n := by omega
  go_quiet (fail)
  clear e1 e2 e3 e4
  go_wp2
  go_ret2
  exact ⟨rfl, below_drewN (HB.out.alloc hsz _) _⟩

/-! Blocks. -/
theorem undrew {b : Nat} {w w' : World} (h : Below b w.drew w') : Below b w w' := ⟨h.os, h.tape, h.output, h.size, h.block⟩
theorem own_fresh {w w' : World} {base n s : Nat} {e : TypeId} {v : Value} {xs : List Value} (h : w.ownsRow base e s v n xs) (b : Below w.heap.size w w') : w'.ownsRow base e s v n xs := own_only2 h (F := fun _ => False) (Only.of_below b) (fun _ _ h => h)
def idsTo (B : List (Option Bk)) (k : Nat) : List Nat := (List.range k).filter fun i => (look B i).isSome
theorem idsTo_all (B : List (Option Bk)) : idsTo B B.length = idsB B := rfl
theorem idsTo_succ (B : List (Option Bk)) (k : Nat) : idsTo B (k + 1) = idsTo B k ++ if (look B k).isSome = true then [k] else [] := by
  simp only [idsTo, List.range_succ, List.filter_append]
  congr 1
  by_cases h : (look B k).isSome = true
  · simp [h]
  · simp [h]
theorem idsTo_len (B : List (Option Bk)) (k : Nat) : (idsTo B k).length ≤ k := by
  have := List.length_filter_le (fun i => (look B i).isSome) (List.range k)
  rw [List.length_range] at this
  exact this
def valsN (l : List Nat) : List Value := l.map fun (k : Nat) => Value.int .i64 (k : Int)
theorem valsN_len (l : List Nat) : (valsN l).length = l.length := List.length_map _
/-- A new row of numbers. -/
def GaveN (l : List Nat) (w : World) (e : Ending) (w' : World) : Prop := ∃ u, e = .returned u ∧ w'.ownsRow w.heap.size 3 1 u l.length (valsN l) ∧ Below w.heap.size w w'
theorem blocks_nil (w : World) : Calls Try.prog 14 #[.pointer none] w (GaveN [] w) := by
  go_enter Try.func14, Try.ntmps14
  go_wp2
  go_ret
  exact ⟨_, rfl, World.ownsRow_nil _ _ _ _, Below.refl _ _⟩
set_option maxHeartbeats 2000000 in
theorem blocks_any (h : HeapM w c v n B nx V) : Calls Try.prog 14 #[.pointer (some ⟨c.h, 0, none⟩)] w (GaveN (idsB B) w) := by
  obtain ⟨i0, hi0, hz0, hz1, hz2⟩ := info_parts Try.info3
  have h1 := h.c1
  have HH := Lib.hid h
  have hfew := h.few
  have hN := Lib.hid (fun w => none_any w)
  have hq := fun o w => neq_span o w
  have hg := fun op x y xs ys w => guard_span op x y xs ys w
  obtain ⟨a, cap, rfl, hcap⟩ := h.form
  clear h
  go_enter Try.func14, Try.ntmps14
  go_wp2
  go_loopw [3, 13] (fun s3 s13 wr => ∃ k : Nat, k ≤ B.length ∧ s13 = .int .i64 k ∧ wr.ownsRow w.heap.size 3 1 s3 (idsTo B k).length (valsN (idsTo B k)) ∧ Below w.heap.size w wr) (fun _ i _ => B.length - (intOf i).toNat)
  case atStart => exact ⟨0, Nat.zero_le _, rfl, World.ownsRow_nil _ _ _ _, Below.refl _ _⟩
  case round =>
    obtain ⟨k, hk, rfl, hown, hb⟩ := hrel
    have HO := Lib.hid hown
    have HB := Lib.hid hb
    by_cases hlt : k < B.length
    · obtain ⟨g, cap', he, _, hg1, hg2, e0, e1, _⟩ := (HH.out.fresh hb).rows hlt
      injection he with q1 q2 q3
      subst q1 q3
      have HS := Lib.hid (idsTo_succ B k)
      have HL := Lib.hid (idsTo_len B k)
      generalize look B k = o at e0 e1 HS
      clear hown hb q2
      have KB : Hid (∀ w', Below (wr.heap.size + 1) (wr.alloc (.cells #[.int .i64 (spA o), .int .i64 (spL o)] 58)) w' → (w'.cell? ⟨wr.heap.size, 0, none⟩ = some (.int .i64 (spA o)) ∧ w'.cell? ⟨wr.heap.size, 1, none⟩ = some (.int .i64 (spL o))) ∧ Below wr.heap.size wr w') := fun w' hb' => by
        have := (box_new wr (spA o) (spL o) 58).fresh (w' := w') (by simpa using hb')
        exact ⟨⟨this.c0, this.c1⟩, ((Below.refl _ _).alloc (Nat.le_refl _) _).trans (hb'.mono (by omega))⟩
      have hsz : w.heap.size ≤ wr.heap.size := HB.out.size
      cases o with
      | none =>
        have HS2 : Hid (idsTo B (k + 1) = idsTo B k) := by show _ = _; rw [HS.out]; simp
        clear HS
        have hq1 := hq none
        simp only [spA, spL, Option.isSome] at *
        go_wp2
        go_region_held3 (fun w' => w'.cell? ⟨wr.heap.size, 0, none⟩ = some (.int .i64 (-1)) ∧ w'.cell? ⟨wr.heap.size, 1, none⟩ = some (.int .i64 (-1))) (first | go_keep | (exact (KB.out _ (undrew (by simpa using hb2))).1)) (first | (go_at_call 26; refine (hN.out _).mono ?_; rintro e w2 ⟨rfl, hb2⟩))
        have B2 := Lib.hid (KB.out w2 (undrew (by simpa using hb2))).2
        clear hb2 e0 e1
        go_wp2
        go_roundw
        case rel => exact ⟨k + 1, by omega, by go_num, by rw [HS2.out]; exact own_fresh HO.out B2.out, HB.out.trans (B2.out.mono hsz)⟩
        case measure => simp [intOf]; omega
      | some b =>
        have HS2 : Hid (idsTo B (k + 1) = idsTo B k ++ [k]) := by show _ = _; rw [HS.out]; simp
        clear HS
        have hq1 := hq (some b)
        obtain ⟨x, hx⟩ : ∃ x, spA (some b) = x := ⟨_, rfl⟩
        obtain ⟨y, hy⟩ : ∃ y, spL (some b) = y := ⟨_, rfl⟩
        rw [hx] at e0 hq1 KB
        rw [hy] at e1 hq1 KB
        simp only [Option.isSome] at hq1
        clear hx hy hq
        go_wp2
        go_region_held3 (fun w' => w'.cell? ⟨wr.heap.size, 0, none⟩ = some (.int .i64 x) ∧ w'.cell? ⟨wr.heap.size, 1, none⟩ = some (.int .i64 y)) (first | go_keep | (exact (KB.out _ (undrew (by simpa using hb2))).1)) (first | (go_at_call 26; refine (hN.out _).mono ?_; rintro e w2 ⟨rfl, hb2⟩))
        have B2 := Lib.hid (KB.out w2 (undrew (by simpa using hb2))).2
        have O2 := Lib.hid (own_fresh HO.out B2.out)
        have hll := HL.out
        clear hb2 e0 e1
        go_wp2_with (at_builtin; refine wpList_append_own _ rfl _ _ 29 rfl w.heap.size 3 i0 (.int .i64 0) 1 8 Try.underlying29 hi0 hz0 hz1 hz2 rfl (by decide) _ _ _ rfl (O2.out.alloc _) ⟨w2.heap.size, 0, none⟩ 1 1 [.int .i64 (k : Int)] rfl rfl ?c1 ?c2 ?c3 ?c4 ?c5 ?_)
        case c1 => intro j u hu; match j, hu with
          | 0, hu => simp at hu; subst hu; rw [add_plain, World.cell?_alloc_at _ _ _ _ rfl]; rfl
          | j + 1, hu => simp at hu
        case c2 => intro u hu; simp at hu; subst hu; rfl
        case c3 => unfold maxLen; omega
        case c4 => omega
        case c5 => simp; have := B2.out.size; omega
        intro v' w3 hown' hgrow _
        have B3 : Hid (Below w.heap.size w w3) := (HB.out.trans (B2.out.mono hsz)).trans (((Below.refl _ _).alloc (by have := B2.out.size; omega) _).grown hgrow (by simp; have := B2.out.size; omega) (fun j hj => (O2.out.lt j hj).1))
        have O3 : Hid (w3.ownsRow w.heap.size 3 1 v' (idsTo B (k + 1)).length (valsN (idsTo B (k + 1)))) := by
          show w3.ownsRow _ _ _ _ _ _
          rw [HS2.out, List.length_append, valsN, List.map_append]; exact hown'
        clear hown' hgrow
        go_wp2
        go_roundw
        case rel => exact ⟨k + 1, by omega, by go_num, O3.out, B3.out⟩
        case measure => simp [intOf]; omega
    · obtain rfl : k = B.length := by omega
      clear hown hb
      go_wp2
      go_ret
      exact ⟨_, rfl, HO.out, HB.out⟩
end
end Go.Proofs.Ytgfjfpfhalblgaa
