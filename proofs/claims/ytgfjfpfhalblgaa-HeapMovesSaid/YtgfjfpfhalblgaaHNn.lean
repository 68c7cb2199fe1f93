/- HeapNone's walk. -/
import Derived.Test.YtgfjfpfhalblgaaHNe
import Derived.Test.YtgfjfpfhalblgaaHLay
namespace Go.Proofs.Ytgfjfpfhalblgaa
set_option maxRecDepth 1000000
open Go.ChangeShapes Go.WideShapes Go.ChangeAt Go.RowKit

theorem one_ints (w : World) (i : Int) : Ints (fun _ => True) (w.alloc (.cells #[.int .i64 i] 3)) (.slice (some ⟨w.heap.size, 0, none⟩) 1 1) [i] := by
  refine ⟨_, 1, rfl, by simp, .inr ⟨w.heap.size, 0, rfl, trivial, fun j u hu => ?_⟩⟩
  match j, hu with
  | 0, hu => simp at hu; subst hu; rw [World.cell?_alloc_at _ _ _ _ rfl]; rfl
  | j + 1, hu => simp at hu
set_option maxHeartbeats 1000000 in
/-- Two slices that read alike. -/
theorem sameInts_eq {N M : Nat → Prop} (v1 v2 : Value) (l : List Int) (w : World) (h1 : Ints N w v1 l) (h2 : Ints M w v2 l) (hl : l.length ≤ 3000000000000) :
    Calls Try.prog 20 #[v1, v2] w fun e w' => e = .returned (.bool true) ∧ ∃ d, w' = w.drewN d := by
  obtain ⟨a1, c1, rfl, _, h1⟩ := ints_form h1
  obtain ⟨a2, c2, rfl, _, h2⟩ := ints_form h2
  have H1 := Lib.hid h1
  have H2 := Lib.hid h2
  clear h1 h2
  go_enter Try.func20, Try.ntmps20
  go_wp2
  go_loopw [5] (fun s5 wx => ∃ k d : Nat, k ≤ l.length ∧ s5 = .int .i64 k ∧ wx = w.drewN d) (fun i _ => l.length - (intOf i).toNat)
  case atStart => exact ⟨0, 0, Nat.zero_le _, rfl, rfl⟩
  case round =>
    obtain ⟨k, d, hk, rfl, hw⟩ := hrel
    by_cases hlt : k < l.length
    · obtain ⟨b1, o1, rfl, q1⟩ := H1.out k hlt
      obtain ⟨b2, o2, rfl, q2⟩ := H2.out k hlt
      have r1 : wr.cell? ⟨b1, o1 + k, none⟩ = some (.int .i64 (l.getD k 0)) := by rw [hw]; exact q1
      have r2 : wr.cell? ⟨b2, o2 + k, none⟩ = some (.int .i64 (l.getD k 0)) := by rw [hw]; exact q2
      have hlt' : (k : Int) < l.length := by omega
      have HW := Lib.hid hw
      clear hw q1 q2
      generalize l.getD k 0 = z at r1 r2
      go_wp2
      go_quiet (fail)
      go_wp2
      go_roundw
      case rel => exact ⟨k + 1, d + nq, by omega, by go_num, by rw [HW.out, World.drewN_drewN]⟩
      case measure => simp [intOf]; omega
    · have HW := Lib.hid hw
      clear hw
      go_wp2
      go_ret
      exact ⟨rfl, d, HW.out⟩
/-- A row of one's own numbers, as numbers. -/
theorem own_ints {w : World} {base : Nat} {u : Value} {l : List Nat} (h : w.ownsRow base 3 1 u l.length (valsN l)) : Ints (fun _ => True) w u (l.map fun (k : Nat) => (k : Int)) := by
  refine Vals.kind (N := (base ≤ ·)) ?_ (fun _ _ _ => trivial)
  have e : (l.map fun (k : Nat) => (k : Int)).map (Value.int .i64) = valsN l := by rw [List.map_map]; rfl
  rw [e]
  have hl : l.length = (valsN l).length := (valsN_len l).symm
  rw [hl] at h
  exact Vals.of_own h
theorem first_empty {n q : Nat} (h : q ≤ n) : FirstF (wordAt []) n q 0 true := .inl ⟨rfl, by omega, fun j _ => rfl, fun b hb => by omega⟩
def oneB (ws : List Int) : List (Option Bk) := [some ⟨0, ws⟩]
theorem one_put (q : Nat) : putB [] (nextB []) ⟨0, List.replicate q 0⟩ = oneB (List.replicate q 0) := rfl
theorem one_look (ws : List Int) : look (oneB ws) 0 = some ⟨0, ws⟩ := rfl
theorem one_none (ws : List Int) {k : Int} (h : k ≠ 0) : lookI (oneB ws) k = none := by
  unfold lookI
  split
  · rfl
  · rw [look_out]; simp [oneB]; omega
theorem one_ids (ws : List Int) : idsB (oneB ws) = [0] := by simp [idsB, oneB, look, List.range, List.range.loop]
set_option maxHeartbeats 4000000 in
theorem heapNone_walk (W : World) (n : Int) (hn : (Lit.int .u8 n).wf = true) (k : Int) (_hk : (Lit.int .i64 k).wf = true) (x : Int) (_hx : (Lit.int .i64 x).wf = true) : Calls Try.prog 7 #[.int .u8 n, .int .i64 k, .int .i64 x] W fun e W' => e = .returned (.bool true) ∧ Below W.heap.size W W' := by
  obtain ⟨n0, n1⟩ := wf_u8 hn
  obtain ⟨n, rfl⟩ := Int.eq_ofNat_of_zero_le n0
  clear hn n0 _hk _hx
  have HK := Lib.hid (fun w => known_any w)
  have HN : Hid (Calls Try.prog 10 #[.int .i64 300] W (NewPost 300 W)) := Lib.hid (new_yes 300 W (by omega))
  have HA : Hid (∀ (c : Hp) (v : Value) (w1 : World), HeapB W w1 c v 300 [] → Calls Try.prog 11 #[.pointer (some ⟨c.h, 0, none⟩), .int .i64 (1 + (n : Int))] w1 (HeapPost (.tuple #[.int .i64 0, .int .i64 0]) c v 300 (oneB (List.replicate (1 + n) 0)) w1)) :=
    Lib.hid (fun c v w1 h => by
      have := alloc_yes (1 + n) 0 (by omega) h.is (first_empty (by omega)) (by simp)
      rw [show ((1 + n : Nat) : Int) = 1 + (n : Int) by omega] at this
      exact this)
  have hz : (List.replicate (1 + n) (0 : Int)).getD 0 0 = 0 := getD_zeros _ _
  have hzl : (List.replicate (1 + n) (0 : Int)).length = 1 + n := List.length_replicate
  by_cases h1 : x < 0
  · have hr1 : decide ((0 : Int) ≤ x) = false := decide_eq_false (by omega)
    obtain ⟨ws, hws⟩ : ∃ ws, List.replicate (1 + n) (0 : Int) = ws := ⟨_, rfl⟩
    have hwl : ws.length = 1 + n := by rw [← hws, hzl]
    have hw0 : ws.getD 0 0 = 0 := by rw [← hws, hz]
    have hbad : [x].any badW = true := by simp [badW]; omega
    have HW : Hid (∀ (c : Hp) (v : Value) (w1 : World), HeapB W w1 c v 300 (oneB (List.replicate (1 + n) 0)) → Calls Try.prog 13 #[.pointer (some ⟨c.h, 0, none⟩), .int .i64 0, .int .i64 0, .slice (some ⟨w1.heap.size, 0, none⟩) 1 1] (w1.alloc (.cells #[.int .i64 x] 3)) (HeapPost (.int .i64 2) c v 300 (oneB ws) (w1.alloc (.cells #[.int .i64 x] 3)))) :=
      Lib.hid (fun c v w1 h => by
        have := write_bad 0 0 _ _ [x] (h.fresh ((Below.refl _ _).alloc (Nat.le_refl _) _)).is (one_ints w1 x) (one_look _) (by simp) hbad
        rw [hws] at this
        exact this)
    have HR : Hid (∀ (c : Hp) (v : Value) (w1 : World), HeapB W w1 c v 300 (oneB ws) → Calls Try.prog 16 #[.pointer (some ⟨c.h, 0, none⟩), .int .i64 0, .int .i64 0] w1 (Told (.tuple #[.int .i64 0, .int .i64 0]) w1)) :=
      Lib.hid (fun c v w1 h => by
        have h1 := read_some (k := 0) (i := 0) h.is.m (one_look ws) (by simp only; omega) (by simp only; omega)
        have h2 := h.is.good.in_ (one_look ws) (j := 0) (by simp only; omega)
        simp only at h2
        rw [h2, hw0] at h1
        exact h1)
    have HS0 : Hid (∀ (c : Hp) (v : Value) (w1 : World), HeapB W w1 c v 300 (oneB ws) → Calls Try.prog 15 #[.pointer (some ⟨c.h, 0, none⟩), .int .i64 0] w1 (Told (.int .i64 (1 + (n : Int))) w1)) :=
      Lib.hid (fun c v w1 h => by
        have := size_any 0 h.is.m
        have e : spL (lookI (oneB ws) 0) = 1 + (n : Int) := by
          show ((ws.length : Nat) : Int) = _
          rw [hwl]; omega
        rw [e] at this
        exact this)
    have HRk : Hid (∀ (c : Hp) (v : Value) (w1 : World), k ≠ 0 → HeapB W w1 c v 300 (oneB ws) → Calls Try.prog 16 #[.pointer (some ⟨c.h, 0, none⟩), .int .i64 k, .int .i64 0] w1 (Told (.tuple #[.int .i64 0, .int .i64 4]) w1)) :=
      Lib.hid (fun c v w1 hk h => read_none k 0 h.is.m (.inr (by rw [one_none ws hk]; simp [spL])))
    have HWk : Hid (∀ (c : Hp) (v : Value) (w1 : World), k ≠ 0 → HeapB W w1 c v 300 (oneB ws) → Calls Try.prog 13 #[.pointer (some ⟨c.h, 0, none⟩), .int .i64 k, .int .i64 0, .slice (some ⟨w1.heap.size, 0, none⟩) 1 1] (w1.alloc (.cells #[.int .i64 1] 3)) (HeapPost (.int .i64 4) c v 300 (oneB ws) (w1.alloc (.cells #[.int .i64 1] 3)))) :=
      Lib.hid (fun c v w1 hk h => write_none k 0 _ [1] (h.fresh ((Below.refl _ _).alloc (Nat.le_refl _) _)).is (one_ints w1 1) (by simp) (by rintro ⟨b, hb, _⟩; rw [one_none ws hk] at hb; cases hb))
    have HFk : Hid (∀ (c : Hp) (v : Value) (w1 : World), k ≠ 0 → HeapB W w1 c v 300 (oneB ws) → Calls Try.prog 12 #[.pointer (some ⟨c.h, 0, none⟩), .int .i64 k] w1 (HeapPost (.int .i64 4) c v 300 (oneB ws) w1)) :=
      Lib.hid (fun c v w1 hk h => free_none k h.is (one_none ws hk))
    have HSk : Hid (∀ (c : Hp) (v : Value) (w1 : World), k ≠ 0 → HeapB W w1 c v 300 (oneB ws) → Calls Try.prog 15 #[.pointer (some ⟨c.h, 0, none⟩), .int .i64 k] w1 (Told (.int .i64 (-1)) w1)) :=
      Lib.hid (fun c v w1 hk h => by
        have := size_any k h.is.m
        rw [one_none ws hk] at this
        exact this)
    clear hws hwl hw0 hbad hz hzl
    clear h1
    go_enter Try.func7, Try.ntmps7
    go_wp2_with fail
    refine HN.out.mono ?_
    rintro e w1 p
    obtain ⟨c, rfl, h1, _⟩ := heapB_new p
    have H1 := Lib.hid h1
    clear p h1
    go_wp2_with fail
    refine (HA.out c _ w1 H1.out).mono ?_
    rintro e w2 p
    obtain ⟨rfl, v2, h2, _⟩ := H1.out.post p
    have H2 := Lib.hid h2
    clear p h2
    go_wp2_with fail
    refine (HW.out c _ w2 H2.out).mono ?_
    rintro e w3 p
    obtain ⟨rfl, v3, h3, _⟩ := (H2.out.fresh ((Below.refl _ _).alloc (Nat.le_refl _) _)).post p
    have H3 := Lib.hid h3
    clear p h3
    go_wp2_with fail
    refine (HR.out c _ w3 H3.out).mono ?_
    rintro e w4 ⟨rfl, b4⟩
    have H4 := Lib.hid (H3.out.fresh b4)
    clear b4
    by_cases hk0 : k = 0
    · have hkd : (k == 0) = true := by simp [hk0]
      clear hk0
      go_wp2_with fail
      refine (HS0.out c _ w4 H4.out).mono ?_
      rintro e w5 ⟨rfl, b5⟩
      have H5 := Lib.hid (H4.out.fresh b5)
      clear b5
      go_wp2_with fail
      refine (HK.out w5).mono ?_
      rintro e w6 ⟨rfl, b6⟩
      have B6 := Lib.hid (H5.out.bl.trans (b6.mono H5.out.bl.size))
      clear b6
      go_wp2_with fail
      go_ret
      exact ⟨rfl, B6.out⟩
    · have hkd : (k == 0) = false := beq_false_of_ne hk0
      have HKN := Lib.hid hk0
      clear hk0
      go_wp2_with fail
      refine (HRk.out c _ w4 HKN.out H4.out).mono ?_
      rintro e w5 ⟨rfl, b5⟩
      have H5 := Lib.hid (H4.out.fresh b5)
      clear b5
      go_wp2_with fail
      refine (HWk.out c _ w5 HKN.out H5.out).mono ?_
      rintro e w6 p
      obtain ⟨rfl, v6, h6, _⟩ := (H5.out.fresh ((Below.refl _ _).alloc (Nat.le_refl _) _)).post p
      have H6 := Lib.hid h6
      clear p h6
      go_wp2_with fail
      refine (HFk.out c _ w6 HKN.out H6.out).mono ?_
      rintro e w7 p
      obtain ⟨rfl, v7, h7, _⟩ := H6.out.post p
      have H7 := Lib.hid h7
      clear p h7
      go_wp2_with fail
      refine (HSk.out c _ w7 HKN.out H7.out).mono ?_
      rintro e w8 ⟨rfl, b8⟩
      have H8 := Lib.hid (H7.out.fresh b8)
      clear b8
      go_wp2_with fail
      refine (blocks_any H8.out.is.m).mono ?_
      rintro e w9 ⟨u, rfl, own9, b9⟩
      have H9 := Lib.hid (H8.out.fresh b9)
      have HI : Hid (Ints (fun _ => True) (w9.alloc (.cells #[.int .i64 0] 3)) u [0]) := Lib.hid (by
        have := own_ints own9
        rw [one_ids] at this
        exact ints_kept this ((Below.refl _ _).alloc (Nat.le_refl _) _))
      have H10 := Lib.hid (H9.out.fresh ((Below.refl _ _).alloc (Nat.le_refl _) (.cells #[.int .i64 0] 3)))
      clear own9 b9
      go_wp2_with fail
      refine (sameInts_eq u _ [0] _ HI.out (one_ints w9 0) (by simp)).mono ?_
      rintro e w10 ⟨rfl, d, rfl⟩
      have H11 := Lib.hid (H10.out.drewN d)
      go_wp2_with fail
      refine (HK.out _).mono ?_
      rintro e w11 ⟨rfl, b11⟩
      have B11 := Lib.hid (H11.out.bl.trans (b11.mono H11.out.bl.size))
      clear b11
      go_wp2_with fail
      go_ret
      exact ⟨rfl, B11.out⟩
  · by_cases h2 : 65535 < x
    · have hr1 : decide ((0 : Int) ≤ x) = true := decide_eq_true (by omega)
      have hr2 : decide (x ≤ 65535) = false := decide_eq_false (by omega)
      obtain ⟨ws, hws⟩ : ∃ ws, List.replicate (1 + n) (0 : Int) = ws := ⟨_, rfl⟩
      have hwl : ws.length = 1 + n := by rw [← hws, hzl]
      have hw0 : ws.getD 0 0 = 0 := by rw [← hws, hz]
      have hbad : [x].any badW = true := by simp [badW]; omega
      have HW : Hid (∀ (c : Hp) (v : Value) (w1 : World), HeapB W w1 c v 300 (oneB (List.replicate (1 + n) 0)) → Calls Try.prog 13 #[.pointer (some ⟨c.h, 0, none⟩), .int .i64 0, .int .i64 0, .slice (some ⟨w1.heap.size, 0, none⟩) 1 1] (w1.alloc (.cells #[.int .i64 x] 3)) (HeapPost (.int .i64 2) c v 300 (oneB ws) (w1.alloc (.cells #[.int .i64 x] 3)))) :=
        Lib.hid (fun c v w1 h => by
          have := write_bad 0 0 _ _ [x] (h.fresh ((Below.refl _ _).alloc (Nat.le_refl _) _)).is (one_ints w1 x) (one_look _) (by simp) hbad
          rw [hws] at this
          exact this)
      have HR : Hid (∀ (c : Hp) (v : Value) (w1 : World), HeapB W w1 c v 300 (oneB ws) → Calls Try.prog 16 #[.pointer (some ⟨c.h, 0, none⟩), .int .i64 0, .int .i64 0] w1 (Told (.tuple #[.int .i64 0, .int .i64 0]) w1)) :=
        Lib.hid (fun c v w1 h => by
          have h1 := read_some (k := 0) (i := 0) h.is.m (one_look ws) (by simp only; omega) (by simp only; omega)
          have h2 := h.is.good.in_ (one_look ws) (j := 0) (by simp only; omega)
          simp only at h2
          rw [h2, hw0] at h1
          exact h1)
      have HS0 : Hid (∀ (c : Hp) (v : Value) (w1 : World), HeapB W w1 c v 300 (oneB ws) → Calls Try.prog 15 #[.pointer (some ⟨c.h, 0, none⟩), .int .i64 0] w1 (Told (.int .i64 (1 + (n : Int))) w1)) :=
        Lib.hid (fun c v w1 h => by
          have := size_any 0 h.is.m
          have e : spL (lookI (oneB ws) 0) = 1 + (n : Int) := by
            show ((ws.length : Nat) : Int) = _
            rw [hwl]; omega
          rw [e] at this
          exact this)
      have HRk : Hid (∀ (c : Hp) (v : Value) (w1 : World), k ≠ 0 → HeapB W w1 c v 300 (oneB ws) → Calls Try.prog 16 #[.pointer (some ⟨c.h, 0, none⟩), .int .i64 k, .int .i64 0] w1 (Told (.tuple #[.int .i64 0, .int .i64 4]) w1)) :=
        Lib.hid (fun c v w1 hk h => read_none k 0 h.is.m (.inr (by rw [one_none ws hk]; simp [spL])))
      have HWk : Hid (∀ (c : Hp) (v : Value) (w1 : World), k ≠ 0 → HeapB W w1 c v 300 (oneB ws) → Calls Try.prog 13 #[.pointer (some ⟨c.h, 0, none⟩), .int .i64 k, .int .i64 0, .slice (some ⟨w1.heap.size, 0, none⟩) 1 1] (w1.alloc (.cells #[.int .i64 1] 3)) (HeapPost (.int .i64 4) c v 300 (oneB ws) (w1.alloc (.cells #[.int .i64 1] 3)))) :=
        Lib.hid (fun c v w1 hk h => write_none k 0 _ [1] (h.fresh ((Below.refl _ _).alloc (Nat.le_refl _) _)).is (one_ints w1 1) (by simp) (by rintro ⟨b, hb, _⟩; rw [one_none ws hk] at hb; cases hb))
      have HFk : Hid (∀ (c : Hp) (v : Value) (w1 : World), k ≠ 0 → HeapB W w1 c v 300 (oneB ws) → Calls Try.prog 12 #[.pointer (some ⟨c.h, 0, none⟩), .int .i64 k] w1 (HeapPost (.int .i64 4) c v 300 (oneB ws) w1)) :=
        Lib.hid (fun c v w1 hk h => free_none k h.is (one_none ws hk))
      have HSk : Hid (∀ (c : Hp) (v : Value) (w1 : World), k ≠ 0 → HeapB W w1 c v 300 (oneB ws) → Calls Try.prog 15 #[.pointer (some ⟨c.h, 0, none⟩), .int .i64 k] w1 (Told (.int .i64 (-1)) w1)) :=
        Lib.hid (fun c v w1 hk h => by
          have := size_any k h.is.m
          rw [one_none ws hk] at this
          exact this)
      clear hws hwl hw0 hbad hz hzl
      clear h1 h2
      go_enter Try.func7, Try.ntmps7
      go_wp2_with fail
      refine HN.out.mono ?_
      rintro e w1 p
      obtain ⟨c, rfl, h1, _⟩ := heapB_new p
      have H1 := Lib.hid h1
      clear p h1
      go_wp2_with fail
      refine (HA.out c _ w1 H1.out).mono ?_
      rintro e w2 p
      obtain ⟨rfl, v2, h2, _⟩ := H1.out.post p
      have H2 := Lib.hid h2
      clear p h2
      go_wp2_with fail
      refine (HW.out c _ w2 H2.out).mono ?_
      rintro e w3 p
      obtain ⟨rfl, v3, h3, _⟩ := (H2.out.fresh ((Below.refl _ _).alloc (Nat.le_refl _) _)).post p
      have H3 := Lib.hid h3
      clear p h3
      go_wp2_with fail
      refine (HR.out c _ w3 H3.out).mono ?_
      rintro e w4 ⟨rfl, b4⟩
      have H4 := Lib.hid (H3.out.fresh b4)
      clear b4
      by_cases hk0 : k = 0
      · have hkd : (k == 0) = true := by simp [hk0]
        clear hk0
        go_wp2_with fail
        refine (HS0.out c _ w4 H4.out).mono ?_
        rintro e w5 ⟨rfl, b5⟩
        have H5 := Lib.hid (H4.out.fresh b5)
        clear b5
        go_wp2_with fail
        refine (HK.out w5).mono ?_
        rintro e w6 ⟨rfl, b6⟩
        have B6 := Lib.hid (H5.out.bl.trans (b6.mono H5.out.bl.size))
        clear b6
        go_wp2_with fail
        go_ret
        exact ⟨rfl, B6.out⟩
      · have hkd : (k == 0) = false := beq_false_of_ne hk0
        have HKN := Lib.hid hk0
        clear hk0
        go_wp2_with fail
        refine (HRk.out c _ w4 HKN.out H4.out).mono ?_
        rintro e w5 ⟨rfl, b5⟩
        have H5 := Lib.hid (H4.out.fresh b5)
        clear b5
        go_wp2_with fail
        refine (HWk.out c _ w5 HKN.out H5.out).mono ?_
        rintro e w6 p
        obtain ⟨rfl, v6, h6, _⟩ := (H5.out.fresh ((Below.refl _ _).alloc (Nat.le_refl _) _)).post p
        have H6 := Lib.hid h6
        clear p h6
        go_wp2_with fail
        refine (HFk.out c _ w6 HKN.out H6.out).mono ?_
        rintro e w7 p
        obtain ⟨rfl, v7, h7, _⟩ := H6.out.post p
        have H7 := Lib.hid h7
        clear p h7
        go_wp2_with fail
        refine (HSk.out c _ w7 HKN.out H7.out).mono ?_
        rintro e w8 ⟨rfl, b8⟩
        have H8 := Lib.hid (H7.out.fresh b8)
        clear b8
        go_wp2_with fail
        refine (blocks_any H8.out.is.m).mono ?_
        rintro e w9 ⟨u, rfl, own9, b9⟩
        have H9 := Lib.hid (H8.out.fresh b9)
        have HI : Hid (Ints (fun _ => True) (w9.alloc (.cells #[.int .i64 0] 3)) u [0]) := Lib.hid (by
          have := own_ints own9
          rw [one_ids] at this
          exact ints_kept this ((Below.refl _ _).alloc (Nat.le_refl _) _))
        have H10 := Lib.hid (H9.out.fresh ((Below.refl _ _).alloc (Nat.le_refl _) (.cells #[.int .i64 0] 3)))
        clear own9 b9
        go_wp2_with fail
        refine (sameInts_eq u _ [0] _ HI.out (one_ints w9 0) (by simp)).mono ?_
        rintro e w10 ⟨rfl, d, rfl⟩
        have H11 := Lib.hid (H10.out.drewN d)
        go_wp2_with fail
        refine (HK.out _).mono ?_
        rintro e w11 ⟨rfl, b11⟩
        have B11 := Lib.hid (H11.out.bl.trans (b11.mono H11.out.bl.size))
        clear b11
        go_wp2_with fail
        go_ret
        exact ⟨rfl, B11.out⟩
    · have hr1 : decide ((0 : Int) ≤ x) = true := decide_eq_true (by omega)
      have hr2 : decide (x ≤ 65535) = true := decide_eq_true (by omega)
      obtain ⟨ws, hws⟩ : ∃ ws, overL (List.replicate (1 + n) (0 : Int)) 0 [x] = ws := ⟨_, rfl⟩
      have hwl : ws.length = 1 + n := by rw [← hws, overL_len (by simp), hzl]
      have hw0 : ws.getD 0 0 = x := by rw [← hws, overL_getD (by simp)]; simp
      have hbad : [x].any badW = false := by simp [badW]; omega
      have HW : Hid (∀ (c : Hp) (v : Value) (w1 : World), HeapB W w1 c v 300 (oneB (List.replicate (1 + n) 0)) → Calls Try.prog 13 #[.pointer (some ⟨c.h, 0, none⟩), .int .i64 0, .int .i64 0, .slice (some ⟨w1.heap.size, 0, none⟩) 1 1] (w1.alloc (.cells #[.int .i64 x] 3)) (HeapPost (.int .i64 0) c v 300 (oneB ws) (w1.alloc (.cells #[.int .i64 x] 3)))) :=
        Lib.hid (fun c v w1 h => by
          have := write_yes 0 0 _ _ [x] (h.fresh ((Below.refl _ _).alloc (Nat.le_refl _) _)).is (one_ints w1 x) (one_look _) (by simp) hbad
          rw [hws] at this
          exact this)
      have hxx : (x != x) = false := by simp
      have HR : Hid (∀ (c : Hp) (v : Value) (w1 : World), HeapB W w1 c v 300 (oneB ws) → Calls Try.prog 16 #[.pointer (some ⟨c.h, 0, none⟩), .int .i64 0, .int .i64 0] w1 (Told (.tuple #[.int .i64 x, .int .i64 0]) w1)) :=
        Lib.hid (fun c v w1 h => by
          have h1 := read_some (k := 0) (i := 0) h.is.m (one_look ws) (by simp only; omega) (by simp only; omega)
          have h2 := h.is.good.in_ (one_look ws) (j := 0) (by simp only; omega)
          simp only at h2
          rw [h2, hw0] at h1
          exact h1)
      have HS0 : Hid (∀ (c : Hp) (v : Value) (w1 : World), HeapB W w1 c v 300 (oneB ws) → Calls Try.prog 15 #[.pointer (some ⟨c.h, 0, none⟩), .int .i64 0] w1 (Told (.int .i64 (1 + (n : Int))) w1)) :=
        Lib.hid (fun c v w1 h => by
          have := size_any 0 h.is.m
          have e : spL (lookI (oneB ws) 0) = 1 + (n : Int) := by
            show ((ws.length : Nat) : Int) = _
            rw [hwl]; omega
          rw [e] at this
          exact this)
      have HRk : Hid (∀ (c : Hp) (v : Value) (w1 : World), k ≠ 0 → HeapB W w1 c v 300 (oneB ws) → Calls Try.prog 16 #[.pointer (some ⟨c.h, 0, none⟩), .int .i64 k, .int .i64 0] w1 (Told (.tuple #[.int .i64 0, .int .i64 4]) w1)) :=
        Lib.hid (fun c v w1 hk h => read_none k 0 h.is.m (.inr (by rw [one_none ws hk]; simp [spL])))
      have HWk : Hid (∀ (c : Hp) (v : Value) (w1 : World), k ≠ 0 → HeapB W w1 c v 300 (oneB ws) → Calls Try.prog 13 #[.pointer (some ⟨c.h, 0, none⟩), .int .i64 k, .int .i64 0, .slice (some ⟨w1.heap.size, 0, none⟩) 1 1] (w1.alloc (.cells #[.int .i64 1] 3)) (HeapPost (.int .i64 4) c v 300 (oneB ws) (w1.alloc (.cells #[.int .i64 1] 3)))) :=
        Lib.hid (fun c v w1 hk h => write_none k 0 _ [1] (h.fresh ((Below.refl _ _).alloc (Nat.le_refl _) _)).is (one_ints w1 1) (by simp) (by rintro ⟨b, hb, _⟩; rw [one_none ws hk] at hb; cases hb))
      have HFk : Hid (∀ (c : Hp) (v : Value) (w1 : World), k ≠ 0 → HeapB W w1 c v 300 (oneB ws) → Calls Try.prog 12 #[.pointer (some ⟨c.h, 0, none⟩), .int .i64 k] w1 (HeapPost (.int .i64 4) c v 300 (oneB ws) w1)) :=
        Lib.hid (fun c v w1 hk h => free_none k h.is (one_none ws hk))
      have HSk : Hid (∀ (c : Hp) (v : Value) (w1 : World), k ≠ 0 → HeapB W w1 c v 300 (oneB ws) → Calls Try.prog 15 #[.pointer (some ⟨c.h, 0, none⟩), .int .i64 k] w1 (Told (.int .i64 (-1)) w1)) :=
        Lib.hid (fun c v w1 hk h => by
          have := size_any k h.is.m
          rw [one_none ws hk] at this
          exact this)
      clear hws hwl hw0 hbad hz hzl
      clear h1 h2
      go_enter Try.func7, Try.ntmps7
      go_wp2_with fail
      refine HN.out.mono ?_
      rintro e w1 p
      obtain ⟨c, rfl, h1, _⟩ := heapB_new p
      have H1 := Lib.hid h1
      clear p h1
      go_wp2_with fail
      refine (HA.out c _ w1 H1.out).mono ?_
      rintro e w2 p
      obtain ⟨rfl, v2, h2, _⟩ := H1.out.post p
      have H2 := Lib.hid h2
      clear p h2
      go_wp2_with fail
      refine (HW.out c _ w2 H2.out).mono ?_
      rintro e w3 p
      obtain ⟨rfl, v3, h3, _⟩ := (H2.out.fresh ((Below.refl _ _).alloc (Nat.le_refl _) _)).post p
      have H3 := Lib.hid h3
      clear p h3
      go_wp2_with fail
      refine (HR.out c _ w3 H3.out).mono ?_
      rintro e w4 ⟨rfl, b4⟩
      have H4 := Lib.hid (H3.out.fresh b4)
      clear b4
      by_cases hk0 : k = 0
      · have hkd : (k == 0) = true := by simp [hk0]
        clear hk0
        go_wp2_with fail
        refine (HS0.out c _ w4 H4.out).mono ?_
        rintro e w5 ⟨rfl, b5⟩
        have H5 := Lib.hid (H4.out.fresh b5)
        clear b5
        go_wp2_with fail
        refine (HK.out w5).mono ?_
        rintro e w6 ⟨rfl, b6⟩
        have B6 := Lib.hid (H5.out.bl.trans (b6.mono H5.out.bl.size))
        clear b6
        go_wp2_with fail
        go_ret
        exact ⟨rfl, B6.out⟩
      · have hkd : (k == 0) = false := beq_false_of_ne hk0
        have HKN := Lib.hid hk0
        clear hk0
        go_wp2_with fail
        refine (HRk.out c _ w4 HKN.out H4.out).mono ?_
        rintro e w5 ⟨rfl, b5⟩
        have H5 := Lib.hid (H4.out.fresh b5)
        clear b5
        go_wp2_with fail
        refine (HWk.out c _ w5 HKN.out H5.out).mono ?_
        rintro e w6 p
        obtain ⟨rfl, v6, h6, _⟩ := (H5.out.fresh ((Below.refl _ _).alloc (Nat.le_refl _) _)).post p
        have H6 := Lib.hid h6
        clear p h6
        go_wp2_with fail
        refine (HFk.out c _ w6 HKN.out H6.out).mono ?_
        rintro e w7 p
        obtain ⟨rfl, v7, h7, _⟩ := H6.out.post p
        have H7 := Lib.hid h7
        clear p h7
        go_wp2_with fail
        refine (HSk.out c _ w7 HKN.out H7.out).mono ?_
        rintro e w8 ⟨rfl, b8⟩
        have H8 := Lib.hid (H7.out.fresh b8)
        clear b8
        go_wp2_with fail
        refine (blocks_any H8.out.is.m).mono ?_
        rintro e w9 ⟨u, rfl, own9, b9⟩
        have H9 := Lib.hid (H8.out.fresh b9)
        have HI : Hid (Ints (fun _ => True) (w9.alloc (.cells #[.int .i64 0] 3)) u [0]) := Lib.hid (by
          have := own_ints own9
          rw [one_ids] at this
          exact ints_kept this ((Below.refl _ _).alloc (Nat.le_refl _) _))
        have H10 := Lib.hid (H9.out.fresh ((Below.refl _ _).alloc (Nat.le_refl _) (.cells #[.int .i64 0] 3)))
        clear own9 b9
        go_wp2_with fail
        refine (sameInts_eq u _ [0] _ HI.out (one_ints w9 0) (by simp)).mono ?_
        rintro e w10 ⟨rfl, d, rfl⟩
        have H11 := Lib.hid (H10.out.drewN d)
        go_wp2_with fail
        refine (HK.out _).mono ?_
        rintro e w11 ⟨rfl, b11⟩
        have B11 := Lib.hid (H11.out.bl.trans (b11.mono H11.out.bl.size))
        clear b11
        go_wp2_with fail
        go_ret
        exact ⟨rfl, B11.out⟩
end Go.Proofs.Ytgfjfpfhalblgaa
