/- Proved: for every byte n and every row of bytes l the law DiskUsed returns true: as many sectors are used as have anything but noughts in them; cleared all, none is. No condition. -/
import Derived.Test.YtpijefkkhhgbfaaLay
namespace Go.Proofs.Ytpijefkkhhgbfaa.diskUsed
open Go.ChangeShapes Go.WideShapes Go.ChangeAt Go.RowKit

theorem Try.info3 : (Try.prog.info? 3).map (fun i => (i.zero, i.size, i.bytes)) = some (some (.int .i64 0), 1, 8) := by kernel_rfl
theorem Try.info4 : (Try.prog.info? 4).map (fun i => (i.zero, i.size, i.bytes)) = some (some (.bool false), 1, 1) := by kernel_rfl

/-- Has the sector j anything but noughts? -/
def usedB (D : Nat → Int) (j : Nat) : Bool := decide (sec D j ≠ List.replicate 64 0)
theorem usedB_same (D : Nat → Int) (i : Nat) (b : Bool) : usedB (put D i [0, if b = true then 1 else 0]) i = b := by
  unfold usedB
  rw [sec_put _ _ _ (by simp)]
  cases b <;> decide
theorem usedB_other (D : Nat → Int) (i j : Nat) (bs : List Int) (h : j ≠ i) : usedB (put D i bs) j = usedB D j := by
  unfold usedB
  rw [sec_put_other _ _ _ _ h]
theorem cnt_true {D : Nat → Int} {k : Nat} (h : usedB D k = true) : cntU D (k + 1) = cntU D k + 1 := cntU_one (by simpa [usedB] using h)
theorem cnt_false {D : Nat → Int} {k : Nat} (h : usedB D k = false) : cntU D (k + 1) = cntU D k := cntU_zero (by
  unfold usedB at h
  rw [decide_eq_false_iff_not, ne_eq, Classical.not_not] at h
  exact h)

/-- The numbers below k. -/
def upTo (k : Nat) : List Int := (List.range k).map fun i : Nat => (i : Int)
theorem upTo_succ (k : Nat) : upTo (k + 1) = upTo k ++ [(k : Int)] := by simp [upTo, List.range_succ]
theorem upTo_len (k : Nat) : (upTo k).length = k := by simp [upTo]
theorem upTo_in (n : Nat) : inB n (upTo n) = true := by
  unfold inB upTo
  rw [List.all_map, List.all_eq_true]
  intro i hi
  have := List.mem_range.1 hi
  simp
  omega
theorem clr_upTo (D : Nat → Int) (k : Nat) : ∀ i, i < k → sec (clr D (upTo k)) i = List.replicate 64 0 := by
  induction k with
  | zero => intro i hi; omega
  | succ k ih =>
    intro i hi
    have e : clr D (upTo (k + 1)) = put (clr D (upTo k)) k [] := by
      rw [upTo_succ]
      unfold clr
      rw [List.foldl_append]
      rfl
    rw [e]
    by_cases h : i = k
    · subst h; rw [sec_put _ _ _ (by simp), pad_nil]
    · rw [sec_put_other _ _ _ _ h]; exact ih i (by omega)
theorem cntU_nought {D : Nat → Int} (n : Nat) (h : ∀ i, i < n → sec D i = List.replicate 64 0) : cntU D n = 0 := by
  induction n with
  | zero => rfl
  | succ n ih => rw [cntU_zero (h n (by omega)), ih (fun i hi => h i (by omega))]

theorem mk_bools (w : World) (n : Nat) (hn : n ≤ 100000) : (Instr.makeSlice 50 (.int .i64 (n : Int)) (.int .i64 (n : Int))).run Try.prog w = .ok (.slice (some ⟨w.heap.size, 0, none⟩) n n) (w.alloc (.cells (madeCells (Value.bool false).cells n) 4)) := by
  obtain ⟨i0, hi, hz0, hz1, hz2⟩ := info_parts Try.info4
  have h := run_make (P := Try.prog) w 50 4 i0 (.bool false) Try.underlying50 hi hz0 .i64 .i64 (n : Int) (n : Int) (by omega) (by omega) (by rw [hz2]; omega) (by omega)
  rw [hz1, Nat.mul_one, show ((n : Int)).toNat = n by omega] at h
  exact h
theorem made_bool (w : World) (n j : Nat) (h : j < n) : (w.alloc (.cells (madeCells (Value.bool false).cells n) 4)).cell? ⟨w.heap.size, j, none⟩ = some (.bool false) := by
  rw [World.cell?_alloc_at _ _ _ _ rfl]
  show (madeCells #[Value.bool false] n)[j]? = _
  rw [← Array.getElem?_toList, toList_madeCells_one, List.getElem?_replicate, if_pos h]
theorem two_bytes (w : World) (a b : Int) : Bts (fun b => b = w.heap.size) (w.alloc (.cells #[.int .u8 a, .int .u8 b] 5)) (.slice (some ⟨w.heap.size, 0, none⟩) 2 2) [a, b] := by
  refine ⟨_, 2, rfl, by simp, .inr ⟨_, 0, rfl, rfl, fun j u hu => ?_⟩⟩
  rw [World.cell?_alloc_at _ _ _ _ rfl]
  match j, hu with
  | 0, hu => simpa using hu
  | 1, hu => simpa using hu
  | j + 2, hu => simp at hu

def AllInv (base k : Nat) (w : World) (v : Value) (wr : World) : Prop := wr.ownsRow base 3 1 v k ((upTo k).map (Value.int .i64)) ∧ Below base w wr
def UsedInv (m x u n k : Nat) (wB wr : World) : Prop :=
  ∃ D, DiskAt wr m x n 0 k D ∧ (∀ j, j < n → wr.cell? ⟨u, j, none⟩ = some (.bool (usedB D j))) ∧ (∀ j, wr.frozen? ⟨u, j, none⟩ = false) ∧ Only (fun b => b = m ∨ b = x ∨ b = u) wB wr

set_option maxHeartbeats 4000000 in
set_option maxRecDepth 1000000 in
theorem walk_big (w : World) (n : Nat) (v : Value) (xs : List Int) (hb : ArgB w v xs) (h : n = 0 ∨ 60 < xs.length) :
    Calls Try.prog 6 #[.int .u8 n, v] w fun e w' => e = .returned (.bool true) ∧ Below w.heap.size w w' := by
  obtain ⟨a0, c0, rfl, _⟩ := hb.1.form
  have m0 := hb.2.2
  unfold maxLen at m0
  have HK := Lib.hid (known_true w)
  clear hb
  by_cases h1 : n = 0
  · subst h1
    clear h
    go_enter Try.func6, Try.ntmps6
    go_wp2_with (go_at_call 8; refine HK.out.mono ?_; rintro e w1 ⟨rfl, hb⟩)
    go_ret
    exact ⟨rfl, hb⟩
  · have h1' : ((n : Int) == 0) = false := by simpa using h1
    have h2' : (60 : Int) < xs.length := by omega
    clear h h1
    go_enter Try.func6, Try.ntmps6
    go_wp2_with (go_at_call 8; refine HK.out.mono ?_; rintro e w1 ⟨rfl, hb⟩)
    go_ret
    exact ⟨rfl, hb⟩

set_option maxHeartbeats 8000000 in
set_option maxRecDepth 1000000 in
theorem walk_small (w : World) (n : Nat) (v : Value) (xs : List Int) (hb : ArgB w v xs) (h0 : 0 < n) (hn : n ≤ 255) (hl : xs.length ≤ 60) :
    Calls Try.prog 6 #[.int .u8 n, v] w fun e w' => e = .returned (.bool true) ∧ Below w.heap.size w w' := by
  obtain ⟨i3, hi3, hz30, hz31, hz32⟩ := info_parts Try.info3
  have A0 := Lib.hid hb
  obtain ⟨a0, c0, rfl, _⟩ := hb.1.form
  clear hb
  have h0' : ((n : Int) == 0) = false := by
    rw [beq_eq_false_iff_ne]; omega
  have h1' : ¬ (60 : Int) < xs.length := by omega
  have HN := Lib.hid (new_yes n w (by omega))
  obtain ⟨m, hm⟩ : ∃ m, w.heap.size + 1 = m := ⟨_, rfl⟩
  obtain ⟨x, hx⟩ : ∃ x, w.heap.size = x := ⟨_, rfl⟩
  have HX : Hid (w.heap.size = x ∧ x ≤ m) := ⟨hx, by omega⟩
  rw [hm, hx] at HN
  clear hm hx
  go_enter Try.func6, Try.ntmps6
  go_wp2_with fail
  refine HN.out.mono ?_
  rintro e w1 ⟨rfl, d1, b1⟩
  have D1 := Lib.hid d1
  have B1 : Hid (Below x w w1) := b1
  have hm1 := d1.mlt
  have hx1 := d1.xlt
  clear d1 b1 HN
  go_wp2_with fail
  go_loopw [7, 8] (fun r i wr => ∃ k : Nat, k ≤ n ∧ i = .int .i64 k ∧ AllInv w1.heap.size k w1 r wr) (fun _ i _ => n - (intOf i).toNat)
  case atStart => exact ⟨0, Nat.zero_le _, rfl, World.ownsRow_nil _ _ _ _, Below.refl _ _⟩
  case round =>
    obtain ⟨k, hk, rfl, hown, hbl⟩ := hrel
    by_cases hlt : k < n
    · have hlt' : (k : Int) < n := by omega
      have hsz := hbl.size
      go_wp2_with (at_builtin; refine wpList_append_own _ rfl _ _ 49 rfl w1.heap.size 3 i3 (.int .i64 0) 1 8 Try.underlying49 hi3 hz30 hz31 hz32 rfl (by decide) _ _ _ rfl (hown.alloc _) ⟨wr.heap.size, 0, none⟩ 1 1 [.int .i64 k] rfl rfl ?c1 ?c2 ?c3 ?c4 ?c5 ?_)
      case c1 =>
        intro j u hj
        match j, hj with
        | 0, hj => simp at hj; subst hj; simp [Addr.add]
      case c2 => intro u hu; simp at hu; subst hu; rfl
      case c3 => unfold maxLen; omega
      case c4 => omega
      case c5 => simp; omega
      intro v' w2 hown' hgrow _
      have R : AllInv w1.heap.size (k + 1) w1 v' w2 := ⟨by rw [upTo_succ, List.map_append]; exact hown', (hbl.alloc hsz _).grown hgrow (by simp; omega) fun g hg => (hown.lt g hg).1⟩
      have R := Lib.hid R
      clear hown hown' hgrow hbl
      go_wp2_with fail
      go_roundw
      case rel => exact ⟨k + 1, by omega, by go_num, R.out⟩
      case measure => simp [intOf]; omega
    · obtain rfl : n = k := by omega
      have O2 := Lib.hid hown
      have D2 := Lib.hid (D1.out.fresh hbl)
      have Z2 := hbl.size
      have B2 : Hid (Below x w wr) := B1.out.trans (hbl.mono (by omega))
      have hm := mk_bools wr n (by omega)
      have h3 : Below wr.heap.size wr (wr.alloc (.cells (madeCells (Value.bool false).cells n) 4)) := (Below.refl _ _).alloc (Nat.le_refl _) _
      have c3 := made_bool wr n
      have f3 := frozen_top wr (madeCells (Value.bool false).cells n) 4
      have l3 : wr.heap.size < (wr.alloc (.cells (madeCells (Value.bool false).cells n) 4)).heap.size := by simp
      obtain ⟨u, hu⟩ : ∃ u, u = wr.heap.size := ⟨_, rfl⟩
      rw [← hu] at hm c3 f3 h3 l3
      generalize wr.alloc (.cells (madeCells (Value.bool false).cells n) 4) = w3 at hm c3 f3 h3 l3
      have B3 : Hid (Below x w w3) := B2.out.trans (h3.mono (by omega))
      have I3 : Hid (UsedInv m x u n 0 w3 w3) := ⟨_, D2.out.fresh (by rw [← hu]; exact h3), fun j hj => by
        rw [c3 j hj]
        have : usedB (fun _ => 0) j = false := by unfold usedB; rw [sec_zero]; simp
        rw [this], f3, Only.refl _ _⟩
      have hv2 : Ints (w1.heap.size ≤ ·) wr u7 (upTo n) := Vals.of_own (by rw [List.length_map, upTo_len]; exact O2.out)
      have V3 : Hid (Ints (fun b => w1.heap.size ≤ b ∧ b < u) w3 u7 (upTo n)) :=
        Vals.only (Vals.kind hv2 (fun b h1 h2 => ⟨h2, by omega⟩)) (Only.of_below (F := fun _ => False) (by rw [← hu]; exact h3)) (fun _ _ h => h)
      have hum : m < u := by omega
      have hux : x < u := by omega
      have huw : w1.heap.size ≤ u := by omega
      clear hown hbl hu c3 f3 h3 D1 D2 O2 B2 hv2 Z2
      go_wp2_with fail
      clear hm
      go_loopw [10] (fun i wr => ∃ k : Nat, k ≤ xs.length ∧ i = .int .i64 k ∧ UsedInv m x u n k w3 wr) (fun i _ => xs.length - (intOf i).toNat)
      case atStart => exact ⟨0, Nat.zero_le _, rfl, I3.out⟩
      case round =>
        obtain ⟨k, hk, rfl, D, d4, c4, f4, o4⟩ := hrel
        have D4 := Lib.hid d4
        have C4 := Lib.hid c4
        have F4 := Lib.hid f4
        have O4 := Lib.hid o4
        have B4 : Hid (Below x w wr) := B3.out.trans (o4.below (fun i hi h => by have := HX.out; omega) (by omega))
        have hur : u < wr.heap.size := by have := o4.size; omega
        clear d4 c4 f4 o4
        by_cases hlt : k < xs.length
        · obtain ⟨b, off, c', he, _, hbl, _, hc⟩ := Vals.at_ (k := k) A0.out.1 (by simpa using hlt)
          rw [List.length_map] at he
          injection he with e1 e2 e3
          subst e1 e3
          rw [List.getElem_map] at hc
          have hq := A0.out.2.1 _ (List.getElem_mem hlt)
          have HC := Lib.hid hc
          have hbx : Hid (b < x) := by rw [← HX.out.1]; exact hbl
          have hcr : wr.cell? ⟨b, off + k, none⟩ = some (.int .u8 xs[k]) := (B4.out.cell (p := ⟨b, off + k, none⟩) hbx.out).trans hc
          clear hc hbl e2
          generalize xs[k] = q at hq hcr HC
          obtain ⟨q, rfl⟩ := Int.eq_ofNat_of_zero_le hq.1
          obtain ⟨i, hi⟩ : ∃ i, i = q % n := ⟨_, rfl⟩
          have hin : i < n := by rw [hi]; exact Nat.mod_lt _ h0
          have m1 : (q : Int) % n = i := by omega
          have m2 : (q : Int).tmod n = i := by rw [Int.tmod_eq_emod_of_nonneg (by omega)]; exact m1
          have hlt' : (k : Int) < xs.length := by omega
          have hn' : ((n : Int) == 0) = false := h0'
          obtain ⟨bb, hbb⟩ : ∃ bb : Bool, decide (128 ≤ (q : Int)) = bb := ⟨_, rfl⟩
          have hd : (q : Int) / 128 = if bb = true then 1 else 0 := by
            subst hbb
            by_cases h : 128 ≤ (q : Int) <;> simp [h] <;> omega
          have hd2 : (q : Int).tdiv 128 = if bb = true then 1 else 0 := by rw [Int.tdiv_eq_ediv_of_nonneg (by omega)]; exact hd
          obtain ⟨s, hs⟩ : ∃ s : Int, s = if bb = true then 1 else 0 := ⟨_, rfl⟩
          rw [← hs] at hd hd2
          have HS := Lib.hid hs
          have HW := Lib.hid (write_yes m x n 0 k D i _ [0, s] (wr.alloc (.cells #[.int .u8 0, .int .u8 s] 5)) (D4.out.fresh ((Below.refl _ _).alloc (Nat.le_refl _) _)) hin (by omega) (two_bytes wr 0 s) (by rw [hs]; cases bb <;> (intro n hn; simp at hn; omega)) (by simp))
          have hs1 : 0 ≤ s := by rw [hs]; split <;> omega
          have hs2 : s ≤ 1 := by rw [hs]; split <;> omega
          have hs3 : s % 256 = s := by omega
          have hq2 : (q : Int) ≤ 255 := hq.2
          have hq3 : q ≤ 255 := by omega
          clear hs hi hq
          go_wp2_with fail
          with_reducible refine HW.out.mono ?_
          rintro e w5 ⟨rfl, d5, o5⟩
          have o5' : Only (dk m x) wr w5 := ((Only.refl (dk m x) wr).alloc _).trans o5
          have hnu : ¬ dk m x u := fun h => by rcases h with h | h <;> omega
          have hc5 : w5.cell? ⟨b, off + k, none⟩ = some (.int .u8 (q : Int)) := (o5'.cell (p := ⟨b, off + k, none⟩) (World.block_lt_of_cell? _ _ hcr) (fun h => by have := hbx.out; have := HX.out; rcases h with h | h <;> (simp at h; omega))).trans hcr
          have hu5 : w5.cell? ⟨u, i, none⟩ = some (.bool (usedB D i)) := (o5'.cell (p := ⟨u, i, none⟩) hur hnu).trans (C4.out i hin)
          have hf5 : w5.frozen? ⟨u, i, none⟩ = false := (o5'.frozen (p := ⟨u, i, none⟩) hur hnu).trans (F4.out i)
          have I6 : Hid (UsedInv m x u n (k + 1) w3 (w5.setCell ⟨u, i, none⟩ (.bool bb))) := by
            refine ⟨put D i [0, s], d5.only (F := (· = u)) (Only.setCell (F := (· = u)) (Only.refl (· = u) w5) ⟨u, i, none⟩ (.inl rfl) _) (by omega) (by omega), fun j hj => ?_, fun j => ?_, ?_⟩
            · by_cases hji : j = i
              · subst hji
                rw [World.cell?_setCell_same _ _ _ hu5, HS.out, usedB_same]
              · rw [World.cell?_setCell_other _ _ _ _ (by intro e; injection e; omega), usedB_other _ _ _ _ hji]
                exact (o5'.cell (p := ⟨u, j, none⟩) hur hnu).trans (C4.out j hj)
            · rw [World.frozen?_setCell]; exact (o5'.frozen (p := ⟨u, j, none⟩) hur hnu).trans (F4.out j)
            · exact (O4.out.then_ o5' (fun i _ h => by rcases h with h | h <;> simp [h])).setCell ⟨u, i, none⟩ (.inl (.inr (.inr rfl))) _
          clear d5 o5 o5' hcr HC
          generalize usedB D i = old at hu5
          go_wp2_with fail
          go_roundw
          case rel => exact ⟨k + 1, by omega, by go_num, I6.out⟩
          case measure => simp [intOf]; omega
        · have hke : Hid (k ≤ 60) := by show _ ≤ _; omega
          go_wp2_with fail
          go_loop [12, 13] (fun t i => ∃ j : Nat, j ≤ n ∧ i = .int .i64 j ∧ t = .int .i64 (cntU D j)) (fun _ i => n - (intOf i).toNat)
          case atStart => exact ⟨0, Nat.zero_le _, rfl, rfl⟩
          case round =>
            obtain ⟨j, hj, rfl, rfl⟩ := hrel
            have hcl := cntU_le D j
            by_cases hlt : j < n
            · have hcj := C4.out j hlt
              have hlt' : (j : Int) < n := by omega
              cases hb : usedB D j with
              | true =>
                rw [hb] at hcj
                have HS := Lib.hid (cnt_true hb)
                clear hb
                generalize cntU D j = q at HS hcl ⊢
                go_wp2_with fail
                go_round
                case rel => exact ⟨j + 1, by omega, by go_num, by rw [HS.out]; go_num⟩
                case measure => simp [intOf]; omega
              | false =>
                rw [hb] at hcj
                have HS := Lib.hid (cnt_false hb)
                clear hb
                generalize cntU D j = q at HS hcl ⊢
                go_wp2_with fail
                go_round
                case rel => exact ⟨j + 1, by omega, by go_num, by rw [HS.out]⟩
                case measure => simp [intOf]; omega
            · obtain rfl : n = j := by omega
              have HU := Lib.hid (used_any m x n 0 k D wr D4.out)
              have Z4 := Lib.hid D4.out.xlt
              have V4 := Lib.hid (V3.out.only O4.out (fun b h1 h2 => by have h3 := h1.1; have h4 := h1.2; rcases h2 with h2 | h2 | h2 <;> omega))
              generalize hQ : cntU D n = Q at HU hcl ⊢
              clear hQ
              go_wp2_with fail
              refine HU.out.mono ?_
              rintro e w5 ⟨rfl, b5⟩
              have D5 := Lib.hid (D4.out.fresh b5)
              have B5 : Hid (Below x w w5) := B4.out.trans (b5.mono (Nat.le_of_lt Z4.out))
              have V5 := Lib.hid (V4.out.only (Only.of_below (F := fun _ => False) b5) (fun _ _ h => h))
              have HC := Lib.hid (clear_yes m x n 0 k D u7 (upTo n) w5 D5.out V5.out (fun b h1 h2 => by have h3 := h1.1; rcases h2 with h2 | h2 <;> omega) (by rw [upTo_len]; omega) (upTo_in n))
              clear b5 V4
              go_wp2_with fail
              refine HC.out.mono ?_
              rintro e w6 ⟨rfl, d6, o6⟩
              have hu6 := used_any m x n 0 k _ w6 d6
              rw [cntU_nought n (clr_upTo D n)] at hu6
              have HU6 := Lib.hid hu6
              have B6 : Hid (Below x w w6) := B5.out.trans (o6.below (fun i hi h => by have := HX.out; rcases h with h | h <;> omega) (by have := D5.out.xlt; omega))
              have Z6 := Lib.hid d6.xlt
              clear hu6 d6 o6
              go_wp2_with fail
              refine HU6.out.mono ?_
              rintro e w7 ⟨rfl, b7⟩
              have B7 : Hid (Below x w w7) := B6.out.trans (b7.mono (Nat.le_of_lt Z6.out))
              have Z7 : Hid (x ≤ w7.heap.size) := Nat.le_trans (Nat.le_of_lt Z6.out) b7.size
              clear b7
              go_wp2_with fail
              refine (known_true w7).mono ?_
              rintro e w8 ⟨rfl, b8⟩
              go_wp2_with fail
              go_ret
              exact ⟨rfl, by rw [HX.out.1]; exact B7.out.trans (b8.mono Z7.out)⟩

theorem walk (w : World) (a0 : Int) (w0 : (Lit.int .u8 a0).wf = true) (v1 : Value) (x1 : List Int) (hb1 : ArgB w v1 x1) :
    Calls Try.prog 6 #[.int .u8 a0, v1] w fun e w' => e = .returned (.bool true) ∧ Below w.heap.size w w' := by
  have h := wf_u8 w0
  obtain ⟨n, rfl⟩ := Int.eq_ofNat_of_zero_le h.1
  by_cases hb : n = 0 ∨ 60 < x1.length
  · exact walk_big w n v1 x1 hb1 hb
  · exact walk_small w n v1 x1 hb1 (by omega) (by omega) (by omega)

set_option maxRecDepth 100000 in
theorem lifted (os : Os) (started : os.Started) (H : Type) (enc : TypeId × Value → H) :
    ReturnsInHanded {} Try.checked os 6 .any (Rows.diskUsedSpec.pre6 enc Try.prog Try.f6 Rows.diskUsedRow.domain false) (Rows.diskUsedSpec.post enc Try.prog Try.f6 false true false false) := by
  refine returnsInHanded_of_change (C := Try.checked) Try.own started (by kernel_rfl) Try.func6
    (ChangeSpec.witness6 (enc := enc) (C := Try.checked) false ⟨#[], #[.int .u8 0, .slice none 0 0], []⟩ 8 (by kernel_rfl) (by kernel_rfl) (by kernel_rfl) (by kernel_rfl)) ?_
  intro W base args ds gs before hval0 hW _ _
  have hval : ∀ (j : Nat) t v, Try.f6.params[j]? = some t → args[j]? = some v → Value.okWide Try.prog W .any base t v := hval0
  have hW' := hW
  obtain ⟨p, q, hA0, hV, rfl, _, _⟩ := hW
  have hA : DataW.TrodAll enc Try.prog W 0 (fun _ => true) true Try.f6.params.toList args.toList ds p := hA0
  rw [Try.params6] at hA hval
  obtain ⟨v0, vs0, d0, ds0, p0, q0, hargs, rfl, rfl, h0, r0⟩ := trodAll_cons hA
  obtain ⟨v1, vs1, d1, ds1, p1, q1, rfl, rfl, rfl, h1, r1⟩ := trodAll_cons r0
  obtain ⟨rfl, rfl, rfl⟩ := trodAll_nil r1
  obtain rfl : args = #[v0, v1] := by cases args; simp_all
  obtain ⟨rfl, rfl⟩ := trodVars_none hV
  obtain ⟨a0, rfl, rfl, rfl, w0⟩ := open_int Try.underlying5 (hval 0 5 v0 rfl rfl) h0
  clear hA0 hval0
  simp only [List.append_nil] at hW'
  obtain ⟨x1, hb1⟩ := open_bts (hval 1 30 v1 rfl rfl) h1
  have hlt1 : ∀ x ∈ p1, x.block < W.heap.size := fun x hx => by simpa using hW'.lt x (by simp [hx])
  refine (walk W a0 w0 v1 x1 hb1).mono fun e W' ⟨he, hg⟩ => ?_
  subst he
  exact ⟨_, rfl, _, _, _, [], _, [], hW', (trodAll_cons_mk (shut_bool Try.underlying4 _) trodAll_mk0), (trodAll_cons_mk (shut_int Try.underlying5 w0) (trodAll_cons_mk (Below.trod Try.laidOut (by kernel_rfl) (of_decide_eq_true (by kernel_rfl)) h1 hg hlt1) trodAll_mk0)), rfl, hg.frame _, fun h => by cases h⟩

theorem row_over : Rows.diskUsedRow.holds Try.pinned (OpenSpec.ofChange Rows.diskUsedSpec) :=
  OpenClaim.holds_of_wide 6 Try.f6 rfl rfl rfl rfl rfl rfl rfl ⟨rfl, rfl, rfl, rfl, rfl⟩ rfl rfl rfl rfl rfl (by kernel_rfl) Try.func6 (by kernel_rfl)
    (of_decide_eq_true (by kernel_rfl)) (by unfold Func.isWrapper; first | (rw [if_pos (by decide +kernel)]; kernel_rfl) | (rw [if_neg (by decide +kernel)]; exact ⟨rfl, rfl⟩))
    (fun os started H enc _ => lifted os started H enc)
end Go.Proofs.Ytpijefkkhhgbfaa.diskUsed
namespace Go.Proofs.Ytpijefkkhhgbfaa
theorem diskUsed_holds : Rows.DiskUsedSaid := diskUsed.row_over
end Go.Proofs.Ytpijefkkhhgbfaa
