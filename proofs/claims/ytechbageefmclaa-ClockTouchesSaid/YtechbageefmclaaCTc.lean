/- ClockTouches' walk. -/
import Derived.Test.YtechbageefmclaaCPi
namespace Go.Proofs.Ytechbageefmclaa
set_option maxRecDepth 1000000
open Go.ChangeShapes Go.WideShapes Go.ChangeAt Go.RowKit

/-- The k cells at block x are the Bools T; they may be written. -/
def RowB (w : World) (x k : Nat) (T : Nat → Bool) : Prop := ∀ j, j < k → w.cell? ⟨x, j, none⟩ = some (.bool (T j)) ∧ w.frozen? ⟨x, j, none⟩ = false
theorem RowB.only {w w' : World} {x n : Nat} {V : Nat → Bool} {F : Nat → Prop} (h : RowB w x n V) (o : Only F w w') (hF : ¬ F x) : RowB w' x n V := fun j hj => by
  have hl := World.block_lt_of_cell? _ _ (h j hj).1
  exact ⟨(o.cell (p := ⟨x, j, none⟩) hl hF).trans (h j hj).1, (o.frozen (p := ⟨x, j, none⟩) hl hF).trans (h j hj).2⟩
theorem RowB.put {w : World} {x n : Nat} {V : Nat → Bool} (h : RowB w x n V) {p : Nat} (hp : p < n) (y : Bool) : RowB (w.setCell ⟨x, p, none⟩ (.bool y)) x n (upd V p y) := fun j hj => by
  refine ⟨?_, by rw [World.frozen?_setCell]; exact (h j hj).2⟩
  by_cases hjp : j = p
  · subst hjp
    rw [World.cell?_setCell_same _ _ _ (h j hp).1, upd_at]
  · rw [World.cell?_setCell_other _ _ _ _ (by intro e; injection e with _ e2; first | exact hjp e2 | exact hjp e2.symm), (h j hj).1, upd_ne _ _ hjp]
theorem Try.info4 : (Try.prog.info? 4).map (fun i => (i.zero, i.size, i.bytes)) = some (some (.bool false), 1, 1) := by kernel_rfl
theorem mk_bools (w : World) (n : Nat) (hn : n ≤ 100000) : (Instr.makeSlice 44 (.int .i64 (n : Int)) (.int .i64 (n : Int))).run Try.prog w = .ok (.slice (some ⟨w.heap.size, 0, none⟩) n n) (w.alloc (.cells (madeCells (Value.bool false).cells n) 4)) := by
  obtain ⟨i0, hi, hz0, hz1, hz2⟩ := info_parts Try.info4
  have h := run_make (P := Try.prog) w 44 4 i0 (.bool false) Try.underlying44 hi hz0 .i64 .i64 (n : Int) (n : Int) (by omega) (by omega) (by rw [hz2]; omega) (by omega)
  rw [hz1, Nat.mul_one, show ((n : Int)).toNat = n by omega] at h
  exact h
theorem made_bools (w : World) (n : Nat) : RowB (w.alloc (.cells (madeCells (Value.bool false).cells n) 4)) w.heap.size n (fun _ => false) := fun j hj => by
  refine ⟨?_, frozen_top w _ _ j⟩
  rw [World.cell?_alloc_at _ _ _ _ rfl]
  show (madeCells #[Value.bool false] n)[j]? = _
  rw [← Array.getElem?_toList, toList_madeCells_one, List.getElem?_replicate, if_pos hj]
/-- A clock and a row of Bools, of the law's own. -/
structure TcB (W0 w : World) (c : Ck) (x k : Nat) (E : Nat → El) (h : Nat) (T : Nat → Bool) : Prop where
  ck : ClkB W0 w c k E h
  row : RowB w x k T
  fr : W0.heap.size ≤ x
  ne : ¬ CF c x
  lt : x < w.heap.size
section
variable {W0 w w' : World} {c : Ck} {x k h h' : Nat} {E E' : Nat → El} {T : Nat → Bool} {u : Value} {e : Ending}
theorem TcB.fresh (a : TcB W0 w c x k E h T) (b : Below w.heap.size w w') : TcB W0 w' c x k E h T :=
  ⟨a.ck.fresh b, a.row.only (F := fun _ => False) (Only.of_below b) id, a.fr, a.ne, by have := b.size; have := a.lt; omega⟩
theorem TcB.post (a : TcB W0 w c x k E h T) (p : ClkPost u c k E' h' w e w') : e = .returned u ∧ TcB W0 w' c x k E' h' T := by
  have o := (a.ck.post p).2.2
  exact ⟨(a.ck.post p).1, (a.ck.post p).2.1, a.row.only o a.ne, a.fr, a.ne, by have := o.size; have := a.lt; omega⟩
theorem TcB.set (a : TcB W0 w c x k E h T) {p : Nat} (hp : p < k) (y : Bool) : TcB W0 (w.setCell ⟨x, p, none⟩ (.bool y)) c x k E h (upd T p y) := by
  have o := only_set w ⟨x, p, none⟩ (.bool y)
  have hs := o.size
  have hne := a.ne
  have hlt := a.lt
  have hfr := a.fr
  refine ⟨⟨a.ck.is.only o fun k hk he => hne (by have : k = x := he; rw [← this]; exact hk), a.ck.fr, a.ck.bl.trans (o.below (B := W0.heap.size) (fun i hi he => by have : i = x := he; omega) a.ck.bl.size)⟩, a.row.put hp y, a.fr, a.ne, by omega⟩
/-- The elements touched as T says. -/
def tI (k : Nat) (T : Nat → Bool) : Nat → El := fun j => ⟨T j, false, decide (j < k)⟩
theorem tI_none (k : Nat) : tI k (fun _ => false) = inI k := rfl
theorem tI_in {j : Nat} (hj : j < k) : tI k T j = ⟨T j, false, true⟩ := by unfold tI; rw [decide_eq_true hj]
theorem tI_tch {p : Nat} (hp : p < k) : tch (tI k T) p = tI k (upd T p true) := by
  funext j
  unfold tch
  by_cases hj : j = p
  · subst hj; rw [upd_at, tI_in hp, tI_in hp, upd_at]
  · rw [upd_ne _ _ hj]; unfold tI; rw [upd_ne _ _ hj]
theorem tc_touch {p : Nat} (hp : p < k) (a : TcB W0 w c x k (tI k T) h T) :
    Calls Try.prog 15 #[.pointer (some ⟨c.t, 0, none⟩), .slice (some ⟨w.heap.size, 0, none⟩) 1 1] (w.alloc (.cells #[.int .i64 (p : Int)] 3)) fun e w' => e = .returned (.int .i64 0) ∧ TcB W0 w' c x k (tI k (upd T p true)) h T := by
  have a1 := a.fresh ((Below.refl w.heap.size w).alloc (Nat.le_refl _) (.cells #[.int .i64 (p : Int)] 3))
  have := touch_yes _ [(p : Int)] a1.ck.is (one_ints w p) (fun b hb hC => by have := a.ck.is.ltF b hC; omega) (by simp) (fun z hz => by rw [List.mem_singleton] at hz; rw [hz, is_in hp, tI_in hp])
  rw [show tchs (tI k T) [(p : Int)] [(p : Int)].length = tch (tI k T) p from rfl, tI_tch hp] at this
  exact this.mono fun _ _ q => a1.post q
/-- Not touched. -/
def coldT (T : Nat → Bool) : Nat → Bool := fun j => !T j
theorem cold_start (k : Nat) : cnt (coldT fun _ => false) k = k := cnt_all fun _ _ => rfl
theorem cold_less {p : Nat} (hp : p < k) (hT : T p = false) : cnt (coldT T) k = cnt (coldT (upd T p true)) k + 1 :=
  cnt_drop hp (by unfold coldT; rw [hT]; rfl) (by unfold coldT; rw [upd_at]; rfl) fun j hj => by unfold coldT; rw [upd_ne _ _ hj]
theorem upd_true {p : Nat} (hT : T p = true) : upd T p true = T := by rw [← hT]; exact upd_same T p
/-- In the round: whoever stands from H on is as at the start, so many of them are cold. -/
structure TcL (W0 w : World) (c : Ck) (x k : Nat) (T : Nat → Bool) (left : Nat) : Prop where
  ex : ∃ (E : Nat → El) (h H : Nat), TcB W0 w c x k E h T ∧ H ≤ k ∧ (H < k → h = H) ∧ (∀ j, H ≤ j → j < k → E j = ⟨T j, false, true⟩) ∧ cnt (fun j => decide (H ≤ j) && coldT T j) k = left
theorem TcL.start (a : TcB W0 w c x k (tI k T) 0 T) : TcL W0 w c x k T (cnt (coldT T) k) :=
  ⟨_, 0, 0, a, Nat.zero_le _, fun _ => rfl, fun j _ hj => tI_in hj, cnt_congr fun j _ => by simp⟩
/-- The next one is cold, and goes. -/
theorem TcL.vic {left : Nat} (a : TcL W0 w c x k T (left + 1)) : Calls Try.prog 13 #[.pointer (some ⟨c.t, 0, none⟩)] w fun e w' => ∃ v : Nat, e = .returned (.tuple #[.int .i64 v, .bool true]) ∧ v < k ∧ T v = false ∧ RowB w' x k T ∧
    Calls Try.prog 14 #[.pointer (some ⟨c.t, 0, none⟩), .int .i64 v, .bool false] w' fun e w2 => e = .returned (.int .i64 0) ∧ TcL W0 w2 c x k T left := by
  obtain ⟨E, h, H, a, hH, hh, hE, hc⟩ := a.ex
  obtain ⟨j, hj, hjt⟩ := cnt_some (f := fun j => decide (H ≤ j) && coldT T j) (n := k) (by omega)
  simp only [Bool.and_eq_true, decide_eq_true_eq] at hjt
  obtain ⟨v, v1, v2, v3, v4⟩ := first_from (f := coldT T) (n := k) k H (by omega) ⟨j, hjt.1, hj, hjt.2⟩
  have hHk : H < k := by omega
  obtain rfl := hh hHk
  have hTv : T v = false := by unfold coldT at v3; simpa using v3
  obtain ⟨E', hv, hE'⟩ := vic_first (n := k) (2 * k) E h v v1 v2 (by omega) (by rw [hE v v1 v2]; unfold hit goes; rw [hTv]; rfl) (fun j h1 h2 => by
    have : T j = true := by have := v4 j h1 h2; unfold coldT at this; simpa using this
    rw [hE j h1 (by omega)]; unfold hit goes; rw [this]; rfl)
  refine (victim_at _ _ a.ck.is hv).mono fun _ w' p => ?_
  have a' := (a.post p).2
  refine ⟨v, (a.post p).1, v2, hTv, a'.row, ?_⟩
  refine (in_yes v false v2 a'.ck.is).mono fun _ w2 q => ⟨(a'.post q).1, _, _, v + 1, (a'.post q).2, by omega, fun hlt => Nat.mod_eq_of_lt hlt, fun j h1 h2 => ?_, ?_⟩
  · rw [upd_ne _ _ (by omega), hE' j (.inr (by omega)), hE j (by omega) h2]
  · have := cnt_drop (f := fun j => decide (h ≤ j) && coldT T j) (g := fun j => decide (v + 1 ≤ j) && coldT T j) (n := k) v2 (by simp only [Bool.and_eq_true, decide_eq_true_eq]; exact ⟨v1, v3⟩) (by show (decide (v + 1 ≤ v) && coldT T v) = false; rw [decide_eq_false (by omega)]; rfl) (fun j hj => by
      by_cases h1 : h ≤ j
      · by_cases h2 : j < v
        · rw [v4 j h1 h2]; simp
        · rw [decide_eq_true h1, decide_eq_true (by omega : v + 1 ≤ j)]
      · rw [decide_eq_false h1, decide_eq_false (by omega : ¬ v + 1 ≤ j)])
    omega
end
/-- What is so behind the last In: in each world that keeps the memory. -/
def EndAt (W0 : World) (c : Ck) (k h y : Nat) (w : World) : Prop := ∃ E : Nat → El, ∀ w', Below w.heap.size w w' → ClkB W0 w' c k E h ∧ w'.cell? ⟨y, 1, none⟩ = some (.int .i64 0) ∧
  Calls Try.prog 11 #[.pointer (some ⟨c.t, 0, none⟩), .int .i64 0] w' fun e w2 => e = .returned (.tuple #[.bool true, .bool false, .bool false]) ∧ Below w.heap.size w w2
theorem tc_end {W0 w : World} {c : Ck} {k h : Nat} {E : Nat → El} (hk : 0 < k) (a : ClkB W0 w c k E h) :
    Calls Try.prog 14 #[.pointer (some ⟨c.t, 0, none⟩), .int .i64 0, .bool true] (w.alloc (.cells #[.slice none 0 0, .int .i64 0] 47)) fun e w2 => e = .returned (.int .i64 0) ∧ EndAt W0 c k h w.heap.size w2 := by
  have b := (Below.refl w.heap.size w).alloc (Nat.le_refl _) (.cells #[.slice none 0 0, .int .i64 0] 47)
  have a1 := a.fresh b
  have hc : (w.alloc (.cells #[.slice none 0 0, .int .i64 0] 47)).cell? ⟨w.heap.size, 1, none⟩ = some (.int .i64 0) := by
    rw [World.cell?_alloc_at _ _ _ _ rfl]; rfl
  have hF : ¬ CF c w.heap.size := fun h => by have := a.is.ltF _ h; omega
  refine (in_yes 0 true hk a1.is).mono fun _ w2 p => ⟨(a1.post p).1, upd E 0 ⟨false, false, true⟩, fun w' b' => ?_⟩
  obtain ⟨_, a2, o2⟩ := a1.post p
  have hl := World.block_lt_of_cell? _ _ hc
  have h2 := (o2.cell (p := ⟨w.heap.size, 1, none⟩) hl hF).trans hc
  have o3 : Only (fun _ => False) w2 w' := Only.of_below b'
  have a3 := a2.fresh b'
  refine ⟨a3, (o3.cell (p := ⟨w.heap.size, 1, none⟩) (World.block_lt_of_cell? _ _ h2) id).trans h2, ?_⟩
  have h3 := is_any (0 : Int) a3.is
  rw [show isOf k (upd E 0 ⟨false, false, true⟩) 0 = ⟨false, false, true⟩ from is_in hk] at h3
  exact h3.mono fun _ _ ⟨he, q, hw⟩ => ⟨he, by rw [hw]; exact below_drewN b' q⟩
/-- The bytes, as the law reads them in any world that keeps what was there. -/
theorem u8s_at {W w : World} {v : Value} {xs : List Int} (h : ArgN .u8 W v xs) (b : Below W.heap.size W w) : ∃ a c, v = .slice a xs.length c ∧ ∀ j, j < xs.length → ∃ (bl off q : Nat), a = some ⟨bl, off, none⟩ ∧ w.cell? ⟨bl, off + j, none⟩ = some (.int .u8 q) ∧ q ≤ 255 := by
  obtain ⟨⟨a, c, rfl, _, hx⟩, hw, _⟩ := h
  rw [List.length_map]
  refine ⟨a, c, rfl, fun j hj => ?_⟩
  rcases hx with hx | ⟨bl, off, rfl, hlt, hx⟩
  · have := congrArg List.length hx
    rw [List.length_map, List.length_nil] at this
    omega
  · have c0 := hx j (.int .u8 xs[j]) (by rw [List.getElem?_map, List.getElem?_eq_getElem hj]; rfl)
    obtain ⟨q0, q1⟩ := wf_u8 (hw _ (List.getElem_mem hj))
    obtain ⟨q, hq⟩ := Int.eq_ofNat_of_zero_le q0
    rw [hq] at c0 q1
    have o : Only (fun k => W.heap.size ≤ k) W w := ⟨b.os, b.tape, b.output, b.size, fun k hk _ => b.block k hk⟩
    exact ⟨bl, off, q, rfl, (o.cell (p := ⟨bl, off + j, none⟩) hlt (by show ¬ W.heap.size ≤ bl; omega)).trans c0, by omega⟩
set_option maxHeartbeats 4000000 in
theorem clockTouches_walk (W : World) (n : Int) (hn : (Lit.int .u8 n).wf = true) (v : Value) (xs : List Int) (hX : ArgN .u8 W v xs) : Calls Try.prog 7 #[.int .u8 n, v] W fun e W' => e = .returned (.bool true) ∧ Below W.heap.size W W' := by
  obtain ⟨n0, n1⟩ := wf_u8 hn
  obtain ⟨n, rfl⟩ := Int.eq_ofNat_of_zero_le n0
  obtain ⟨k, hk, hk1, hk2⟩ := size_ex n
  have HK := Lib.hid (fun w => known_any w)
  obtain ⟨a, cp, rfl, _⟩ := u8s_at hX (Below.refl W.heap.size W)
  obtain ⟨len, hlen⟩ : ∃ len, xs.length = len := ⟨_, rfl⟩
  have HD : Hid (∀ w, Below W.heap.size W w → ∀ j, j < len → ∃ (bl off q : Nat), a = some ⟨bl, off, none⟩ ∧ w.cell? ⟨bl, off + j, none⟩ = some (.int .u8 q) ∧ q ≤ 255) := Lib.hid fun w b j hj => by
    obtain ⟨a', c', he, hx⟩ := u8s_at hX b
    simp only [Value.slice.injEq] at he
    obtain ⟨rfl, _, _⟩ := he
    exact hx j (by omega)
  rw [hlen]
  clear hX hlen hn
  by_cases hbig : 60 < len
  · have hd : decide ((60 : Int) < (len : Int)) = true := decide_eq_true (by omega)
    clear HD
    go_enter Try.func7, Try.ntmps7
    go_wp2_with fail
    refine (HK.out W).mono ?_
    rintro e w1 ⟨rfl, b1⟩
    go_wp2_with fail
    go_ret
    exact ⟨rfl, b1⟩
  · have hd : decide ((60 : Int) < (len : Int)) = false := decide_eq_false (by omega)
    have HN := Lib.hid (new_yes k W (by omega))
    have HI : Hid (∀ (c : Ck) (w1 : World) (i : Nat), i < k → ClkB W w1 c k (inI i) 0 → Calls Try.prog 14 #[.pointer (some ⟨c.t, 0, none⟩), .int .i64 i, .bool true] w1 (BPost W (.int .i64 0) c k (inI (i + 1)) 0)) := Lib.hid fun c w1 i hi a => in_next hi a
    have HT : Hid (∀ (c : Ck) (x : Nat) (w1 : World) (T : Nat → Bool) (p : Nat), p < k → TcB W w1 c x k (tI k T) 0 T → Calls Try.prog 15 #[.pointer (some ⟨c.t, 0, none⟩), .slice (some ⟨w1.heap.size, 0, none⟩) 1 1] (w1.alloc (.cells #[.int .i64 (p : Int)] 3)) fun e w' => e = .returned (.int .i64 0) ∧ TcB W w' c x k (tI k (upd T p true)) 0 T) := Lib.hid fun c x w1 T p hp a => tc_touch hp a
    have hmk := fun w => mk_bools w k (by omega)
    have hkp : (0 : Int) < k := by omega
    go_enter Try.func7, Try.ntmps7
    go_wp2_with fail
    refine HN.out.mono ?_
    rintro e w1 ⟨c, rfl, a1⟩
    have H1 : Hid (ClkB W w1 c k (inI 0) 0) := by rw [inI_zero]; exact a1
    clear a1 HN
    go_wp2_with fail
    go_loopw [8] (fun s8 wr => ∃ i : Nat, i ≤ k ∧ s8 = .int .i64 i ∧ Hid (ClkB W wr c k (inI i) 0)) (fun s8 _ => k - (intOf s8).toNat)
    case atStart => exact ⟨0, by omega, rfl, H1⟩
    case round =>
      clear H1
      obtain ⟨i, hi, rfl, H1⟩ := hrel
      by_cases hlt : i < k
      · have hlt' : (i : Int) < k := by omega
        go_wp2_with fail
        refine (HI.out c wr i hlt H1.out).mono ?_
        rintro e w2 ⟨rfl, a2⟩
        have H2 := Lib.hid a2
        clear a2 H1
        go_wp2_with fail
        go_roundw
        case rel => exact ⟨i + 1, by omega, by go_num, H2⟩
        case measure => simp [intOf]; omega
      · obtain rfl : i = k := by omega
        clear hlt
        have H2 : Hid (TcB W (wr.alloc (.cells (madeCells (Value.bool false).cells i) 4)) c wr.heap.size i (tI i fun _ => false) 0 (fun _ => false)) := by
          have a := H1.out
          have b := (Below.refl wr.heap.size wr).alloc (Nat.le_refl _) (.cells (madeCells (Value.bool false).cells i) 4)
          exact ⟨a.fresh b, made_bools wr i, a.bl.size, fun h => by have := a.is.ltF _ h; omega, by simp⟩
        obtain ⟨w2, hw2⟩ : ∃ w2, wr.alloc (.cells (madeCells (Value.bool false).cells i) 4) = w2 := ⟨_, rfl⟩
        rw [hw2] at H2
        have hmk1 := hmk wr
        rw [hw2] at hmk1
        generalize wr.heap.size = x at hmk1 H2
        clear hmk hw2 H1
        have HC0 := Lib.hid (cold_start i)
        go_wp2_with fail
        go_loopw [10, 11] (fun s10 s11 wx => ∃ (j y : Nat) (T : Nat → Bool), j ≤ len ∧ y ≤ i ∧ s10 = .int .i64 y ∧ s11 = .int .i64 j ∧ Hid (y = cnt (coldT T) i) ∧ Hid (TcB W wx c x i (tI i T) 0 T)) (fun _ s11 _ => len - (intOf s11).toNat)
        case atStart => exact ⟨0, i, _, by omega, by omega, rfl, rfl, Lib.hid HC0.out.symm, H2⟩
        case round =>
          clear H2 HC0
          obtain ⟨j, y, T, hj, hy, rfl, rfl, HC, H2⟩ := hrel
          by_cases hlt : j < len
          · have hlt' : (j : Int) < len := by omega
            obtain ⟨bl, off, q, rfl, c0, hq⟩ := HD.out wr H2.out.ck.bl j hlt
            obtain ⟨p, hp, hpk⟩ := at_ex q i hk1
            have hpk' : (p : Int) < i := by omega
            have HT1 := Lib.hid (HT.out c x wr T p hpk H2.out)
            clear H2
            go_wp2_with fail
            refine HT1.out.mono ?_
            rintro e w3 ⟨rfl, a3⟩
            have H3 := Lib.hid a3
            obtain ⟨cb, fb⟩ := a3.row p hpk
            have H4 := Lib.hid (a3.set hpk true)
            clear a3 HT1 c0
            cases hTp : T p with
            | true =>
              rw [hTp] at cb
              have hu := upd_true hTp
              have H5 : Hid (TcB W (w3.setCell ⟨x, p, none⟩ (.bool true)) c x i (tI i T) 0 T) := by
                have := H4.out
                rw [hu] at this
                exact this
              clear H4 H3 hTp hu
              go_wp2_with fail
              go_roundw
              case rel => exact ⟨j + 1, y, T, by omega, by omega, rfl, by go_num, HC, H5⟩
              case measure => simp [intOf]; omega
            | false =>
              rw [hTp] at cb
              have hcl := cold_less hpk hTp
              rw [← HC.out] at hcl
              obtain ⟨z, hz⟩ : ∃ z, cnt (coldT (upd T p true)) i = z := ⟨_, rfl⟩
              rw [hz] at hcl
              subst hcl
              have HZ := Lib.hid hz.symm
              clear H3 hTp hz HC
              go_wp2_with fail
              go_roundw
              case rel => exact ⟨j + 1, z, _, by omega, by omega, by go_num, by go_num, HZ, H4⟩
              case measure => simp [intOf]; omega
          · obtain rfl : j = len := by omega
            clear hlt HD HT
            have HL : Hid (TcL W wr c x i T y) := by
              rw [HC.out]
              exact TcL.start H2.out
            clear HC H2
            go_wp2_with fail
            go_loopw [13] (fun s13 wx => ∃ m left : Nat, m + left = y ∧ s13 = .int .i64 m ∧ Hid (TcL W wx c x i T left)) (fun s13 _ => y - (intOf s13).toNat)
            case atStart => exact ⟨0, y, by omega, rfl, HL⟩
            case round =>
              clear HL
              obtain ⟨m, left, hm, rfl, HL⟩ := hrel
              by_cases hlt : m < y
              · have hlt' : (m : Int) < y := by omega
                obtain ⟨left, rfl⟩ : ∃ l, left = l + 1 := ⟨left - 1, by omega⟩
                have HV := Lib.hid (TcL.vic HL.out)
                clear HL
                go_wp2_with fail
                refine HV.out.mono ?_
                rintro e w3 ⟨v, rfl, hv, hTv, hrow, hin⟩
                have cv := (hrow v hv).1
                rw [hTv] at cv
                have HIn := Lib.hid hin
                have hv' : (v : Int) < i := by omega
                clear hTv hrow hin HV
                go_wp2_with fail
                refine HIn.out.mono ?_
                rintro e w4 ⟨rfl, a4⟩
                have H4 := Lib.hid a4
                clear a4 HIn cv
                go_wp2_with fail
                go_roundw
                case rel => exact ⟨m + 1, left, by omega, by go_num, H4⟩
                case measure => simp [intOf]; omega
              · obtain rfl : m = y := by omega
                obtain ⟨E, h, _, a, _⟩ := HL.out.ex
                have HE := Lib.hid (tc_end (by omega) a.ck)
                clear HL a hlt
                go_wp2_with fail
                refine HE.out.mono ?_
                rintro e w5 ⟨rfl, a5⟩
                have H5 := Lib.hid a5
                clear a5 HE
                go_wp2_with fail
                obtain ⟨E5, H5⟩ := H5.out
                have H5 := Lib.hid H5
                refine (H5.out w5 (Below.refl _ _)).2.2.mono ?_
                rintro e w6 ⟨rfl, b6⟩
                obtain ⟨a6, c6, _⟩ := H5.out w6 b6
                have H6 := Lib.hid a6
                clear H5 a6 b6
                go_wp2_with fail
                refine (HK.out _).mono ?_
                rintro e w7 ⟨rfl, b7⟩
                have B7 := Lib.hid (H6.out.fresh b7)
                clear b7
                go_wp2_with fail
                go_ret
                exact ⟨rfl, B7.out.bl⟩
end Go.Proofs.Ytechbageefmclaa
