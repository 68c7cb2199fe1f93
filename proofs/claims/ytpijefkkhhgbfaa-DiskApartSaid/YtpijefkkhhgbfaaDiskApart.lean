/- Proved: for all bytes n and at, every row of bytes b and every row of things to do the law DiskApart returns true: what is written in one sector is read there, with noughts behind, and all others are as they were. No condition. -/
import Derived.Test.YtpijefkkhhgbfaaDo
import Derived.Deep.RegionHeld3
namespace Go.Proofs.Ytpijefkkhhgbfaa.diskApart
open Go.ChangeShapes Go.WideShapes Go.ChangeAt Go.RowKit

theorem next_le (r : Nat) (E k : Int) : nextR r E k ≤ r + 1 := by unfold nextR; split <;> omega
theorem next_le' (c : Nat) (E k : Int) : nextC c E k ≤ c + 1 := by unfold nextC; split <;> omega

def LoopInv (m x n k : Nat) (w1 wr : World) : Prop := ∃ r c D, r ≤ k ∧ c ≤ k ∧ DiskAt wr m x n r c D ∧ Only (dk m x) w1 wr
/-- The sectors that were read one by one. -/
def WasInv (m x n r c B j : Nat) (D : Nat → Int) (w2 : World) (v : Value) (wr : World) : Prop :=
  DiskAt wr m x n (r + j) c D ∧ (∃ vs : List Value, vs.length = j ∧ wr.ownsRow B 30 1 v j vs ∧ ∀ t u, vs[t]? = some u → wr.ownsRow B 5 1 u 64 ((sec D t).map (Value.int .u8))) ∧ Only (dk m x) w2 wr
def ReadInv (m x n r c j : Nat) (D : Nat → Int) (w5 wr : World) : Prop := DiskAt wr m x n (r + j) c D ∧ Only (dk m x) w5 wr

theorem was_step {m x n r c B j : Nat} {D : Nat → Int} {w2 wr w3 : World} {v : Value} {g cp : Nat} (o : Obj) (hB : B = w2.heap.size)
    (hvs : ∃ vs : List Value, vs.length = j ∧ wr.ownsRow B 30 1 v j vs ∧ ∀ t u, vs[t]? = some u → wr.ownsRow B 5 1 u 64 ((sec D t).map (Value.int .u8)))
    (h1 : m < B) (h2 : x < B) (o2 : Only (dk m x) w2 wr) (hown : w3.ownsRow wr.heap.size 5 1 (.slice (some ⟨g, 0, none⟩) 64 cp) 64 ((sec D j).map (Value.int .u8))) (d3 : DiskAt w3 m x n (r + j + 1) c D) (o3 : Only (· = m) wr w3) :
    ∃ vs : List Value, vs.length = j ∧ (w3.alloc o).ownsRow B 30 1 v j vs ∧ (∀ w4 v', (w3.alloc o).grownBy w4 v.ownBlock → w4.ownsRow B 30 1 v' (j + 1) (vs ++ [.slice (some ⟨g, 0, none⟩) 64 cp]) → WasInv m x n r c B (j + 1) D w2 v' w4) := by
  obtain ⟨vs, hl, hv, hr⟩ := hvs
  have hz := o2.size
  have hz3 := o3.size
  have a3 : Only (· = m) wr (w3.alloc o) := o3.alloc o
  have hv3 : (w3.alloc o).ownsRow B 30 1 v j vs := own_only hv a3 (fun b h e => by omega)
  refine ⟨vs, hl, hv3, fun w4 v' hg hv4 => ?_⟩
  have hgo : ∀ q, v.ownBlock = some q → B ≤ q := fun q hq => (hv3.lt q hq).1
  have hty : ∀ q (u : Value) (xs : List Value), (w3.alloc o).ownsRow B 5 1 u 64 xs → u.ownBlock = some q → some q ≠ v.ownBlock := by
    intro q u xs hu hq he
    rcases hu.2 with ⟨rfl, h0⟩ | ⟨q', cap, cur, rfl, _, hq', _⟩
    · cases h0
    · rcases hv3.2 with ⟨rfl, _⟩ | ⟨q'', cap', cur', rfl, _, hq'', _⟩
      · simp [Value.ownBlock] at he
      · simp [Value.ownBlock] at he hq
        subst hq he
        rw [hq'] at hq''
        injection hq'' with hq''
        injection hq'' with _ e
        cases e
  have hrow : ∀ (u : Value) (xs : List Value), (w3.alloc o).ownsRow B 5 1 u 64 xs → w4.ownsRow B 5 1 u 64 xs := fun u xs hu =>
    hu.kept (row := v.ownBlock) hg (by
      cases hq : u.ownBlock with
      | none => simp
      | some q => exact .inr (hty q u xs hu hq))
  refine ⟨d3.only (F := fun b => B ≤ b) ((Only.refl _ _).alloc o |>.grown hg (fun k hk => .inl (hgo k hk))) (by omega) (by omega), ⟨_, by simp [hl], hv4, fun t u hu => ?_⟩, ?_⟩
  · by_cases ht : t < vs.length
    · rw [List.getElem?_append_left ht] at hu
      exact hrow u _ (own_only (hr t u hu) a3 (fun b h e => by omega))
    · rw [List.getElem?_append_right (by omega)] at hu
      have ht0 : t - vs.length = 0 := by
        by_cases h0 : t - vs.length = 0
        · exact h0
        · rw [List.getElem?_eq_none (by simp; omega)] at hu; cases hu
      rw [ht0] at hu
      simp at hu
      subst hu
      have : t = j := by omega
      subst this
      exact hrow _ _ (own_only (own_lower hown (by omega)) ((Only.refl (fun _ => False) w3).alloc o) (fun _ _ h => h))
  · exact (o2.then_ (a3.mono (G := dk m x) (fun _ _ h => .inl h)) (fun _ _ h => h)).grown hg (fun k hk => .inr (by rw [← hB]; exact hgo k hk))

theorem bts_drop {N : Nat → Prop} {w : World} {g cp n : Nat} {xs : List Int} (h : Bts N w (.slice (some ⟨g, 0, none⟩) n cp) xs) (k : Nat) (hk : k ≤ xs.length) : Bts N w (.slice (some ⟨g, k, none⟩) (n - k) (cp - k)) (xs.drop k) := by
  obtain ⟨a, c, he, hc, h⟩ := h
  injection he with e1 e2 e3
  subst e1 e3
  rw [List.length_map] at hc e2
  refine ⟨_, cp - k, by rw [List.length_map, List.length_drop, e2], by rw [List.length_map, List.length_drop]; omega, ?_⟩
  rcases h with h | ⟨b, off, ha, hb, h⟩
  · left
    rw [List.map_eq_nil_iff] at h
    rw [h]; simp
  · injection ha with ha
    injection ha with e4 e5
    subst e4 e5
    refine .inr ⟨g, k, rfl, hb, fun j u hu => ?_⟩
    have := h (k + j) u (by rw [List.getElem?_map] at hu ⊢; rw [List.getElem?_drop] at hu; exact hu)
    rwa [Nat.zero_add] at this
theorem pad_drop (bs : List Int) : (pad bs).drop bs.length = List.replicate (64 - bs.length) 0 := by simp [pad]
theorem only_heap {F : Nat → Prop} {a w w' : World} (h : Only F a w) (e : w'.heap = w.heap) (e1 : w'.os = w.os) (e2 : w'.tape = w.tape) (e3 : w'.output = w.output) : Only F a w' :=
  ⟨e1.trans h.os, e2.trans h.tape, e3.trans h.output, by rw [e]; exact h.size, fun k hk hx => by rw [e]; exact h.block k hk hx⟩
theorem two_ints {N : Nat → Prop} (w : World) (i j : Int) (h : N w.heap.size) : Ints N (w.alloc (.cells #[.int .i64 i, .int .i64 j] 3)) (.slice (some ⟨w.heap.size, 0, none⟩) 2 2) [i, j] := by
  refine ⟨_, 2, rfl, by simp, .inr ⟨_, 0, rfl, h, fun t u hu => ?_⟩⟩
  rw [World.cell?_alloc_at _ _ _ _ rfl]
  match t, hu with
  | 0, hu => simpa using hu
  | 1, hu => simpa using hu
  | t + 2, hu => simp at hu
theorem clear_two_no (m x n r c : Nat) (D : Nat → Int) (i : Nat) (w : World) (h : DiskAt w m x n r c D) :
    Calls Try.prog 21 #[.pointer (some ⟨m, 0, none⟩), .slice (some ⟨w.heap.size, 0, none⟩) 2 2] (w.alloc (.cells #[.int .i64 i, .int .i64 (-1)] 3)) fun e w' => e = .returned (.int .i64 4) ∧ Below w.heap.size w w' :=
  (clear_no (N := fun _ => True) m x n r c D _ [(i : Int), -1] _ (h.fresh ((Below.refl _ _).alloc (Nat.le_refl _) _)) (two_ints w _ _ trivial) (by simp) (by simp [inB])).mono
    fun e w' ⟨he, hw⟩ => ⟨he, by rw [← hw]; exact (Below.refl _ _).alloc (Nat.le_refl _) _⟩
theorem clear_two (m x n r c : Nat) (D : Nat → Int) (i : Nat) (w : World) (h : DiskAt w m x n r c D) (hi : i < n) :
    Calls Try.prog 21 #[.pointer (some ⟨m, 0, none⟩), .slice (some ⟨w.heap.size, 0, none⟩) 2 2] (w.alloc (.cells #[.int .i64 i, .int .i64 i] 3)) fun e w' => e = .returned (.int .i64 0) ∧ DiskAt w' m x n r c (put (put D i []) i []) ∧ Only (dk m x) w w' := by
  have h1 := h.mlt
  have h2 := h.xlt
  refine (clear_yes (N := fun b => b = w.heap.size) m x n r c D _ [(i : Int), i] _ (h.fresh ((Below.refl _ _).alloc (Nat.le_refl _) _)) (two_ints w _ _ rfl) (fun b h1 h2 => by rcases h2 with h2 | h2 <;> omega) (by simp) (by simp [inB, hi])).mono fun e w' ⟨he, hd, ho⟩ => ⟨he, hd, ?_⟩
  exact ((Only.refl _ _).alloc _).trans ho
theorem was_form {B n : Nat} {w : World} {v : Value} {vs : List Value} {D : Nat → Int} (hv : Vals (B ≤ ·) w v vs) (hl : vs.length = n) (h0 : 0 < n) (hr : ∀ t u, vs[t]? = some u → Bts (B ≤ ·) w u (sec D t)) :
    ∃ b off cc, v = .slice (some ⟨b, off, none⟩) n cc ∧ ∀ (F : Nat → Prop) (w' : World), Only F w w' → (∀ q, B ≤ q → ¬ F q) → ∀ t, t < n → ∃ a c, w'.cell? ⟨b, off + t, none⟩ = some (.slice a 64 c) ∧ Bts (B ≤ ·) w' (.slice a 64 c) (sec D t) := by
  obtain ⟨a, c, rfl, _, h⟩ := hv
  rcases h with h | ⟨b, off, rfl, hb, h⟩
  · subst h; simp at hl; omega
  · rw [hl]
    refine ⟨b, off, c, rfl, fun F w' ho hF t ht => ?_⟩
    have hu := List.getElem?_eq_getElem (l := vs) (i := t) (by omega)
    have hbt := hr t _ hu
    have hct := h t _ hu
    obtain ⟨a', c', he, _⟩ := hbt.form
    rw [he, sec_len] at hbt hct
    exact ⟨a', c', (ho.cell (p := ⟨b, off + t, none⟩) (World.block_lt_of_cell? _ _ hct) (hF b hb)).trans hct, hbt.only ho hF⟩

theorem Try.info30 : (Try.prog.info? 30).map (fun i => (i.zero, i.size, i.bytes)) = some (some (.slice none 0 0), 1, 24) := by kernel_rfl

set_option maxHeartbeats 4000000 in
set_option maxRecDepth 1000000 in
theorem walk_big (w : World) (n : Nat) (a1 : Int) (v2 : Value) (x2 : List Int) (hb2 : ArgB w v2 x2) (v3 : Value) (x3 : Nat) (hb3 : Dos w v3 x3) (h : n = 0 ∨ 40 < x3 ∨ 64 < x2.length) :
    Calls Try.prog 4 #[.int .u8 n, .int .u8 a1, v2, v3] w fun e w' => e = .returned (.bool true) ∧ Below w.heap.size w w' := by
  obtain ⟨a2, c2, rfl, _⟩ := hb2.1.form
  have m2 := hb2.2.2
  obtain ⟨a3, c3, rfl, m3, _⟩ := hb3
  unfold maxLen at m2 m3
  have HK := Lib.hid (known_true w)
  clear hb2
  by_cases h1 : n = 0
  · subst h1
    clear h
    go_enter Try.func4, Try.ntmps4
    go_wp2_with (go_at_call 8; refine HK.out.mono ?_; rintro e w1 ⟨rfl, hb⟩)
    go_ret
    exact ⟨rfl, hb⟩
  · have h1' : ((n : Int) == 0) = false := by simpa using h1
    by_cases h2 : 40 < x3
    · have h2' : (40 : Int) < x3 := by omega
      clear h h1
      go_enter Try.func4, Try.ntmps4
      go_wp2_with (go_at_call 8; refine HK.out.mono ?_; rintro e w1 ⟨rfl, hb⟩)
      go_ret
      exact ⟨rfl, hb⟩
    · have h2' : ¬ (40 : Int) < x3 := by omega
      have h3' : (64 : Int) < x2.length := by omega
      clear h h1
      go_enter Try.func4, Try.ntmps4
      go_wp2_with (go_at_call 8; refine HK.out.mono ?_; rintro e w1 ⟨rfl, hb⟩)
      go_ret
      exact ⟨rfl, hb⟩

set_option maxHeartbeats 8000000 in
set_option maxRecDepth 1000000 in
theorem walk_small (w : World) (n at' : Nat) (v2 : Value) (x2 : List Int) (hb2 : ArgB w v2 x2) (v3 : Value) (x3 : Nat) (hb3 : Dos w v3 x3) (h0 : 0 < n) (hn : n ≤ 255) (hat : at' ≤ 255) (h3 : x3 ≤ 40) (h2 : x2.length ≤ 64) :
    Calls Try.prog 4 #[.int .u8 n, .int .u8 at', v2, v3] w fun e w' => e = .returned (.bool true) ∧ Below w.heap.size w w' := by
  obtain ⟨i30, hi30, hz30, hz31, hz32⟩ := info_parts Try.info30
  have A2 := Lib.hid hb2
  have A3 := Lib.hid hb3
  obtain ⟨a2, c2, rfl, _⟩ := hb2.1.form
  obtain ⟨a3, c3, rfl, _, _⟩ := hb3
  clear hb2
  have h0' : ((n : Int) == 0) = false := by rw [beq_eq_false_iff_ne]; omega
  have h2' : ¬ (64 : Int) < x2.length := by omega
  have h3' : ¬ (40 : Int) < x3 := by omega
  have HN := Lib.hid (new_yes n w (by omega))
  obtain ⟨m, hm⟩ : ∃ m, w.heap.size + 1 = m := ⟨_, rfl⟩
  obtain ⟨x, hx⟩ : ∃ x, w.heap.size = x := ⟨_, rfl⟩
  have HX : Hid (w.heap.size = x ∧ x ≤ m) := ⟨hx, by omega⟩
  rw [hm, hx] at HN
  clear hm hx
  have S : Hid (∀ i, i < x → ¬ dk m x i) := fun i hi h => by have := HX.out; rcases h with h | h <;> omega
  go_enter Try.func4, Try.ntmps4
  go_wp2_with fail
  refine HN.out.mono ?_
  rintro e w1 ⟨rfl, d1, b1⟩
  have D1 := Lib.hid d1
  have B1 : Hid (Below x w w1) := b1
  have hx1 := d1.xlt
  clear d1 b1 HN
  go_wp2_with fail
  go_loopw [11] (fun i wr => ∃ k : Nat, k ≤ x3 ∧ i = .int .i64 k ∧ LoopInv m x n k w1 wr) (fun i _ => x3 - (intOf i).toNat)
  case atStart => exact ⟨0, Nat.zero_le _, rfl, 0, 0, _, Nat.le_refl _, Nat.le_refl _, D1.out, Only.refl _ _⟩
  case round =>
    obtain ⟨k, hk, rfl, r, c, D, hr, hc, d2, o2⟩ := hrel
    have D2 := Lib.hid d2
    have O2 := Lib.hid o2
    have B2 : Hid (Below x w wr) := B1.out.trans (o2.below S.out (Nat.le_of_lt hx1))
    clear d2 o2
    by_cases hlt : k < x3
    · obtain ⟨b, off, c', he, q, f, ba, bc, bs, wq, wf, hbs, hby, hbl, c1, c2', c3'⟩ := A3.out.at_ hlt (by rw [HX.out.1]; exact B2.out)
      injection he with e1 e2 e3
      subst e1 e3
      have HO := Lib.hid (done_any m x n r c D q f _ bs wr D2.out (by omega) (by omega) hbs hby hbl)
      have hlt' : (k : Int) < x3 := by omega
      clear e2 wq wf hbs hby hbl
      go_wp2_with fail
      refine HO.out.mono ?_
      rintro e w2 ⟨v, rfl, _, d3, o3⟩
      have n1 := next_le r (toldE n q f bs) q
      have n2 := next_le' c (toldE n q f bs) q
      have R : Hid (LoopInv m x n (k + 1) w1 w2) := ⟨_, _, _, by omega, by omega, d3, O2.out.trans o3⟩
      generalize toldE n q f bs = E
      clear d3 o3 n1 n2 HO
      go_wp2_with fail
      go_roundw
      case rel => exact ⟨k + 1, by omega, by go_num, R.out⟩
      case measure => simp [intOf]; omega
    · have hr' : r ≤ 40 := by omega
      have hc' : c ≤ 40 := by omega
      clear hr hc
      obtain ⟨w2, hw2⟩ : ∃ w2, w2 = wr := ⟨_, rfl⟩
      have hm2 := D2.out.mlt
      have hx2 := D2.out.xlt
      obtain ⟨B, hB⟩ : ∃ B, B = wr.heap.size := ⟨_, rfl⟩
      have HB := Lib.hid hB
      rw [← hB] at hm2 hx2
      clear hw2 w2 hB
      go_wp2_with fail
      generalize wr = w2 at *
      go_loopw [12, 13] (fun v i wr => ∃ j : Nat, j ≤ n ∧ i = .int .i64 j ∧ WasInv m x n r c B j D w2 v wr) (fun _ i _ => n - (intOf i).toNat)
      case atStart => exact ⟨0, Nat.zero_le _, rfl, D2.out, ⟨[], rfl, World.ownsRow_nil _ _ _ _, fun t u h => by simp at h⟩, Only.refl _ _⟩
      case round =>
        obtain ⟨j, hj, rfl, d4, vs4, o4⟩ := hrel
        have D4 := Lib.hid d4
        have O4 := Lib.hid o4
        have V4 := Lib.hid vs4
        clear d4 o4 vs4
        by_cases hlj : j < n
        · have hlj' : (j : Int) < n := by omega
          have HR := Lib.hid (read_yes m x n (r + j) c D j wr D4.out hlj (by omega))
          go_wp2_with fail
          refine HR.out.mono ?_
          rintro e w3 ⟨g, cp, rfl, hown, d5, o5⟩
          obtain ⟨vs, hvl, hv5, hstep⟩ := was_step (.cells #[.slice (some ⟨g, 0, none⟩) 64 cp] 30) HB.out V4.out hm2 hx2 O4.out hown d5 o5
          have HS := Lib.hid hstep
          have hB3 : B ≤ w3.heap.size := by have := HB.out; have := O4.out.size; have := o5.size; omega
          have hvl' : Hid (vs.length = j) := hvl
          clear hstep hown d5 o5 HR hvl
          go_wp2_with (at_builtin; refine wpList_append_own _ rfl _ _ 28 rfl B 30 i30 (.slice none 0 0) 1 24 Try.underlying28 hi30 hz30 hz31 hz32 rfl (by decide) _ _ _ rfl hv5 ⟨w3.heap.size, 0, none⟩ 1 1 [.slice (some ⟨g, 0, none⟩) 64 cp] rfl rfl ?c1 ?c2 ?c3 ?c4 ?c5 ?_)
          case c1 =>
            intro t u ht
            match t, ht with
            | 0, ht => simp at ht; subst ht; simp [Addr.add]
          case c2 => intro u hu; simp at hu; subst hu; rfl
          case c3 => unfold maxLen; omega
          case c4 => omega
          case c5 => simp; omega
          intro v' w4 hown' hgrow _
          have R := Lib.hid (HS.out w4 v' hgrow hown')
          clear hown' hgrow hv5
          go_wp2_with fail
          go_roundw
          case rel => exact ⟨j + 1, by omega, by go_num, R.out⟩
          case measure => simp [intOf]; omega
        · obtain rfl : n = j := by omega
          obtain ⟨vs, hvl, hvo, hvr⟩ := V4.out
          have VS : Hid (Vals (B ≤ ·) wr u12 vs) := Vals.of_own (by rw [hvl]; exact hvo)
          have VR : Hid (∀ t u, vs[t]? = some u → Bts (B ≤ ·) wr u (sec D t)) := fun t u hu => Vals.of_own (by rw [List.length_map, sec_len]; exact hvr t u hu)
          obtain ⟨vb, vo, vc, rfl, hwas⟩ := was_form VS.out hvl h0 VR.out
          have WAS := Lib.hid (hwas (dk m x))
          have ND : Hid (∀ q, B ≤ q → ¬ dk m x q) := fun q h1 h2 => by rcases h2 with h2 | h2 <;> omega
          clear hwas
          have B4 : Hid (Below x w wr) := B2.out.trans (O4.out.below S.out (by have := HB.out; omega))
          clear hvl hvo hvr V4 VS VR
          obtain ⟨i, hi⟩ : ∃ i, i = at' % n := ⟨_, rfl⟩
          have hin : i < n := by rw [hi]; exact Nat.mod_lt _ h0
          have m1 : (at' : Int) % n = i := by omega
          have m2 : (at' : Int).tmod n = i := by rw [Int.tmod_eq_emod_of_nonneg (by omega)]; exact m1
          have hat' : (at' : Int) ≤ 255 := by omega
          have K : Hid (∀ w', Below x w w' → Bts (· < w.heap.size) w' (.slice a2 x2.length c2) x2) := fun w' hb => A2.out.1.only (Only.of_below (F := fun _ => False) (by rw [HX.out.1]; exact hb)) (fun _ _ h => h)
          have HW := Lib.hid (write_yes m x n (r + n) c D i _ x2 wr D4.out hin (by omega) (K.out wr B4.out) A2.out.2.1 h2)
          clear hi
          go_wp2_with fail
          refine HW.out.mono ?_
          rintro e w5 ⟨rfl, d5, o5⟩
          have D5 := Lib.hid d5
          have O5 := Lib.hid o5
          have B5 : Hid (Below x w w5) := B4.out.trans (o5.below S.out (by have := HB.out; have := O4.out.size; omega))
          clear d5 o5 HW m1 m2
          go_wp2_with fail
          refine (write_none m x n (r + n) (c + 1) _ n _ w5 D5.out (by omega)).mono ?_
          rintro e w6 ⟨rfl, b6⟩
          have D6 := Lib.hid (D5.out.fresh b6)
          have O6 : Hid (Only (dk m x) wr w6) := O5.out.then_ (Only.of_below (F := fun _ => False) b6) (fun _ _ h => h.elim)
          have B6 : Hid (Below x w w6) := B5.out.trans (b6.mono (Nat.le_of_lt D5.out.xlt))
          clear b6 D5 O5 B5
          go_wp2_with fail
          refine (clear_two_no m x n (r + n) (c + 1) _ i w6 D6.out).mono ?_
          rintro e w7 ⟨rfl, b7⟩
          have D7 := Lib.hid (D6.out.fresh b7)
          have O7 : Hid (Only (dk m x) wr w7) := O6.out.then_ (Only.of_below (F := fun _ => False) b7) (fun _ _ h => h.elim)
          have B7 : Hid (Below x w w7) := B6.out.trans (b7.mono (Nat.le_of_lt D6.out.xlt))
          clear b7 D6 O6 B6
          go_wp2_with fail
          generalize wr = w4 at *
          go_loopw [20] (fun i' wr => ∃ j : Nat, j ≤ n ∧ i' = .int .i64 j ∧ ReadInv m x n (r + n) (c + 1) j (put D i x2) w7 wr) (fun i' _ => n - (intOf i').toNat)
          case atStart => exact ⟨0, Nat.zero_le _, rfl, D7.out, Only.refl _ _⟩
          case round =>
            obtain ⟨j, hj', rfl, d8, o8⟩ := hrel
            have D8 := Lib.hid d8
            have O8 : Hid (Only (dk m x) w7 wr) := o8
            have B8 : Hid (Below x w wr) := B7.out.trans (o8.below S.out (Nat.le_of_lt D7.out.xlt))
            clear d8 o8
            by_cases hlj : j < n
            · have hlj' : (j : Int) < n := by omega
              have HR := Lib.hid (read_yes m x n (r + n + j) (c + 1) _ j wr D8.out hlj (by omega))
              go_wp2_with fail
              refine HR.out.mono ?_
              rintro e w9 ⟨g, cp, rfl, hown, d9, o9⟩
              have R : Hid (ReadInv m x n (r + n) (c + 1) (j + 1) (put D i x2) w7 w9) := ⟨d9, O8.out.then_ o9 (fun _ _ h => .inl h)⟩
              have V9 : Hid (Bts (fun _ => True) w9 (.slice (some ⟨g, 0, none⟩) 64 cp) (sec (put D i x2) j)) := (Vals.of_own (by rw [List.length_map, sec_len]; exact hown)).kind (fun _ _ _ => trivial)
              have hcp : 64 ≤ cp := by
                rcases hown.2 with ⟨he, _⟩ | ⟨g', cap, cur, he, _, _, hn, _⟩
                · cases he
                · injection he with e1 e2 e3
                  omega
              have O9 : Hid (Only (dk m x) w4 w9) := (O7.out.trans O8.out).then_ o9 (fun _ _ h => .inl h)
              have B9 : Hid (Below x w w9) := B8.out.trans (o9.below (fun q hq h => by have := HX.out; omega) (Nat.le_of_lt D8.out.xlt))
              clear hown d9 o9 HR
              by_cases hji : j = i
              · obtain rfl : i = j := hji.symm
                clear hji
                have v9 := V9.out
                rw [sec_put D i x2 h2] at v9
                have VT := bts_take v9 x2.length (by rw [pad_len _ h2]; exact h2)
                rw [pad_take] at VT
                have VD := bts_drop v9 x2.length (by rw [pad_len _ h2]; exact h2)
                rw [pad_drop] at VD
                have VB := Lib.hid (K.out w9 B9.out)
                have VT := Lib.hid VT
                have VD := Lib.hid VD
                have hmk : ∀ W : World, (Instr.makeSlice 30 (.int .i64 (64 - (x2.length : Int))) (.int .i64 (64 - (x2.length : Int)))).run Try.prog W = .ok (.slice (some ⟨W.heap.size, 0, none⟩) (64 - x2.length) (64 - x2.length)) (W.alloc (.cells (madeCells (Value.int .u8 0).cells (64 - x2.length)) 5)) := fun W => by
                  have := mk_bytes W (64 - x2.length) (by omega)
                  rwa [show ((64 - x2.length : Nat) : Int) = 64 - (x2.length : Int) by omega] at this
                have q1 : IntKind.i64.wrap (64 - (x2.length : Int)) = 64 - (x2.length : Int) := by rw [IntKind.wrap_i64]; omega
                have q2 : ((x2.length : Nat) : Int) ≤ cp := by omega
                have q3 : x2.length ≤ cp := by omega
                have q4 : (x2.length : Int) ≤ 64 := by omega
                have e1 : ((i : Int) == (i : Int)) = true := by simp
                clear v9 V9
                go_wp2_with fail
                by_cases hcap : cp = x2.length
                · subst hcap
                  have VD2 : Hid (∀ (W : World) (q : Nat), Bts (fun _ => True) W (.slice (some ⟨q, 0, none⟩) 0 0) []) := fun W q => ⟨_, 0, rfl, Nat.le_refl _, .inl rfl⟩
                  go_region_held3 (fun _ => True) (trivial) (first | (go_at_call 13; ((with_reducible refine (same_eq (N := fun _ => True) (M := (· < w.heap.size)) (.slice (some ⟨g, 0, none⟩) x2.length x2.length) (.slice a2 x2.length c2) x2 _ ?_ ?_).mono ?_); (exact Bts.heap VT.out rfl); (exact Bts.heap VB.out rfl); rintro e w10 ⟨rfl, rfl⟩)) | (go_at_call 13; ((with_reducible refine (same_eq (N := fun _ => True) (M := fun _ => True) (.slice (some ⟨g, 0, none⟩) 0 0) (.slice (some ⟨w9.heap.size, 0, none⟩) 0 0) [] _ ?_ ?_).mono ?_); (exact VD2.out _ _); (exact VD2.out _ _); rintro e w11 ⟨rfl, rfl⟩)))
                  go_wp2_with fail
                  go_roundw
                  case rel => exact ⟨i + 1, by omega, by go_num, (R.out.1.fresh ((Below.refl _ _).alloc (Nat.le_refl _) _)).heap rfl, only_heap (R.out.2.alloc (.cells (madeCells (Value.int .u8 0).cells 0) 5)) rfl rfl rfl rfl⟩
                  case measure => simp [intOf]; omega
                · have VD2 : Hid (∀ o, Bts (fun _ => True) (w9.alloc o) (.slice (some ⟨g, x2.length, none⟩) (64 - x2.length) (cp - x2.length)) (List.replicate (64 - x2.length) 0)) := fun o => VD.out.only ((Only.refl (fun _ => False) w9).alloc o) (fun _ _ h => h)
                  have VZ := Lib.hid (zeros_made w9 (64 - x2.length))
                  go_region_held3 (fun _ => True) (trivial) (first | (go_at_call 13; ((with_reducible refine (same_eq (N := fun _ => True) (M := (· < w.heap.size)) (.slice (some ⟨g, 0, none⟩) x2.length cp) (.slice a2 x2.length c2) x2 _ ?_ ?_).mono ?_); (exact Bts.heap VT.out rfl); (exact Bts.heap VB.out rfl); rintro e w10 ⟨rfl, rfl⟩)) | (go_at_call 13; ((with_reducible refine (same_eq (N := fun _ => True) (M := fun b => b = w9.heap.size) (.slice (some ⟨g, x2.length, none⟩) (64 - x2.length) (cp - x2.length)) (.slice (some ⟨w9.heap.size, 0, none⟩) (64 - x2.length) (64 - x2.length)) (List.replicate (64 - x2.length) 0) _ ?_ ?_).mono ?_); (exact Bts.heap (VD2.out _) rfl); (exact Bts.heap VZ.out rfl); rintro e w11 ⟨rfl, rfl⟩)))
                  go_wp2_with fail
                  go_roundw
                  case rel => exact ⟨i + 1, by omega, by go_num, (R.out.1.fresh ((Below.refl _ _).alloc (Nat.le_refl _) _)).heap rfl, only_heap (R.out.2.alloc (.cells (madeCells (Value.int .u8 0).cells (64 - x2.length)) 5)) rfl rfl rfl rfl⟩
                  case measure => simp [intOf]; omega
              · obtain ⟨ra, rc, hcell, hbts⟩ := WAS.out w9 O9.out ND.out j hlj
                rw [← sec_put_other D i j x2 hji] at hbts
                have HS := Lib.hid (same_eq _ _ _ w9 V9.out hbts)
                have e1 : ((j : Int) != (i : Int)) = true := by simp; omega
                have e2 : ((j : Int) == (i : Int)) = false := by simp; omega
                have e3 : (j != i) = true := by simp; omega
                have e4 : (j == i) = false := by simp; omega
                clear hbts V9
                go_wp2_with fail
                refine HS.out.mono ?_
                rintro e w10 ⟨rfl, rfl⟩
                go_wp2_with fail
                go_quiet (fail)
                go_wp2_with fail
                go_roundw
                case rel => exact ⟨j + 1, by omega, by go_num, R.out.1.heap rfl, R.out.2.drewN _⟩
                case measure => simp [intOf]; omega
            · obtain rfl : n = j := by omega
              have HC := Lib.hid (clear_two m x n (r + n + n) (c + 1) _ i wr D8.out hin)
              go_wp2_with fail
              refine HC.out.mono ?_
              rintro e w9 ⟨rfl, d9, o9⟩
              have D9 := Lib.hid d9
              have B9 : Hid (Below x w w9) := B8.out.trans (o9.below S.out (Nat.le_of_lt D8.out.xlt))
              have HR := Lib.hid (read_yes m x n (r + n + n) (c + 1) _ i w9 d9 hin (by omega))
              clear d9 o9 HC
              go_wp2_with fail
              refine HR.out.mono ?_
              rintro e w10 ⟨g, cp, rfl, hown, d10, o10⟩
              rw [sec_put _ i [] (by simp), pad_nil] at hown
              have V10 : Hid (Bts (fun _ => True) w10 (.slice (some ⟨g, 0, none⟩) 64 cp) (List.replicate 64 0)) := (Vals.of_own (by simpa using hown)).kind (fun _ _ _ => trivial)
              have B10 : Hid (Below x w w10) := B9.out.trans (o10.below (fun q hq h => by have := HX.out; omega) (Nat.le_of_lt D9.out.xlt))
              have Z10 : Hid (x ≤ w10.heap.size) := Nat.le_of_lt d10.xlt
              clear hown d10 o10 HR
              have hmk := mk_bytes w10 64 (by omega)
              have hb11 : Below w10.heap.size w10 (w10.alloc (.cells (madeCells (Value.int .u8 0).cells 64) 5)) := (Below.refl _ _).alloc (Nat.le_refl _) _
              have hz := zeros_made w10 64
              obtain ⟨z, hz0⟩ : ∃ z, z = w10.heap.size := ⟨_, rfl⟩
              rw [← hz0] at hmk hz
              generalize w10.alloc (.cells (madeCells (Value.int .u8 0).cells 64) 5) = w11 at hmk hb11 hz
              have hmk : (Instr.makeSlice 30 (.int .i64 64) (.int .i64 64)).run Try.prog w10 = .ok (.slice (some ⟨z, 0, none⟩) 64 64) w11 := hmk
              have B11 : Hid (Below x w w11) := B10.out.trans (hb11.mono Z10.out)
              have Z11 : Hid (x ≤ w11.heap.size) := Nat.le_trans Z10.out hb11.size
              have HS := Lib.hid (same_eq _ _ _ w11 (V10.out.only (Only.of_below (F := fun _ => False) hb11) (fun _ _ h => h)) hz)
              clear hz0 hz hb11 V10 B10
              go_wp2_with fail
              refine HS.out.mono ?_
              rintro e w12 ⟨rfl, rfl⟩
              go_wp2_with fail
              refine (known_true w11).mono ?_
              rintro e w13 ⟨rfl, b13⟩
              go_wp2_with fail
              go_ret
              exact ⟨rfl, by rw [HX.out.1]; exact B11.out.trans (b13.mono Z11.out)⟩

theorem walk (w : World) (a0 : Int) (w0 : (Lit.int .u8 a0).wf = true) (a1 : Int) (w1 : (Lit.int .u8 a1).wf = true) (v2 : Value) (x2 : List Int) (hb2 : ArgB w v2 x2) (v3 : Value) (x3 : Nat) (hb3 : Dos w v3 x3) :
    Calls Try.prog 4 #[.int .u8 a0, .int .u8 a1, v2, v3] w fun e w' => e = .returned (.bool true) ∧ Below w.heap.size w w' := by
  have g0 := wf_u8 w0
  have g1 := wf_u8 w1
  obtain ⟨n, rfl⟩ := Int.eq_ofNat_of_zero_le g0.1
  obtain ⟨q, rfl⟩ := Int.eq_ofNat_of_zero_le g1.1
  by_cases h : n = 0 ∨ 40 < x3 ∨ 64 < x2.length
  · exact walk_big w n q v2 x2 hb2 v3 x3 hb3 h
  · exact walk_small w n q v2 x2 hb2 v3 x3 hb3 (by omega) (by omega) (by omega) (by omega) (by omega)

set_option maxRecDepth 100000 in
theorem lifted (os : Os) (started : os.Started) (H : Type) (enc : TypeId × Value → H) :
    ReturnsInHanded {} Try.checked os 4 .any (Rows.diskApartSpec.pre6 enc Try.prog Try.f4 Rows.diskApartRow.domain false) (Rows.diskApartSpec.post enc Try.prog Try.f4 false true false false) := by
  refine returnsInHanded_of_change (C := Try.checked) Try.own started (by kernel_rfl) Try.func4
    (ChangeSpec.witness6 (enc := enc) (C := Try.checked) false ⟨#[], #[.int .u8 0, .int .u8 0, .slice none 0 0, .slice none 0 0], []⟩ 8 (by kernel_rfl) (by kernel_rfl) (by kernel_rfl) (by kernel_rfl)) ?_
  intro W base args ds gs before hval0 hW _ _
  have hval : ∀ (j : Nat) t v, Try.f4.params[j]? = some t → args[j]? = some v → Value.okWide Try.prog W .any base t v := hval0
  have hW' := hW
  obtain ⟨p, q, hA0, hV, rfl, _, _⟩ := hW
  have hA : DataW.TrodAll enc Try.prog W 0 (fun _ => true) true Try.f4.params.toList args.toList ds p := hA0
  rw [Try.params4] at hA hval
  obtain ⟨v0, vs0, d0, ds0, p0, q0, hargs, rfl, rfl, h0, r0⟩ := trodAll_cons hA
  obtain ⟨v1, vs1, d1, ds1, p1, q1, rfl, rfl, rfl, h1, r1⟩ := trodAll_cons r0
  obtain ⟨v2, vs2, d2, ds2, p2, q2, rfl, rfl, rfl, h2, r2⟩ := trodAll_cons r1
  obtain ⟨v3, vs3, d3, ds3, p3, q3, rfl, rfl, rfl, h3, r3⟩ := trodAll_cons r2
  obtain ⟨rfl, rfl, rfl⟩ := trodAll_nil r3
  obtain rfl : args = #[v0, v1, v2, v3] := by cases args; simp_all
  obtain ⟨rfl, rfl⟩ := trodVars_none hV
  obtain ⟨a0, rfl, rfl, rfl, w0⟩ := open_int Try.underlying5 (hval 0 5 v0 rfl rfl) h0
  obtain ⟨a1, rfl, rfl, rfl, w1⟩ := open_int Try.underlying5 (hval 1 5 v1 rfl rfl) h1
  clear hA0 hval0
  simp only [List.append_nil] at hW'
  obtain ⟨x2, hb2⟩ := open_bts (hval 2 30 v2 rfl rfl) h2
  have hlt2 : ∀ x ∈ p2, x.block < W.heap.size := fun x hx => by simpa using hW'.lt x (by simp [hx])
  obtain ⟨x3, hb3⟩ := open_dos (hval 3 22 v3 rfl rfl) h3
  have hlt3 : ∀ x ∈ p3, x.block < W.heap.size := fun x hx => by simpa using hW'.lt x (by simp [hx])
  refine (walk W a0 w0 a1 w1 v2 x2 hb2 v3 x3 hb3).mono fun e W' ⟨he, hg⟩ => ?_
  subst he
  exact ⟨_, rfl, _, _, _, [], _, [], hW', (trodAll_cons_mk (shut_bool Try.underlying4 _) trodAll_mk0), (trodAll_cons_mk (shut_int Try.underlying5 w0) (trodAll_cons_mk (shut_int Try.underlying5 w1) (trodAll_cons_mk (Below.trod Try.laidOut (by kernel_rfl) (of_decide_eq_true (by kernel_rfl)) h2 hg hlt2) (trodAll_cons_mk (Below.trod Try.laidOut (by kernel_rfl) (of_decide_eq_true (by kernel_rfl)) h3 hg hlt3) trodAll_mk0)))), rfl, hg.frame _, fun h => by cases h⟩

theorem row_over : Rows.diskApartRow.holds Try.pinned (OpenSpec.ofChange Rows.diskApartSpec) :=
  OpenClaim.holds_of_wide 4 Try.f4 rfl rfl rfl rfl rfl rfl rfl ⟨rfl, rfl, rfl, rfl, rfl⟩ rfl rfl rfl rfl rfl (by kernel_rfl) Try.func4 (by kernel_rfl)
    (of_decide_eq_true (by kernel_rfl)) (by unfold Func.isWrapper; first | (rw [if_pos (by decide +kernel)]; kernel_rfl) | (rw [if_neg (by decide +kernel)]; exact ⟨rfl, rfl⟩))
    (fun os started H enc _ => lifted os started H enc)
end Go.Proofs.Ytpijefkkhhgbfaa.diskApart
namespace Go.Proofs.Ytpijefkkhhgbfaa
theorem diskApart_holds : Rows.DiskApartSaid := diskApart.row_over
end Go.Proofs.Ytpijefkkhhgbfaa
