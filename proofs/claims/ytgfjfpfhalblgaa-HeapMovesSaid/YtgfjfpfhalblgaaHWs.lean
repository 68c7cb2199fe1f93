/- HeapWrites' walk. -/
import Derived.Test.YtgfjfpfhalblgaaHRo
namespace Go.Proofs.Ytgfjfpfhalblgaa
set_option maxRecDepth 1000000
open Go.ChangeShapes Go.WideShapes Go.ChangeAt Go.RowKit

def zs (q : Nat) : List Int := List.replicate q 0
theorem zs_len (q : Nat) : (zs q).length = q := List.length_replicate
def twoB (la : Nat) (p q : List Int) : List (Option Bk) := [some ⟨0, p⟩, some ⟨la, q⟩]
theorem two_put (la q : Nat) (p : List Int) : putB (oneB p) (nextB (oneB p)) ⟨la, List.replicate q 0⟩ = twoB la p (zs q) := rfl
theorem one_word (p : List Int) (i : Nat) : wordAt (oneB p) i = if i < p.length then p.getD i 0 else -1 := by
  simp only [oneB, wordAt]
  by_cases h : i < p.length
  · rw [if_pos (inB_iff.2 ⟨Nat.zero_le _, by simpa using h⟩), if_pos h]; rfl
  · rw [if_neg (fun e => h (by simpa using (inB_iff.1 e).2)), if_neg h]
theorem first_two {n la q : Nat} (h : la + q ≤ n) (hq : 0 < q) : FirstF (wordAt (oneB (zs la))) n q la true := by
  refine .inl ⟨rfl, h, fun j _ => ?_, fun b hb => ⟨0, hq, ?_⟩⟩
  · rw [one_word, if_neg (by rw [zs_len]; omega)]
  · rw [one_word, if_pos (by rw [zs_len]; omega), zs, getD_zeros]; decide
theorem over_all {la : Nat} {xs : List Int} (h : xs.length = la) : overL (zs la) 0 xs = xs := by
  rw [overL, zs]; simp [h]
/-- The words of the second block at the end. -/
def wantL (ys : List Int) (k : Nat) : List Int := zs k ++ ys ++ zs (3 - k)
theorem over_want {ys : List Int} {k : Nat} (hk : k ≤ 3) : overL (zs (ys.length + 3)) k ys = wantL ys k := by
  rw [overL, wantL, zs, zs, zs, List.take_replicate, List.drop_replicate, Nat.min_eq_left (by omega), show ys.length + 3 - (k + ys.length) = 3 - k by omega]
theorem want_len {ys : List Int} {k : Nat} (hk : k ≤ 3) : (wantL ys k).length = ys.length + 3 := by
  simp only [wantL, List.length_append, zs_len]; omega
theorem narrow_ok {xs : List Int} (h : ∀ x ∈ xs, (Lit.int .u16 x).wf = true) : xs.any badW = false := by
  rw [List.any_eq_false]
  intro x hx
  have := wf_u16 (h x hx)
  simp [badW]; omega
/-- The argument's words, in later worlds. -/
theorem arg_at {W : World} {a : Option Addr} {c : Nat} {xs : List Int} (h : ArgN .u16 W (.slice a xs.length c) xs) {w : World} (b : Below W.heap.size W w) {k : Nat} (hk : k < xs.length) :
    ∃ g off, a = some ⟨g, off, none⟩ ∧ w.cell? ⟨g, off + k, none⟩ = some (.int .u16 (xs.getD k 0)) ∧ IntKind.i64.wrap (xs.getD k 0) = xs.getD k 0 := by
  have hv := h.1.only (Only.of_below (F := fun _ => False) b) (fun _ _ h => h)
  obtain ⟨g, off, c', he, _, _, _, hc⟩ := hv.at_ (k := k) (by rw [List.length_map]; exact hk)
  injection he with e1
  have hx := wf_u16 (h.2.1 (xs.getD k 0) (getD_mem hk))
  refine ⟨g, off, e1, ?_, by rw [IntKind.wrap_i64]; omega⟩
  rw [hc, List.getElem_map, List.getD, List.getElem?_eq_getElem hk]; rfl
theorem ints_cell {N : Nat → Prop} {w : World} {v : Value} {xs : List Int} (h : Ints N w v xs) {k : Nat} (hk : k < xs.length) : ∃ g off c, v = .slice (some ⟨g, off, none⟩) xs.length c ∧ w.cell? ⟨g, off + k, none⟩ = some (.int .i64 (xs.getD k 0)) := by
  obtain ⟨g, off, c', he, _, _, _, hc⟩ := Vals.at_ (k := k) h (by rw [List.length_map]; exact hk)
  rw [List.length_map] at he
  refine ⟨g, off, c', he, ?_⟩
  rw [hc, List.getElem_map, List.getD, List.getElem?_eq_getElem hk]; rfl
theorem own_form {w : World} {base e s n : Nat} {v : Value} {xs : List Value} (h : w.ownsRow base e s v n xs) : ∃ a cap, v = .slice a n cap ∧ n ≤ cap := by
  rcases h.2 with ⟨rfl, h0⟩ | ⟨g, cap, cur, rfl, _, _, hn, _⟩
  · exact ⟨none, 0, by rw [h0], by omega⟩
  · exact ⟨_, cap, rfl, hn⟩
set_option maxHeartbeats 16000000 in
theorem heapWrites_walk (W : World) (v0 : Value) (xs : List Int) (h0 : ArgN .u16 W v0 xs) (v1 : Value) (ys : List Int) (h1 : ArgN .u16 W v1 ys) (z : Int) (hz : (Lit.int .u8 z).wf = true) :
    Calls Try.prog 5 #[v0, v1, .int .u8 z] W fun e W' => e = .returned (.bool true) ∧ Below W.heap.size W W' := by
  obtain ⟨a0, c0, rfl, _⟩ := h0.1
  obtain ⟨a1, c1, rfl, _⟩ := h1.1
  rw [List.length_map] at h0 h1 ⊢
  rw [List.length_map]
  obtain ⟨z0, z1⟩ := wf_u8 hz
  obtain ⟨z, rfl⟩ := Int.eq_ofNat_of_zero_le z0
  have HX := Lib.hid h0
  have HY := Lib.hid h1
  have lx := h0.2.2
  have ly := h1.2.2
  unfold maxLen at lx ly
  have HK := Lib.hid (fun w => known_any w)
  clear hz z0 h0 h1
  by_cases hx : 200 < xs.length
  · have hd : decide ((200 : Int) < (xs.length : Int)) = true := decide_eq_true (by omega)
    clear hx
    go_enter Try.func5, Try.ntmps5
    go_wp2_with fail
    refine (HK.out W).mono ?_
    rintro e w1 ⟨rfl, b1⟩
    go_wp2_with fail
    go_ret
    exact ⟨rfl, b1⟩
  · have hd : decide ((200 : Int) < (xs.length : Int)) = false := decide_eq_false (by omega)
    by_cases hy : 200 < ys.length
    · have hd2 : decide ((200 : Int) < (ys.length : Int)) = true := decide_eq_true (by omega)
      clear hx hy
      go_enter Try.func5, Try.ntmps5
      go_wp2_with fail
      refine (HK.out W).mono ?_
      rintro e w1 ⟨rfl, b1⟩
      go_wp2_with fail
      go_ret
      exact ⟨rfl, b1⟩
    · have hd2 : decide ((200 : Int) < (ys.length : Int)) = false := decide_eq_false (by omega)
      obtain ⟨k, hk⟩ : ∃ k : Nat, (z : Int) % 4 = k := ⟨z % 4, by omega⟩
      have hk3 : k ≤ 3 := by omega
      have hkt : (z : Int).tmod 4 = k := by rw [Int.tmod_eq_emod_of_nonneg (by omega)]; exact hk
      have BX := Lib.hid (narrow_ok HX.out.2.1)
      have BY := Lib.hid (narrow_ok HY.out.2.1)
      have HWL : Hid ((wantL ys k).length = ys.length + 3) := Lib.hid (want_len hk3)
      have HN : Hid (Calls Try.prog 10 #[.int .i64 1000] W (NewPost 1000 W)) := Lib.hid (new_yes 1000 W (by omega))
      have HA1 : Hid (∀ (c : Hp) (v : Value) (w1 : World), HeapB W w1 c v 1000 [] → Calls Try.prog 11 #[.pointer (some ⟨c.h, 0, none⟩), .int .i64 xs.length] w1 (HeapPost (.tuple #[.int .i64 0, .int .i64 0]) c v 1000 (oneB (zs xs.length)) w1)) :=
        Lib.hid (fun c v w1 h => alloc_yes xs.length 0 (by omega) h.is (first_empty (by omega)) (by simp))
      have HA2 : Hid (∀ (c : Hp) (v : Value) (w1 : World), HeapB W w1 c v 1000 (oneB (zs xs.length)) → Calls Try.prog 11 #[.pointer (some ⟨c.h, 0, none⟩), .int .i64 ((ys.length : Int) + 3)] w1 (HeapPost (.tuple #[.int .i64 1, .int .i64 0]) c v 1000 (twoB xs.length (zs xs.length) (zs (ys.length + 3))) w1)) :=
        Lib.hid (fun c v w1 h => by
          have := alloc_yes (ys.length + 3) xs.length (by omega) h.is (first_two (by omega) (by omega)) (by simp [oneB])
          rw [two_put] at this
          exact this)
      have HW1 : Hid (∀ (N : Nat → Prop) (c : Hp) (v u : Value) (w1 : World), HeapB W w1 c v 1000 (twoB xs.length (zs xs.length) (zs (ys.length + 3))) → Ints N w1 u xs → Calls Try.prog 13 #[.pointer (some ⟨c.h, 0, none⟩), .int .i64 0, .int .i64 0, u] w1 (HeapPost (.int .i64 0) c v 1000 (twoB xs.length xs (zs (ys.length + 3))) w1)) :=
        Lib.hid (fun N c v u w1 h hu => by
          have := write_yes 0 0 ⟨0, zs xs.length⟩ u xs h.is hu rfl (by simp only [zs_len]; omega) BX.out
          rw [over_all rfl] at this
          exact this)
      have HW2 : Hid (∀ (N : Nat → Prop) (c : Hp) (v u : Value) (w1 : World), HeapB W w1 c v 1000 (twoB xs.length xs (zs (ys.length + 3))) → Ints N w1 u ys → Calls Try.prog 13 #[.pointer (some ⟨c.h, 0, none⟩), .int .i64 1, .int .i64 k, u] w1 (HeapPost (.int .i64 0) c v 1000 (twoB xs.length xs (wantL ys k)) w1)) :=
        Lib.hid (fun N c v u w1 h hu => by
          have := write_yes 1 k ⟨xs.length, zs (ys.length + 3)⟩ u ys h.is hu rfl (by simp only [zs_len]; omega) BY.out
          rw [over_want hk3] at this
          exact this)
      have HR1 : Hid (∀ (i : Nat) (c : Hp) (v : Value) (w1 : World), i < xs.length → HeapB W w1 c v 1000 (twoB xs.length xs (wantL ys k)) → Calls Try.prog 16 #[.pointer (some ⟨c.h, 0, none⟩), .int .i64 0, .int .i64 i] w1 (Told (.tuple #[.int .i64 (xs.getD i 0), .int .i64 0]) w1)) :=
        Lib.hid (fun i c v w1 hi h => by
          have h1 := read_some (k := 0) (i := i) (b := ⟨0, xs⟩) h.is.m rfl (by simp only; omega) (by simp only; omega)
          have h2 := h.is.good.in_ (k := 0) (b := ⟨0, xs⟩) rfl (j := i) (by simp only; omega)
          simp only at h1 h2
          rw [h2] at h1
          exact h1)
      have HR2 : Hid (∀ (i : Nat) (c : Hp) (v : Value) (w1 : World), i < ys.length + 3 → HeapB W w1 c v 1000 (twoB xs.length xs (wantL ys k)) → Calls Try.prog 16 #[.pointer (some ⟨c.h, 0, none⟩), .int .i64 1, .int .i64 i] w1 (Told (.tuple #[.int .i64 ((wantL ys k).getD i 0), .int .i64 0]) w1)) :=
        Lib.hid (fun i c v w1 hi h => by
          have h1 := read_some (k := 1) (i := i) (b := ⟨xs.length, wantL ys k⟩) h.is.m rfl (by simp only [HWL.out]; exact hi) (by simp only [HWL.out]; omega)
          have h2 := h.is.good.in_ (k := 1) (b := ⟨xs.length, wantL ys k⟩) rfl (j := i) (by simp only [HWL.out]; exact hi)
          simp only at h1 h2
          rw [h2] at h1
          exact h1)
      go_enter Try.func5, Try.ntmps5
      go_wp2_with fail
      refine HN.out.mono ?_
      rintro e w1 p
      obtain ⟨c, rfl, h1, _⟩ := heapB_new p
      have H1 := Lib.hid h1
      clear p h1
      go_wp2_with fail
      refine (HA1.out c _ w1 H1.out).mono ?_
      rintro e w2 p
      obtain ⟨rfl, v2, h2, _⟩ := H1.out.post p
      have H2 := Lib.hid h2
      clear p h2
      go_wp2_with fail
      refine (HA2.out c _ w2 H2.out).mono ?_
      rintro e w3 p
      obtain ⟨rfl, v3, h3, _⟩ := H2.out.post p
      have H3 := Lib.hid h3
      clear p h3
      have HF3 : Hid (∀ b, HF c v3 b → b < w3.heap.size) := Lib.hid (HF_lt H3.out.is.m)
      go_wp2_with fail
      go_loopg [13, 15] xs.length (fun g s13 s15 wr => ∃ (pv : Value) (k0 : Nat), pv = s13 ∧ s15 = .int .i64 k0 ∧ k0 ≤ xs.length ∧ xs.length - k0 ≤ g ∧ Hid (wr.ownsRow w3.heap.size 3 1 pv (xs.take k0).length ((xs.take k0).map (Value.int .i64))) ∧ Hid (Below w3.heap.size w3 wr))
      case atStart => exact ⟨_, 0, rfl, by first | rfl | go_num, Nat.zero_le _, by omega, Lib.hid (World.ownsRow_nil _ _ _ _), Lib.hid (Below.refl _ _)⟩
      case round =>
        obtain ⟨pv, k0, rfl, rfl, hk0, hg, OW, BL⟩ := hrel
        by_cases hlt : k0 < xs.length
        · obtain ⟨ga, oa, hae, ca, cw⟩ := arg_at HX.out (H3.out.bl.trans (BL.out.mono H3.out.bl.size)) (k := k0) hlt
          have hlt2 : (k0 : Int) < xs.length := by omega
          subst hae
          obtain ⟨x, hx⟩ : ∃ x, xs.getD k0 0 = x := ⟨_, rfl⟩
          have HXX := Lib.hid hx
          rw [hx] at ca cw
          clear hx
          go_wp2_with (at_builtin; refine append_ints (N := fun _ => True) rfl _ _ rfl w3.heap.size _ (xs.take k0) rfl (OW.out.alloc _) _ [x] rfl (one_ints wr x) ?c1 ?c2 ?_)
          case c1 => rw [List.length_take]; simp; omega
          case c2 => simp; have := BL.out.size; omega
          intro v' w' h1 h2 _
          have OW2 : Hid (w'.ownsRow w3.heap.size 3 1 v' (xs.take (k0 + 1)).length ((xs.take (k0 + 1)).map (Value.int .i64))) := Lib.hid (by
            have e1 : (xs.take (k0 + 1)).length = k0 + 1 := by rw [List.length_take]; omega
            have e2 : (xs.take (k0 + 1)).map (Value.int .i64) = List.take k0 (xs.map (Value.int .i64)) ++ [Value.int .i64 x] := by rw [take_snoc hlt, HXX.out, List.map_append, List.map_take]; rfl
            rw [e1, e2]
            exact h1)
          have BL2 : Hid (Below w3.heap.size w3 w') := Lib.hid ((BL.out.alloc BL.out.size _).trans h2)
          clear h1 h2
          go_wp2_with fail
          go_roundg (xs.length - (k0 + 1))
          case measure => omega
          case rel => exact ⟨v', k0 + 1, rfl, by go_num, by omega, Nat.le_refl _, OW2, BL2⟩
        · obtain rfl : k0 = xs.length := by omega
          rw [List.take_length] at OW
          obtain ⟨ap4, cp4, rfl, _⟩ := own_form OW.out
          have OW4 := OW
          have BL4 := BL
          clear OW BL hk0 hg hlt
          obtain ⟨w4, hw4⟩ : ∃ w', w' = wr := ⟨_, rfl⟩
          subst hw4
          have P4 := Lib.hid (own_row OW4.out)
          have H4 := Lib.hid (H3.out.fresh (c := c) (by first | exact BL4.out))
          have WB4 := Lib.hid (H3.out.bl.trans (BL4.out.mono H3.out.bl.size))
          clear OW4
          go_wp2_with fail
          go_loopg [14, 16] ys.length (fun g s14 s16 wr => ∃ (pv : Value) (k0 : Nat), pv = s14 ∧ s16 = .int .i64 k0 ∧ k0 ≤ ys.length ∧ ys.length - k0 ≤ g ∧ Hid (wr.ownsRow w4.heap.size 3 1 pv (ys.take k0).length ((ys.take k0).map (Value.int .i64))) ∧ Hid (Below w4.heap.size w4 wr))
          case atStart => exact ⟨_, 0, rfl, by first | rfl | go_num, Nat.zero_le _, by omega, Lib.hid (World.ownsRow_nil _ _ _ _), Lib.hid (Below.refl _ _)⟩
          case round =>
            obtain ⟨pv, k0, rfl, rfl, hk0, hg, OW, BL⟩ := hrel
            by_cases hlt : k0 < ys.length
            · obtain ⟨ga, oa, hae, ca, cw⟩ := arg_at HY.out (WB4.out.trans (BL.out.mono WB4.out.size)) (k := k0) hlt
              have hlt2 : (k0 : Int) < ys.length := by omega
              subst hae
              obtain ⟨x, hx⟩ : ∃ x, ys.getD k0 0 = x := ⟨_, rfl⟩
              have HXX := Lib.hid hx
              rw [hx] at ca cw
              clear hx
              go_wp2_with (at_builtin; refine append_ints (N := fun _ => True) rfl _ _ rfl w4.heap.size _ (ys.take k0) rfl (OW.out.alloc _) _ [x] rfl (one_ints wr x) ?c1 ?c2 ?_)
              case c1 => rw [List.length_take]; simp; omega
              case c2 => simp; have := BL.out.size; omega
              intro v' w' h1 h2 _
              have OW2 : Hid (w'.ownsRow w4.heap.size 3 1 v' (ys.take (k0 + 1)).length ((ys.take (k0 + 1)).map (Value.int .i64))) := Lib.hid (by
                have e1 : (ys.take (k0 + 1)).length = k0 + 1 := by rw [List.length_take]; omega
                have e2 : (ys.take (k0 + 1)).map (Value.int .i64) = List.take k0 (ys.map (Value.int .i64)) ++ [Value.int .i64 x] := by rw [take_snoc hlt, HXX.out, List.map_append, List.map_take]; rfl
                rw [e1, e2]
                exact h1)
              have BL2 : Hid (Below w4.heap.size w4 w') := Lib.hid ((BL.out.alloc BL.out.size _).trans h2)
              clear h1 h2
              go_wp2_with fail
              go_roundg (ys.length - (k0 + 1))
              case measure => omega
              case rel => exact ⟨v', k0 + 1, rfl, by go_num, by omega, Nat.le_refl _, OW2, BL2⟩
            · obtain rfl : k0 = ys.length := by omega
              rw [List.take_length] at OW
              obtain ⟨ap5, cp5, rfl, _⟩ := own_form OW.out
              have OW5 := OW
              have BL5 := BL
              clear OW BL hk0 hg hlt
              obtain ⟨w5, hw5⟩ : ∃ w', w' = wr := ⟨_, rfl⟩
              subst hw5
              have Q5 := Lib.hid (own_row OW5.out)
              have P5 := Lib.hid (ints_kept P4.out BL5.out)
              have H5 := Lib.hid (H4.out.fresh BL5.out)
              have S5 : Hid (w3.heap.size ≤ w4.heap.size ∧ w4.heap.size ≤ w5.heap.size) := ⟨BL4.out.size, BL5.out.size⟩
              clear OW5
              go_wp2_with fail
              refine (HW1.out _ c v3 _ w5 H5.out P5.out).mono ?_
              rintro e w6 p
              obtain ⟨rfl, v6, h6, nr6, o6⟩ := H5.out.post p
              have H6 := Lib.hid h6
              have P6 := Lib.hid (Ints.only P5.out o6 (fun b hb hF => by have := HF3.out b hF; omega))
              have Q6 := Lib.hid (Ints.only Q5.out o6 (fun b hb hF => by have := HF3.out b hF; have := S5.out.1; omega))
              have HF6 : Hid (∀ b, HF c v6 b → b < w3.heap.size ∨ w5.heap.size ≤ b) := Lib.hid (fun b hb => by
                rcases hb with hb | hb | hb
                · exact .inl (HF3.out b (.inl hb))
                · exact .inl (HF3.out b (.inr (.inl hb)))
                · rcases nr6 b hb with h | h
                  · exact .inl (HF3.out b (.inr (.inr h)))
                  · exact .inr h)
              clear p h6 nr6 o6
              go_wp2_with fail
              refine (HW2.out _ c v6 _ w6 H6.out Q6.out).mono ?_
              rintro e w7 p
              obtain ⟨rfl, v7, h7, _, o7⟩ := H6.out.post p
              have H7 := Lib.hid h7
              have P7 := Lib.hid (Ints.only P6.out o7 (fun b hb hF => by have := HF6.out b hF; have := S5.out.2; omega))
              have Q7 := Lib.hid (Ints.only Q6.out o7 (fun b hb hF => by have := HF6.out b hF; have := S5.out.1; omega))
              clear p h7 o7
              have NIL : Hid (w7.ownsRow w7.heap.size 3 1 (.slice none 0 0) ([] : List Int).length (([] : List Int).map (Value.int .i64))) := Lib.hid (World.ownsRow_nil _ _ _ _)
              go_wp2_with (at_builtin; refine append_zs rfl _ _ rfl w7.heap.size _ [] rfl NIL.out k _ rfl rfl ?d11 (Nat.le_refl _) ?_)
              case d11 => simp; omega
              intro v8 w8 o8 b8 _
              have W8 : Hid (w8.ownsRow w7.heap.size 3 1 v8 (zs k).length ((zs k).map (Value.int .i64))) := Lib.hid (by simpa [zs] using o8)
              have B8 := Lib.hid b8
              have Q8 := Lib.hid (ints_kept Q7.out b8)
              clear o8 b8 NIL
              go_wp2_with (at_builtin; refine append_ints (N := fun b => w4.heap.size ≤ b ∧ b < w5.heap.size) rfl _ _ rfl w7.heap.size v8 (zs k) rfl W8.out (.slice ap5 ys.length cp5) ys rfl Q8.out ?d21 ?d22 ?_)
              case d21 => rw [zs_len]; omega
              case d22 => exact B8.out.size
              intro v9 w9 o9 b9 _
              have W9 : Hid (w9.ownsRow w7.heap.size 3 1 v9 (zs k ++ ys).length ((zs k ++ ys).map (Value.int .i64))) := Lib.hid (by simpa using o9)
              have B9 : Hid (Below w7.heap.size w7 w9) := Lib.hid (B8.out.trans b9)
              clear o9 b9 W8
              go_wp2_with (at_builtin; refine append_zs rfl _ _ rfl w7.heap.size _ (zs k ++ ys) rfl W9.out (3 - k) _ ?d33 rfl ?d31 ?d32 ?_)
              case d33 => omega
              case d31 => rw [List.length_append, zs_len]; omega
              case d32 => exact B9.out.size
              intro v10 w10 o10 b10 _
              have W10 : Hid (w10.ownsRow w7.heap.size 3 1 v10 (wantL ys k).length ((wantL ys k).map (Value.int .i64))) := Lib.hid (by
                have e : wantL ys k = zs k ++ ys ++ List.replicate (3 - k) 0 := rfl
                rw [e]; simpa using o10)
              have B10 : Hid (Below w7.heap.size w7 w10) := Lib.hid (B9.out.trans b10)
              have H10 := Lib.hid (H7.out.fresh B10.out)
              have P10 := Lib.hid (ints_kept P7.out B10.out)
              have T10 := Lib.hid (own_row W10.out)
              obtain ⟨at_, ct, rfl, _⟩ := own_form W10.out
              rw [HWL.out]
              clear o10 b10 W9 W10 B8 B9
              go_wp2_with fail
              go_loopg [21] (xs.length + (ys.length + 3)) (fun g s21 wr => ∃ i : Nat, s21 = .int .i64 i ∧ i ≤ xs.length + (ys.length + 3) ∧ xs.length + (ys.length + 3) - i ≤ g ∧ Hid (Below w10.heap.size w10 wr))
              case atStart => exact ⟨0, rfl, Nat.zero_le _, by omega, Lib.hid (Below.refl _ _)⟩
              case round =>
                obtain ⟨i, rfl, hib, hg, BL⟩ := hrel
                by_cases hlt : i < xs.length + (ys.length + 3)
                · have hlt2 : (i : Int) < (xs.length : Int) + ((ys.length : Int) + 3) := by omega
                  by_cases hi : i < xs.length
                  · have hi2 : (i : Int) < xs.length := by omega
                    go_wp2_with fail
                    refine (HR1.out i c v7 wr hi (H10.out.fresh BL.out)).mono ?_
                    rintro e wq ⟨rfl, bq⟩
                    have BQ : Hid (Below w10.heap.size w10 wq) := Lib.hid (BL.out.trans (bq.mono BL.out.size))
                    obtain ⟨g1, o1, c2, he, cc⟩ := ints_cell (ints_kept P10.out BQ.out) hi
                    injection he with q1 _ q3
                    subst q1 q3
                    clear bq
                    generalize xs.getD i 0 = x at cc ⊢
                    have hxx : (x != x) = false := by simp
                    go_wp2_with fail
                    go_roundg (xs.length + (ys.length + 3) - (i + 1))
                    case measure => omega
                    case rel => exact ⟨i + 1, by go_num, by omega, Nat.le_refl _, BQ⟩
                  · obtain ⟨j, hji⟩ : ∃ j : Nat, (i : Int) - xs.length = j := ⟨i - xs.length, by omega⟩
                    have hi2 : ¬ ((i : Int) < xs.length) := by omega
                    have hj : j < ys.length + 3 := by omega
                    have hj2 : (j : Int) < (ys.length : Int) + 3 := by omega
                    clear hi
                    go_wp2_with fail
                    refine (HR2.out j c v7 wr hj (H10.out.fresh BL.out)).mono ?_
                    rintro e wq ⟨rfl, bq⟩
                    have BQ : Hid (Below w10.heap.size w10 wq) := Lib.hid (BL.out.trans (bq.mono BL.out.size))
                    obtain ⟨g1, o1, c2, he, cc⟩ := ints_cell (ints_kept T10.out BQ.out) (k := j) (by rw [HWL.out]; exact hj)
                    injection he with q1 _ q3
                    subst q1 q3
                    clear bq
                    generalize (wantL ys k).getD j 0 = x at cc ⊢
                    have hxx : (x != x) = false := by simp
                    go_wp2_with fail
                    go_roundg (xs.length + (ys.length + 3) - (i + 1))
                    case measure => omega
                    case rel => exact ⟨i + 1, by go_num, by omega, Nat.le_refl _, BQ⟩
                · have hlt2 : ¬ ((i : Int) < (xs.length : Int) + ((ys.length : Int) + 3)) := by omega
                  go_wp2_with fail
                  refine (HK.out wr).mono ?_
                  rintro e wq ⟨rfl, bq⟩
                  have B11 : Hid (Below W.heap.size W wq) := Lib.hid (H10.out.bl.trans ((BL.out.trans (bq.mono BL.out.size)).mono H10.out.bl.size))
                  clear bq
                  go_wp2_with fail
                  go_ret
                  exact ⟨rfl, B11.out⟩
end Go.Proofs.Ytgfjfpfhalblgaa
