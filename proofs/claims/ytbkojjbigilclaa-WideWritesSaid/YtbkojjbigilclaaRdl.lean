/- What the chapter's Decode returns of any bytes: the object, or the error: all ways together. -/
import Derived.Test.YtbkojjbigilclaaRdw
namespace Go.Proofs.Ytbkojjbigilclaa
open Go.ChangeShapes Go.WideShapes Go.ChangeAt Go.RowKit
set_option maxRecDepth 1000000

/-- What stands in memory behind j rounds. -/
def LInv (w : World) (c : Int) (zs : List Int) (j : Nat) (wr : World) : Prop :=
  ∃ r, Box w.heap.size (.int .i64 0) (.int .i64 0) (.slice none 0 0) (.slice none 0 0) wr ∧ Box (w.heap.size + 1) (.int .i64 c) (.int .i64 1) r (.slice none 0 0) wr ∧ wr.ownsRow (w.heap.size + 2) 3 1 r (zs.take j).length ((zs.take j).map (Value.int .i64)) ∧ Below w.heap.size w wr
theorem own_snoc {w : World} {base j : Nat} {zs : List Int} {v : Value} (hj : j < zs.length) (h : w.ownsRow base 3 1 v (j + 1) ((zs.take j).map (Value.int .i64) ++ [.int .i64 (zs.getD j 0)])) : w.ownsRow base 3 1 v (zs.take (j + 1)).length ((zs.take (j + 1)).map (Value.int .i64)) := by
  have e : zs.take (j + 1) = zs.take j ++ [zs.getD j 0] := by
    rw [List.take_succ_eq_append_getElem hj]; simp [List.getD, List.getElem?_eq_getElem hj]
  rw [e, List.length_append, List.map_append, List.length_take, Nat.min_eq_left (by omega)]; exact h

set_option maxHeartbeats 1000000 in
theorem refdec_words (v : Value) (xs : List Int) (w : World) (h : RowB w v xs) (hl : 12 ≤ xs.length) (hl2 : xs.length ≤ 10000) (hk : wd xs 4 = 1) (h0 : 0 ≤ wd xs 8) (h1 : wd xs 8 ≤ 1000) (hn : (xs.length : Int) = 12 + 4 * wd xs 8) :
    Calls Try.prog 16 #[v] w (DecPost xs w) := by
  obtain ⟨i0, hi, hz0, hz1, hz2⟩ := info_parts Try.info3
  have HD := Lib.hid (dec_is_words hl hk h0 h1 hn)
  have HG0 := get_at v xs w h hl2 0 (by omega)
  have HG4 := get_at v xs w h hl2 4 (by omega)
  have HG8 := get_at v xs w h hl2 8 (by omega)
  rw [hk] at HG4
  have hm : wd xs 8 = (ws (xs.drop 12)).length := by rw [ws_len, List.length_drop]; omega
  have HGJ : Hid (∀ (w' : World) (j : Nat), j < (ws (xs.drop 12)).length → Below w.heap.size w w' → Calls Try.prog 36 #[v, .int .i64 (12 + 4 * (j : Int))] w' fun en w'' => en = .returned (.tuple #[.int .i64 ((ws (xs.drop 12)).getD j 0), .int .i64 0]) ∧ w' = w'') := fun w' j hj hb => by
    have h2 := (get_at v xs w h hl2 (12 + 4 * j) (by omega)).out w' hb
    rw [show ((12 + 4 * j : Nat) : Int) = 12 + 4 * (j : Int) by omega] at h2
    rw [ws_at _ _ (by rw [ws_len] at hj; exact hj), wd_drop]; exact h2
  have HWI := Lib.hid (ws_i64 (xs.drop 12) (h.2.1.drop 12).bytes)
  have I0 := Lib.hid (wd_in xs 0 h.2.1.bytes)
  obtain ⟨_, _, a, cp, rfl, hc⟩ := h
  rw [hm] at HG8 h1 hn
  change Hid (∀ w', Below w.heap.size w w' → Calls Try.prog 36 #[.slice a xs.length cp, .int .i64 0] w' fun en w'' => en = .returned (.tuple #[.int .i64 (wd xs 0), .int .i64 0]) ∧ w' = w'') at HG0
  change Hid (∀ w', Below w.heap.size w w' → Calls Try.prog 36 #[.slice a xs.length cp, .int .i64 4] w' fun en w'' => en = .returned (.tuple #[.int .i64 1, .int .i64 0]) ∧ w' = w'') at HG4
  change Hid (∀ w', Below w.heap.size w w' → Calls Try.prog 36 #[.slice a xs.length cp, .int .i64 8] w' fun en w'' => en = .returned (.tuple #[.int .i64 ((ws (xs.drop 12)).length : Int), .int .i64 0]) ∧ w' = w'') at HG8
  clear hk h0 hm hl
  generalize wd xs 0 = c at *
  generalize ws (xs.drop 12) = zs at *
  have hn' : ((xs.length : Int) != 12 + 4 * (zs.length : Int)) = false := by simp [hn]
  have HM := Lib.hid h1
  clear hn
  have X := Lib.hid (two_boxes w (.int .i64 0) (.int .i64 0) (.slice none 0 0) (.slice none 0 0) (.int .i64 c) (.int .i64 1) (.slice none 0 0) (.slice none 0 0))
  have BA : Hid (Below w.heap.size w (w.alloc (.cells #[.int .i64 0, .int .i64 0, .slice none 0 0, .slice none 0 0] 25))) := (Below.refl _ _).alloc (Nat.le_refl _) _
  have BB : Hid (Below w.heap.size w ((w.alloc (.cells #[.int .i64 0, .int .i64 0, .slice none 0 0, .slice none 0 0] 25)).alloc (.cells #[.int .i64 c, .int .i64 1, .slice none 0 0, .slice none 0 0] 25))) := BA.out.alloc BA.out.size _
  have L0 : Hid (LInv w c zs 0 ((w.alloc (.cells #[.int .i64 0, .int .i64 0, .slice none 0 0, .slice none 0 0] 25)).alloc (.cells #[.int .i64 c, .int .i64 1, .slice none 0 0, .slice none 0 0] 25))) := ⟨_, X.out.1, X.out.2, World.ownsRow_nil _ _ _ _, BB.out⟩
  go_enter Try.func16, Try.ntmps16
  go_wp2_with fail
  refine (HG0.out _ BA.out).mono ?_
  rintro e w1 ⟨rfl, rfl⟩
  go_wp2_with fail
  refine (HG4.out _ BA.out).mono ?_
  rintro e w1 ⟨rfl, rfl⟩
  go_wp2_with fail
  refine (HG8.out _ BA.out).mono ?_
  rintro e w1 ⟨rfl, rfl⟩
  go_wp2
  go_loopw [11] (fun i wr => ∃ j : Nat, j ≤ zs.length ∧ i = .int .i64 j ∧ Hid (LInv w c zs j wr)) (fun i _ => zs.length - (intOf i).toNat)
  case atStart => exact ⟨0, by omega, rfl, L0⟩
  case round =>
    obtain ⟨j, hj, rfl, hL⟩ := hrel
    obtain ⟨r, X1, Y1, hown, hb1⟩ := hL.out
    clear hL L0
    by_cases hlt : j < zs.length
    · have hlt' : (j : Int) < zs.length := by omega
      have HX1 := Lib.hid X1
      have HY1 := Lib.hid Y1
      have HB1 := Lib.hid hb1
      obtain ⟨⟨y0, y1, y2, y3⟩, _, hs1⟩ := Y1
      clear X1 hb1
      have HLT := Lib.hid hlt
      have HJL := Lib.hid (show (zs.take j).length ≤ 1000 by rw [List.length_take]; omega)
      have HC := Lib.hid (HGJ.out wr j hlt HB1.out)
      generalize hzz : zs.getD j 0 = z at HC
      have HZZ := Lib.hid hzz
      clear hzz
      go_wp2_with fail
      refine HC.out.mono ?_
      rintro e w1 ⟨rfl, rfl⟩
      go_wp2_with (at_builtin; refine wpList_append_own _ rfl _ _ 22 rfl (w.heap.size + 2) 3 i0 (.int .i64 0) 1 8 Try.underlying22 hi hz0 hz1 hz2 rfl (by decide) _ _ _ rfl (hown.alloc _) ⟨wr.heap.size, 0, none⟩ 1 1 [.int .i64 z] rfl rfl ?c1 ?c2 ?c3 ?c4 ?c5 ?_)
      case c1 =>
        intro j u hj
        match j, hj with
        | 0, hj => simp at hj; subst hj; simp [Addr.add]
      case c2 => intro u hu; simp at hu; subst hu; rfl
      case c3 => have := HJL.out; unfold maxLen; omega
      case c4 => have := HJL.out; omega
      case c5 => simp; omega
      intro v' w1 hown' hgrow _
      have B1 : Below (w.heap.size + 2) wr w1 := ((Below.refl _ _).alloc (by omega) _).grown hgrow (by simp; omega) fun g hg => (hown.lt g hg).1
      have X2 := Lib.hid (HX1.out.kept B1 (by omega) (by omega))
      have Y2 := Lib.hid (HY1.out.kept B1 (by omega) (by omega))
      have B2 := Lib.hid (HB1.out.trans (B1.mono (by omega)))
      have O2 : Hid (w1.ownsRow (w.heap.size + 2) 3 1 v' (zs.take (j + 1)).length ((zs.take (j + 1)).map (Value.int .i64))) := own_snoc HLT.out (by rw [HZZ.out]; simpa using hown')
      clear hown hown' hgrow B1 y0 y1 y2 y3 HX1 HY1 HB1
      obtain ⟨nn, hnn⟩ : ∃ nn, (zs.take (j + 1)).length = nn := ⟨_, rfl⟩
      have o3 := O2.out
      rw [hnn] at o3
      obtain ⟨av, cv, rfl, _⟩ := own_room o3
      have O3 := Lib.hid o3
      have HNN := Lib.hid hnn
      clear hnn o3 O2
      obtain ⟨⟨y0, y1, y2, y3⟩, yf, _⟩ := Y2.out
      have yf2 := yf 2
      clear yf
      go_wp2
      go_roundw
      case rel => exact ⟨j + 1, by omega, by go_num, Lib.hid ⟨_, X2.out.other (by omega) 2 _, Y2.out.put2 _, own_set (by rw [HNN.out]; exact O3.out) (by omega), B2.out.setCell (p := ⟨w.heap.size + 1, 2, none⟩) (by simp) _⟩⟩
      case measure => simp [intOf]; omega
    · have e : j = zs.length := by omega
      subst e
      rw [List.take_length] at hown
      obtain ⟨a4, c4, rfl, _⟩ := own_room hown
      have Y5 := Lib.hid Y1
      have X5 := Lib.hid X1
      have B5 := Lib.hid hb1
      have O5 : Hid (ObjHi (w.heap.size + 1) wr (.slice a4 zs.length c4) (.slice none 0 0) ⟨c, 1, zs, []⟩) :=
        ⟨RowI.own hown HWI.out, rowB_nil _, ⟨by have := I0.out; show _ ≤ c; omega, by have := I0.out; show c ≤ _; omega⟩, ⟨by show _ ≤ (1 : Int); omega, by show (1 : Int) ≤ _; omega⟩, Hi.own hown (by omega), Hi.nil _ _ _⟩
      obtain ⟨⟨y0, y1, y2, y3⟩, _, _⟩ := Y1
      clear X1 hb1 hown
      go_wp2_with fail
      refine (refcheck_any _ ⟨c, 1, zs, []⟩ _ O5.out.obj ⟨by show zs.length ≤ _; have := HM.out; omega, by simp⟩).mono ?_
      rintro e w6 ⟨rfl, hb6⟩
      clear y0 y1 y2 y3
      have Y6 := Lib.hid (Y5.out.kept hb6 Y5.out.2.2 (Nat.le_refl _))
      have X6 := Lib.hid (X5.out.kept hb6 X5.out.2.2 (Nat.le_refl _))
      have O6 := Lib.hid (O5.out.kept hb6)
      have B6 := Lib.hid (B5.out.trans (hb6.mono B5.out.size))
      clear hb6
      obtain ⟨⟨y0, y1, y2, y3⟩, _, _⟩ := Y6.out
      obtain ⟨⟨z0, z1, z2, z3⟩, zf, _⟩ := X6.out
      have zf0 := zf 0
      have zf1 := zf 1
      have zf2 := zf 2
      have zf3 := zf 3
      clear zf
      cases hok : okO ⟨c, 1, zs, []⟩ with
      | true =>
        have HD2 : Hid (decB xs = true) := HD.out.1.trans hok
        rw [chk_is hok]
        clear hok
        go_wp2
        exact bodyPost_ret (res_box2 rfl rfl (X6.out.put _ _ _ _)) rfl
          ⟨fun _ => ⟨_, rfl, by rw [HD.out.2]; exact (O6.out.abv (Abv.put (by omega))).obj, put_below B6.out (Nat.le_refl _)⟩, fun h => by rw [HD2.out] at h; cases h⟩
      | false =>
        have HD2 : Hid (decB xs = false) := HD.out.1.trans hok
        rw [chk_not hok]
        clear hok
        go_wp2
        exact bodyPost_ret (res_box2 rfl rfl (X6.out.put _ _ _ _)) rfl
          ⟨fun h => (by rw [HD2.out] at h; cases h), fun _ => ⟨rfl, put_below B6.out (Nat.le_refl _)⟩⟩

theorem refdec_any (v : Value) (xs : List Int) (w : World) (h : RowB w v xs) (hl2 : xs.length ≤ 10000) : Calls Try.prog 16 #[v] w (DecPost xs w) := by
  have no : decB xs = false → Calls Try.prog 16 #[v] w (DecNo w) → Calls Try.prog 16 #[v] w (DecPost xs w) := fun hd hc => hc.mono fun _ _ h => ⟨fun h' => by rw [hd] at h'; (cases h'), fun _ => h⟩
  have hg : ∀ at_ : Int, 0 ≤ at_ → at_ ≤ 8 → Hid (∀ w', Below w.heap.size w w' → Calls Try.prog 36 #[v, .int .i64 at_] w' fun en w'' => en = .returned (.tuple #[.int .i64 (getV xs at_), .int .i64 (getE xs at_)]) ∧ w' = w'') := fun at_ h0 h8 w' hb => get_ref v xs at_ w' (h.1.kept hb) h.2.1.bytes (by omega) (by omega) (by omega)
  by_cases hl : xs.length < 12
  · have hd : decB xs = false := by unfold decB; simp; omega
    have e8 : getE xs 8 = 2 := (get_no' (by omega)).2.symm
    refine no hd ?_
    have g0 := hg 0 (by omega) (by omega)
    have g4 := hg 4 (by omega) (by omega)
    have g8 := hg 8 (by omega) (by omega)
    by_cases q0 : getE xs 0 = 0
    · by_cases q4 : getE xs 4 = 0
      · rw [q0] at g0; rw [q4] at g4
        exact refdec_g v w _ _ _ _ g0 g4 g8 (by rw [e8]; rfl)
      · rw [q0] at g0
        exact refdec_f v w _ _ _ _ _ g0 g4 g8 (by simpa using q4)
    · exact refdec_e v w _ _ _ _ _ _ g0 g4 g8 (by simpa using q0)
  have hl : 12 ≤ xs.length := by omega
  have g0 := get_at v xs w h hl2 0 (by omega)
  have g4 := get_at v xs w h hl2 4 (by omega)
  have g8 := get_at v xs w h hl2 8 (by omega)
  have hf : decB xs = true → 0 ≤ wd xs 8 ∧ wd xs 8 ≤ 1000 ∧ ((wd xs 4 = 1 ∧ (xs.length : Int) = 12 + 4 * wd xs 8) ∨ (wd xs 4 = 2 ∧ (xs.length : Int) = 12 + wd xs 8)) := fun hd => by
    have := dec_parts hd
    exact ⟨this.2.2.1, this.2.2.2.1, this.2.2.2.2⟩
  have nod : ¬ (0 ≤ wd xs 8 ∧ wd xs 8 ≤ 1000 ∧ ((wd xs 4 = 1 ∧ (xs.length : Int) = 12 + 4 * wd xs 8) ∨ (wd xs 4 = 2 ∧ (xs.length : Int) = 12 + wd xs 8))) → decB xs = false := fun hn => by
    cases hd : decB xs with
    | false => rfl
    | true => exact absurd (hf hd) hn
  by_cases h0 : wd xs 8 < 0
  · exact no (nod (by omega)) (refdec_neg v w _ _ _ g0 g4 g8 h0)
  by_cases h1 : 1000 < wd xs 8
  · exact no (nod (by omega)) (refdec_big v w _ _ _ g0 g4 g8 h0 h1)
  by_cases hk : wd xs 4 = 1
  · by_cases hn : (xs.length : Int) = 12 + 4 * wd xs 8
    · exact refdec_words v xs w h hl hl2 hk (by omega) (by omega) hn
    · refine no (nod (by omega)) ?_
      rw [hk] at g4
      obtain ⟨_, _, a, cp, rfl, _⟩ := h
      exact refdec_len1 a _ cp w _ _ g0 g4 g8 (by omega) (by omega) (by simpa using hn)
  · by_cases hn : (xs.length : Int) = 12 + wd xs 8
    · exact refdec_bytes v xs w h hl hl2 hk (by omega) (by omega) hn
    · refine no (nod (by omega)) ?_
      obtain ⟨_, _, a, cp, rfl, _⟩ := h
      exact refdec_len2 a _ cp w _ _ _ g0 g4 g8 (by omega) (by omega) (by simpa using hk) (by simpa using hn)
end Go.Proofs.Ytbkojjbigilclaa
