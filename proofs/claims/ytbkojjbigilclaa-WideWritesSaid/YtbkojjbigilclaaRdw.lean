/- What the chapter's Decode returns of any bytes: the object, or the error (the ways on which something is read). -/
import Derived.Test.YtbkojjbigilclaaRdc
import Derived.Test.YtbkojjbigilclaaKn
namespace Go.Proofs.Ytbkojjbigilclaa
open Go.ChangeShapes Go.WideShapes Go.ChangeAt Go.RowKit
set_option maxRecDepth 1000000

theorem get_at (v : Value) (xs : List Int) (w : World) (h : RowB w v xs) (hl2 : xs.length ≤ 10000) (p : Nat) (hp : p + 4 ≤ xs.length) : Hid (∀ w', Below w.heap.size w w' → Calls Try.prog 36 #[v, .int .i64 p] w' fun en w'' => en = .returned (.tuple #[.int .i64 (wd xs p), .int .i64 0]) ∧ w' = w'') := fun w' hb =>
  get_ref_yes v xs p w' (h.1.kept hb) h.2.1.bytes (by omega) hp
theorem dec_is_bytes {xs : List Int} (hl : 12 ≤ xs.length) (hk : wd xs 4 ≠ 1) (h0 : 0 ≤ wd xs 8) (h1 : wd xs 8 ≤ 1000) (hn : (xs.length : Int) = 12 + wd xs 8) : decB xs = okO ⟨wd xs 0, wd xs 4, [], xs.drop 12⟩ ∧ rdO xs = ⟨wd xs 0, wd xs 4, [], xs.drop 12⟩ := by
  have hr : rdO xs = ⟨wd xs 0, wd xs 4, [], xs.drop 12⟩ := by unfold rdO; rw [if_neg hk]
  refine ⟨?_, hr⟩
  cases hd : decB xs with
  | true =>
    have := (dec_parts hd).2.1
    rw [hr] at this; exact this.symm
  | false =>
    cases ho : okO ⟨wd xs 0, wd xs 4, [], xs.drop 12⟩ with
    | false => rfl
    | true =>
      obtain ⟨_, ⟨h, _⟩ | ⟨h, _⟩⟩ := (okO_iff _).1 ho
      · exact absurd h hk
      · have h : wd xs 4 = 2 := h
        unfold decB fitsB at hd
        rw [hr, ho] at hd
        simp [hl, h0, h1, h] at hd
        omega
theorem dec_is_words {xs : List Int} (hl : 12 ≤ xs.length) (hk : wd xs 4 = 1) (h0 : 0 ≤ wd xs 8) (h1 : wd xs 8 ≤ 1000) (hn : (xs.length : Int) = 12 + 4 * wd xs 8) : decB xs = okO ⟨wd xs 0, 1, ws (xs.drop 12), []⟩ ∧ rdO xs = ⟨wd xs 0, 1, ws (xs.drop 12), []⟩ := by
  have hr : rdO xs = ⟨wd xs 0, 1, ws (xs.drop 12), []⟩ := by unfold rdO; rw [if_pos hk]
  refine ⟨?_, hr⟩
  cases hd : decB xs with
  | true =>
    have := (dec_parts hd).2.1
    rw [hr] at this; exact this.symm
  | false =>
    cases ho : okO ⟨wd xs 0, 1, ws (xs.drop 12), []⟩ with
    | false => rfl
    | true =>
      unfold decB fitsB at hd
      rw [hr, ho] at hd
      simp [hl, h0, h1, hk] at hd
      omega
theorem some_addr {w : World} {xs : List Int} {a : Option Addr} {c : Nat} (hv : Bts w (.slice a xs.length c) xs) (hl : 12 ≤ xs.length) : ∃ b off, a = some ⟨b, off, none⟩ := by
  obtain ⟨a', c', he, h⟩ := hv
  injection he with e1 e2 e3
  subst e1
  rcases h with rfl | ⟨b, off, ha, _⟩
  · simp at hl
  · exact ⟨b, off, ha⟩

set_option maxHeartbeats 1000000 in
theorem refdec_bytes (v : Value) (xs : List Int) (w : World) (h : RowB w v xs) (hl : 12 ≤ xs.length) (hl2 : xs.length ≤ 10000) (hk : wd xs 4 ≠ 1) (h0 : 0 ≤ wd xs 8) (h1 : wd xs 8 ≤ 1000) (hn : (xs.length : Int) = 12 + wd xs 8) :
    Calls Try.prog 16 #[v] w (DecPost xs w) := by
  have HD := Lib.hid (dec_is_bytes hl hk h0 h1 hn)
  have HG0 := get_at v xs w h hl2 0 (by omega)
  have HG4 := get_at v xs w h hl2 4 (by omega)
  have HG8 := get_at v xs w h hl2 8 (by omega)
  have HY := Lib.hid h.2.1
  have I0 := Lib.hid (wd_in xs 0 h.2.1.bytes)
  have I4 := Lib.hid (wd_in xs 4 h.2.1.bytes)
  have hv := h.1
  obtain ⟨_, _, a, cp, rfl, hc⟩ := h
  obtain ⟨b, off, rfl⟩ := some_addr hv hl
  have HV := Lib.hid hv
  have h12 : (12 : Int) ≤ cp := by omega
  have h12' : (12 : Int) ≤ xs.length := by omega
  have hk' : (wd xs 4 == 1) = false := by simpa using hk
  have hn' : ((xs.length : Int) != 12 + wd xs 8) = false := by simp [hn]
  obtain ⟨o2, ho2, R2⟩ : ∃ o2, (if cp = 12 then some (⟨b, off, none⟩ : Addr) else some ⟨b, off + 12, none⟩) = some ⟨b, o2, none⟩ ∧ Hid (∀ w', Bts w' (.slice (some ⟨b, off, none⟩) xs.length cp) xs → Bts w' (.slice (some ⟨b, o2, none⟩) (xs.length - 12) (cp - 12)) (xs.drop 12)) := by
    by_cases h0 : cp = 12
    · refine ⟨off, by rw [if_pos h0], fun w' hv => ?_⟩
      have e : xs.drop 12 = [] := List.drop_eq_nil_of_le (by omega)
      rw [e]
      exact ⟨_, _, by rw [show xs.length - 12 = 0 by omega]; rfl, .inl rfl⟩
    · exact ⟨off + 12, by rw [if_neg h0], fun w' hv => bts_drop hv 12 hl⟩
  have LD := Lib.hid (show (xs.drop 12).length = xs.length - 12 by rw [List.length_drop])
  have HYD := Lib.hid (HY.out.drop 12)
  change Hid (∀ w', Below w.heap.size w w' → Calls Try.prog 36 #[.slice (some ⟨b, off, none⟩) xs.length cp, .int .i64 0] w' fun en w'' => en = .returned (.tuple #[.int .i64 (wd xs 0), .int .i64 0]) ∧ w' = w'') at HG0
  change Hid (∀ w', Below w.heap.size w w' → Calls Try.prog 36 #[.slice (some ⟨b, off, none⟩) xs.length cp, .int .i64 4] w' fun en w'' => en = .returned (.tuple #[.int .i64 (wd xs 4), .int .i64 0]) ∧ w' = w'') at HG4
  change Hid (∀ w', Below w.heap.size w w' → Calls Try.prog 36 #[.slice (some ⟨b, off, none⟩) xs.length cp, .int .i64 8] w' fun en w'' => en = .returned (.tuple #[.int .i64 (wd xs 8), .int .i64 0]) ∧ w' = w'') at HG8
  have LB := Lib.hid (show xs.length - 12 ≤ 9988 by omega)
  clear hv hk hn hl
  generalize wd xs 0 = c at *
  generalize wd xs 4 = k at *
  generalize wd xs 8 = n at *
  generalize hys : xs.drop 12 = ys at *
  clear hys
  have X := Lib.hid (two_boxes w (.int .i64 0) (.int .i64 0) (.slice none 0 0) (.slice none 0 0) (.int .i64 c) (.int .i64 k) (.slice none 0 0) (.slice none 0 0))
  have BA : Hid (Below w.heap.size w (w.alloc (.cells #[.int .i64 0, .int .i64 0, .slice none 0 0, .slice none 0 0] 25))) := (Below.refl _ _).alloc (Nat.le_refl _) _
  have BB : Hid (Below w.heap.size w ((w.alloc (.cells #[.int .i64 0, .int .i64 0, .slice none 0 0, .slice none 0 0] 25)).alloc (.cells #[.int .i64 c, .int .i64 k, .slice none 0 0, .slice none 0 0] 25))) := BA.out.alloc BA.out.size _
  go_enter Try.func16, Try.ntmps16
  go_wp2_with fail
  refine (HG0.out _ BA.out).mono ?_
  rintro e w1 ⟨rfl, rfl⟩
  go_wp2_with fail
  refine (HG4.out _ BA.out).mono ?_
  rintro e w1 ⟨rfl, rfl⟩
  go_wp2_with fail
  refine (HG8.out _ BA.out).mono ?_
  rintro e w1 ⟨rfl, rfl⟩
  go_wp2_with fail
  refine (copy_any _ ys _ (R2.out _ (HV.out.kept BB.out)) (by have := LD.out; have := LB.out; omega)).mono ?_
  rintro e w4 ⟨v4, rfl, hr4, hb4⟩
  obtain ⟨a4, c4, rfl, _⟩ := own_room hr4
  have hq : w.heap.size + 1 < ((w.alloc (.cells #[.int .i64 0, .int .i64 0, .slice none 0 0, .slice none 0 0] 25)).alloc (.cells #[.int .i64 c, .int .i64 k, .slice none 0 0, .slice none 0 0] 25)).heap.size := X.out.2.2.2
  have X4 := Lib.hid (X.out.1.next hb4)
  have Y4 := Lib.hid (X.out.2.next hb4)
  have B4 := Lib.hid (BB.out.trans (hb4.mono BB.out.size))
  have O4 : Hid (ObjHi (w.heap.size + 1) w4 (.slice none 0 0) (.slice a4 ys.length c4) ⟨c, k, [], ys⟩) :=
    ⟨rowI_nil _, RowB.own hr4 HYD.out, ⟨by have := I0.out; show _ ≤ c; omega, by have := I0.out; show c ≤ _; omega⟩, ⟨by have := I4.out; show _ ≤ k; omega, by have := I4.out; show k ≤ _; omega⟩, Hi.nil _ _ _, Hi.own hr4 hq⟩
  clear hr4 hb4 hq
  obtain ⟨⟨y0, y1, y2, y3⟩, yf, _⟩ := Y4.out
  have yf2 := yf 3
  clear yf
  go_wp2_with fail
  have Y5 := Lib.hid (Y4.out.put3 (.slice a4 ys.length c4))
  have X5 := Lib.hid (X4.out.other (show w.heap.size ≠ w.heap.size + 1 by omega) 3 (.slice a4 ys.length c4))
  have O5 := Lib.hid (O4.out.abv (Abv.set (w.heap.size + 1) w4 (w.heap.size + 1) 3 (.slice a4 ys.length c4) (Nat.le_refl _)))
  have B5 := Lib.hid (B4.out.setCell (p := ⟨w.heap.size + 1, 3, none⟩) (by simp) (.slice a4 ys.length c4))
  clear y0 y1 y2 y3 yf2
  generalize w4.setCell ⟨w.heap.size + 1, 3, none⟩ (.slice a4 ys.length c4) = w5 at *
  refine (refcheck_any _ ⟨c, k, [], ys⟩ _ O5.out.obj ⟨by simp, by show ys.length ≤ _; have := LD.out; have := LB.out; omega⟩).mono ?_
  rintro e w6 ⟨rfl, hb6⟩
  have Y6 := Lib.hid (Y5.out.kept hb6 Y5.out.2.2 (Nat.le_refl _))
  have X6 := Lib.hid (X5.out.kept hb6 X5.out.2.2 (Nat.le_refl _))
  have O6 := Lib.hid (O5.out.kept hb6)
  have B6 := Lib.hid (B5.out.trans (hb6.mono B5.out.size))
  clear hb6
  obtain ⟨⟨y0, y1, y2, y3⟩, _, _⟩ := Y6.out
  obtain ⟨⟨z0, z1, z2, z3⟩, zf, _⟩ := X6.out
  have zf0 := zf 0
  have zf1 := zf 1
  have zf2 := zf 2
  have zf3 := zf 3
  clear zf
  cases hok : okO ⟨c, k, [], ys⟩ with
  | true =>
    have HD2 : Hid (decB xs = true) := HD.out.1.trans hok
    rw [chk_is hok]
    clear hok
    go_wp2
    exact bodyPost_ret (res_box2 rfl rfl (X6.out.put _ _ _ _)) rfl
      ⟨fun _ => ⟨_, rfl, by rw [HD.out.2]; exact (O6.out.abv (Abv.put (by omega))).obj, put_below B6.out (Nat.le_refl _)⟩, fun h => by rw [HD2.out] at h; cases h⟩
  | false =>
    have HD2 : Hid (decB xs = false) := HD.out.1.trans hok
    rw [chk_not hok]
    clear hok
    go_wp2
    exact bodyPost_ret (res_box2 rfl rfl (X6.out.put _ _ _ _)) rfl
      ⟨fun h => (by rw [HD2.out] at h; cases h), fun _ => ⟨rfl, put_below B6.out (Nat.le_refl _)⟩⟩
end Go.Proofs.Ytbkojjbigilclaa
