/- What New of the chapter tells where it makes something. -/
import Derived.Test.YtmaeoefimkppoaaXc
namespace Go.Proofs.Ytmaeoefimkppoaa.Fl
set_option maxRecDepth 1000000
open Go.ChangeShapes Go.WideShapes Go.ChangeAt Go.RowKit
open Go.Proofs.Ytmaeoefimkppoaa.Wd

set_option maxHeartbeats 4000000 in
theorem new10_yes {N : Nat → Prop} {w : World} {v : Value} {L : List RO} (h : RmV N w v L) (hl : L.length ≤ 1000000) (c k : Int) (n : Nat) (hc : In64 c) (hN : okN c k n = true) (hb : namB c = true) (hk : k = 1 ∨ k = 2) (hn : n ≤ 1000) :
    Calls Try.prog 31 #[.agg #[v], .int .i64 c, .int .i64 k, .int .i64 n] w (New10 N L c k n w) := by
  have HM := Lib.hid (fun w => named_ref c w hc.1 hc.2)
  rw [hb] at HM
  have HV := Lib.hid h
  have HL := Lib.hid hl
  have HKK := Lib.hid hk
  obtain ⟨a, cc, rfl⟩ := h.form
  have S0 := Lib.hid (nws_start w (.slice a L.length cc) c k)
  have HF : Hid (∀ (e : Ending) (w' : World) (a' : Option Addr) (c' : Nat) (L' : List RO), e = .returned (.tuple #[.agg #[.slice a' (L.length + 1) c'], .int .i64 (2 * ((L.length : Int) + 1)), .int .i64 0]) → RmV (fun g => N g ∨ w.heap.size ≤ g) w' (.slice a' (L.length + 1) c') L' → memR L' = memR L ++ [some (blk c k n)] → Below w.heap.size w w' → New10 N L c k n w e w') := Lib.hid fun e w' a' c' L' he h1 h2 h3 => by
    subst he
    refine ⟨_, _, _, L', ?_, h1, ?_, h3⟩
    · unfold newN newE; simp [hN, memR_len]
    · unfold newF; simp [hN, h2]
  have HOK : Hid (okO (blk c k n) = true ∧ ByL (blk c k n).b ∧ (blk c k n).k ≠ 0) := Lib.hid ⟨by rw [okO_blk hn]; exact hN, blk_byL _ _ _, by show k ≠ 0; omega⟩
  obtain ⟨c0, f0, l0⟩ := S0.out.b0
  obtain ⟨c1, f1, l1⟩ := S0.out.b1
  generalize hQ : New10 N L c k n w = Q at *
  generalize namV c = zc at *
  have dk1 : decide (k < 1) = false := by simp; omega
  have dk2 : decide (2 < k) = false := by simp; omega
  have dn0 : decide ((n : Int) < 0) = false := by simp
  have dn1 : decide ((1000 : Int) < n) = false := by simp; omega
  have dn2 : decide (1000 < n) = false := by simp; omega
  clear hQ h hN hb hk
  go_enter Try.func31, Try.ntmps31
  go_wp2_with (go_at_call 52; refine (HM.out _).mono ?_; rintro e w1 ⟨rfl, rfl⟩)
  clear dk1 dk2 dn0 dn1 dn2 c0 f0 l0 c1 f1 l1
  generalize ((w.alloc (.cells #[.slice a L.length cc] 29)).alloc (.cells #[.slice none 0 0] 29)).alloc (.cells #[.int .i64 c, .int .i64 k, .slice none 0 0, .slice none 0 0] 33) = w3 at *
  go_loopw [14] (fun s wr => ∃ i : Nat, i ≤ n ∧ s = .int .i64 i ∧ ∃ z u, NwS w (.slice a L.length cc) c k i wr z u) (fun s _ => n - (RowKit.intOf s).toNat)
  case atStart => exact ⟨0, Nat.zero_le _, rfl, _, _, S0.out⟩
  case round =>
    obtain ⟨i, hi, rfl, z, u, hs⟩ := hrel
    have S := Lib.hid hs
    clear hs
    by_cases hlt : i < n
    · have d1 : decide ((i : Int) < n) = true := by simpa using hlt
      have d2 : decide (i < n) = true := by simpa using hlt
      have hw2 : IntKind.i64.wrap ((i : Int) + 1) = (i : Int) + 1 := by rw [IntKind.wrap_i64]; omega
      have hsz := S.out.sz
      rcases HKK.out with rfl | rfl
      · have hown := S.out.r1
        rw [(blk_w rfl i).1, List.length_replicate] at hown
        obtain ⟨az, cz, rfl⟩ := own_form hown
        obtain ⟨⟨q0, q1, q2, q3⟩, qf, _⟩ := S.out.bx
        obtain ⟨i0, hi0, hz0, hz1, hz2⟩ := info_parts Try.info3
        go_wp2_with (at_builtin; refine wpList_append_own_at _ rfl _ _ 30 rfl (w.heap.size + 3) 3 i0 (.int .i64 0) 1 8 Try.underlying30 hi0 hz0 hz1 hz2 rfl (by decide) _ _ _ rfl (hown.alloc _) ⟨wr.heap.size, 0, none⟩ 1 1 [.int .i64 2] rfl rfl ?c1 ?c2 ?c3 ?c4 ?c5 ?_)
        case c2 => rfl
        case c3 => unfold maxLen; omega
        case c4 => omega
        case c5 => omega
        intro v' w4 hown3 hgr3 hnil3 hat3
        obtain ⟨a', c', rfl⟩ := own_form hown3
        have b3 : Below (w.heap.size + 3) wr w4 := ((below_new wr _).mono hsz).trans (grown_below hgr3 (fun g hg => (hown.lt g hg).1) (by simp; omega))
        have X4 := S.out.bx.kept b3 (by omega) hsz
        have S4 := Lib.hid (S.out.word (by rw [List.map_replicate]; exact hown3) hgr3)
        clear hown3 hgr3 hnil3 hat3 hown b3 q0 q1 q2 q3 qf
        obtain ⟨⟨q0, q1, q2, q3⟩, qf, _⟩ := X4
        go_wp2_with fail
        exact ⟨⟨i + 1, by omega, by go_num, _, _, S4.out⟩, by simp [RowKit.intOf]; omega⟩
      · have hown := S.out.r2
        rw [(blk_b rfl i).2, List.length_replicate] at hown
        obtain ⟨az, cz, rfl⟩ := own_form hown
        obtain ⟨⟨q0, q1, q2, q3⟩, qf, _⟩ := S.out.bx
        obtain ⟨i0, hi0, hz0, hz1, hz2⟩ := info_parts Try.info5
        go_wp2_with (at_builtin; refine wpList_append_own_at _ rfl _ _ 31 rfl (w.heap.size + 3) 5 i0 (.int .u8 0) 1 1 Try.underlying31 hi0 hz0 hz1 hz2 rfl (by decide) _ _ _ rfl (hown.alloc _) ⟨wr.heap.size, 0, none⟩ 1 1 [.int .u8 0] rfl rfl ?d1 ?d2 ?d3 ?d4 ?d5 ?_)
        case d2 => rfl
        case d3 => unfold maxLen; omega
        case d4 => omega
        case d5 => omega
        intro v' w4 hown3 hgr3 hnil3 hat3
        obtain ⟨a', c', rfl⟩ := own_form hown3
        have b3 : Below (w.heap.size + 3) wr w4 := ((below_new wr _).mono hsz).trans (grown_below hgr3 (fun g hg => (hown.lt g hg).1) (by simp; omega))
        have X4 := S.out.bx.kept b3 (by omega) hsz
        have S4 := Lib.hid (S.out.byte (by rw [List.map_replicate]; exact hown3) hgr3)
        clear hown3 hgr3 hnil3 hat3 hown b3 q0 q1 q2 q3 qf
        obtain ⟨⟨q0, q1, q2, q3⟩, qf, _⟩ := X4
        go_wp2_with fail
        exact ⟨⟨i + 1, by omega, by go_num, _, _, S4.out⟩, by simp [RowKit.intOf]; omega⟩
    · obtain rfl : n = i := by omega
      have d1 : decide ((n : Int) < n) = false := by simp
      have d2 : decide (n < n) = false := by simp
      have hsz := S.out.sz
      have PR : Hid (RIn (fun g => (N g ∧ g < w.heap.size) ∨ (w.heap.size + 3 ≤ g ∧ g < wr.heap.size)) wr (blk c k n, z, u)) := Lib.hid ⟨.inr ⟨HOK.out.1, HOK.out.2.1⟩, own_down S.out.r1 (Nat.zero_le _), own_down S.out.r2 (Nat.zero_le _), fun g hg => .inr (S.out.r1.lt g hg), fun g hg => .inr (S.out.r2.lt g hg)⟩
      obtain ⟨az, cz, e1⟩ := own_form S.out.r1
      obtain ⟨au, cu, e2⟩ := own_form S.out.r2
      generalize (blk c k n).w.length = nz at e1
      generalize (blk c k n).b.length = nu at e2
      subst e1 e2
      have VC : RmV (fun g => N g ∧ g < w.heap.size) wr (.slice a L.length cc) L := (HV.out.kind (M := fun g => N g ∧ g < w.heap.size) (fun g hg hN => ⟨hN, hg⟩)).fresh S.out.bl
      obtain ⟨v3, w4, happ, rn4, hg4, hat4⟩ := append_rows (N := fun g => (N g ∧ g < w.heap.size) ∨ (w.heap.size + 3 ≤ g ∧ g < wr.heap.size)) (M := fun g => N g ∧ g < w.heap.size) (B := wr.heap.size) wr (.slice none 0 0) _ [] L (rnk_nil _ _ _) (fun k _ e => by cases e) VC (fun k hk => ⟨fun e => (by cases e), .inl hk⟩) (by have := HL.out; simp; omega) (Nat.le_refl _) 27
      rw [List.nil_append] at rn4
      have b4 : Below wr.heap.size wr w4 := grown_below hg4 (fun g hg => by cases hg) (Nat.le_refl _)
      have HAPP := Lib.hid happ
      have S4 := Lib.hid (S.out.next b4)
      obtain ⟨a3, c3, rfl⟩ := rn4.form
      have lt3 : ∀ g, (Value.slice a3 L.length c3).ownBlock = some g → wr.heap.size ≤ g := fun g hg => (rn4.own.lt g hg).1
      obtain ⟨v6, w6, happ6, rn6, hg6, hat6⟩ := append_row (N := fun g => (N g ∧ g < w.heap.size) ∨ (w.heap.size + 3 ≤ g ∧ g < wr.heap.size)) (B := wr.heap.size) (w4.alloc (.cells #[.int .i64 c, .int .i64 k, .slice az nz cz, .slice au nu cu] 33)) (.slice a3 L.length c3) L (rn4.fresh (below_new _ _)) (fun g hg e => by
          have := lt3 g e
          rcases hg with hg | hg
          · have := hg.2; omega
          · omega) (blk c k n, .slice az nz cz, .slice au nu cu) ((PR.out.fresh b4).fresh (below_new _ _)) w4.heap.size (fun j x hx => by
          rw [World.cell?_alloc_at _ _ _ _ rfl]
          have e1 : cells4 (blk c k n, .slice az nz cz, .slice au nu cu) = [.int .i64 c, .int .i64 k, .slice az nz cz, .slice au nu cu] := rfl
          rw [e1] at hx
          simpa using hx) (by have := HL.out; omega) (by have := b4.size; simp; omega) 27
      have b6 : Below wr.heap.size w4 w6 := ((below_new w4 _).mono b4.size).trans (grown_below hg6 lt3 (by have := b4.size; simp; omega))
      have S6 : Hid (Below w.heap.size w w6 ∧ B1 (w.heap.size + 1) (.slice none 0 0) w6) := Lib.hid ⟨(S.out.bl.trans (b4.mono S.out.bl.size)).trans (b6.mono (by omega)), S4.out.b1.kept b6 (by omega)⟩
      obtain ⟨a6, c6, hv6⟩ := rn6.form
      rw [List.length_append, List.length_singleton] at hv6
      subst hv6
      have HAPP6 := Lib.hid happ6
      have R6 : Hid (RmV (fun g => ((N g ∧ g < w.heap.size) ∨ (w.heap.size + 3 ≤ g ∧ g < wr.heap.size)) ∨ wr.heap.size ≤ g) w6 (.slice a6 (L.length + 1) c6) (L ++ [(blk c k n, .slice az nz cz, .slice au nu cu)])) := Lib.hid rn6.rm
      have HMP : Hid (memR (L ++ [(blk c k n, .slice az nz cz, .slice au nu cu)]) = memR L ++ [some (blk c k n)]) := Lib.hid (memR_push L HOK.out.2.2)
      obtain ⟨k0, _, _⟩ := S.out.b0
      obtain ⟨⟨q0, q1, q2, q3⟩, _, _⟩ := S4.out.bx
      obtain ⟨m0, m1, m2⟩ := S6.out.2
      have hlw : wrap64 (2 * ((L.length : Int) + 1)) = 2 * ((L.length : Int) + 1) := IntWalk.wrap64_in _ (by have := HL.out; omega)
      have hlw2 : IntKind.i64.wrap (2 * ((L.length : Int) + 1)) = 2 * ((L.length : Int) + 1) := by have := HL.out; rw [IntKind.wrap_i64]; omega
      have HSZ := Lib.hid hsz
      clear VC happ rn4 hg4 hat4 b4 happ6 rn6 hg6 hat6 b6 lt3 hsz hi hlt hl hn
      go_upto_region 13 with (at_builtin; refine wpList_append_eq _ rfl _ _ 27 rfl _ _ _ _ rfl rfl HAPP.out ?_)
      go_wp2_with (at_builtin; refine wpList_append_eq _ rfl _ _ 27 rfl _ _ _ _ rfl rfl HAPP6.out ?_)
      refine bodyPost_ret (res_m3 rfl rfl (S6.out.2.put (.slice a6 (L.length + 1) c6))) rfl ?_
      refine HF.out _ _ _ _ _ rfl ((R6.out.only ((Only.refl (· = w.heap.size + 1) w6).setCell ⟨w.heap.size + 1, 0, none⟩ rfl _) (fun g hg e => ?_)).mono fun g hg => ?_) HMP.out (S6.out.1.setCell (p := ⟨w.heap.size + 1, 0, none⟩) (by show w.heap.size ≤ w.heap.size + 1; omega) _)
      · have := HSZ.out
        rcases hg with (hg | hg) | hg
        · have := hg.2; omega
        · omega
        · omega
      · have := HSZ.out
        rcases hg with (hg | hg) | hg
        · exact .inl hg.1
        · exact .inr (by omega)
        · exact .inr (by omega)
theorem cnew_any {N : Nat → Prop} {w : World} {v : Value} {L : List RO} (h : RmV N w v L) (hl : L.length ≤ 1000000) (c k n : Int) (hc : In64 c) :
    Calls Try.prog 31 #[.agg #[v], .int .i64 c, .int .i64 k, .int .i64 n] w (New10 N L c k n w) := by
  rcases new_ways c k n with ⟨h1, h2, h3, h4, h5⟩ | ⟨h1, h2⟩
  · obtain ⟨q, rfl⟩ := Int.eq_ofNat_of_zero_le h4
    exact new10_yes h hl c k q hc h1 h2 h3 (by omega)
  · exact new10_no h c k n hc h1 h2
end Go.Proofs.Ytmaeoefimkppoaa.Fl
