/- HeapMoves' walk. -/
import Derived.Test.YtgfjfpfhalblgaaHMr
import Derived.Maps.AppendAt
import Derived.StillTailTactics
namespace Go.Proofs.Ytgfjfpfhalblgaa
set_option maxRecDepth 1000000
open Go.ChangeShapes Go.WideShapes Go.ChangeAt Go.RowKit

/-- While things are done to the heap. -/
def DoAt (W0 w : World) (c : Hp) (n i : Nat) : Prop := ∃ v B, HeapB W0 w c v n B ∧ B.length ≤ i
set_option maxHeartbeats 32000000 in
theorem heapMoves_walk (W : World) (x : Int) (hx : (Lit.int .u8 x).wf = true) (vl : Value) (L : List Todo) (hv : Dos W vl L) (hlen : L.length ≤ 2999999999999) :
    Calls Try.prog 3 #[.int .u8 x, vl] W fun e W' => e = .returned (.bool true) ∧ Below W.heap.size W W' := by
  obtain ⟨x0, x1⟩ := wf_u8 hx
  obtain ⟨n, rfl⟩ := Int.eq_ofNat_of_zero_le x0
  have HK := Lib.hid (fun w => known_any w)
  have HLo : Hid (Calls Try.prog 8 #[vl] W (LongPost W)) := Lib.hid (long_any vl L W hv)
  have HN : Hid (∀ w, Calls Try.prog 10 #[.int .i64 n] w (NewPost n w)) := Lib.hid (fun w => new_yes n w (by omega))
  have HAl : Hid (∀ (q : Int) (c : Hp) (v : Value) (B : List (Option Bk)) (w1 w0 : World), q ≤ 9223372036854775807 → B.length < 3000000000000 → HeapB w0 w1 c v n B → ∃ (u : Value) (B' : List (Option Bk)), B'.length ≤ B.length + 1 ∧ Calls Try.prog 11 #[.pointer (some ⟨c.h, 0, none⟩), .int .i64 q] w1 (HeapPost u c v n B' w1)) :=
    Lib.hid (fun q c v B w1 w0 hq hl h => alloc_some q h.is hl hq)
  have HFr : Hid (∀ (k : Int) (c : Hp) (v : Value) (B : List (Option Bk)) (w1 w0 : World), HeapB w0 w1 c v n B → ∃ (t : Int) (B' : List (Option Bk)), B'.length = B.length ∧ Calls Try.prog 12 #[.pointer (some ⟨c.h, 0, none⟩), .int .i64 k] w1 (HeapPost (.int .i64 t) c v n B' w1)) :=
    Lib.hid (fun k c v B w1 w0 h => free_any k h.is)
  have HWr : Hid (∀ (N : Nat → Prop) (k i : Int) (u : Value) (ws : List Int) (c : Hp) (v : Value) (B : List (Option Bk)) (w1 w0 : World), HeapB w0 w1 c v n B → Ints N w1 u ws → ws.length ≤ 9223372036854775807 → ∃ (t : Int) (B' : List (Option Bk)), B'.length = B.length ∧ Calls Try.prog 13 #[.pointer (some ⟨c.h, 0, none⟩), .int .i64 k, .int .i64 i, u] w1 (HeapPost (.int .i64 t) c v n B' w1)) :=
    Lib.hid (fun N k i u ws c v B w1 w0 h hu hl => write_any k i u ws h.is hu hl)
  have HV := Lib.hid hv
  have HL := Lib.hid hlen
  obtain ⟨al, cl, rfl, _⟩ := hv
  clear hx x0 hlen
  go_enter Try.func3, Try.ntmps3
  go_wp2_with fail
  refine HLo.out.mono ?_
  rintro e w0 ⟨b, rfl, d, hw0⟩
  have BW0 : Hid (Below W.heap.size W w0) := Lib.hid (by rw [hw0]; exact below_drewN (Below.refl _ _) _)
  clear hw0 HLo
  cases b with
  | true =>
    go_wp2_with fail
    refine (HK.out w0).mono ?_
    rintro e w9 ⟨rfl, b9⟩
    have B9 := Lib.hid (BW0.out.trans (b9.mono BW0.out.size))
    clear b9
    go_wp2_with fail
    go_ret
    exact ⟨rfl, B9.out⟩
  | false =>
    go_wp2_with fail
    refine (HN.out w0).mono ?_
    rintro e w1 p
    obtain ⟨c, rfl, h1, _⟩ := heapB_new p
    have H1 := Lib.hid h1
    clear p h1 HN
    go_wp2_with fail
    go_loopg [7] L.length (fun g s7 wr => ∃ i : Nat, s7 = .int .i64 i ∧ i ≤ L.length ∧ L.length - i ≤ g ∧ Hid (DoAt w0 wr c n i))
    case atStart => exact ⟨0, rfl, Nat.zero_le _, by omega, Lib.hid ⟨_, _, H1.out, Nat.le_refl _⟩⟩
    case round =>
      obtain ⟨i, rfl, hil, hg, HI⟩ := hrel
      by_cases hlt : i < L.length
      · obtain ⟨v, B, hv, hBl⟩ := HI.out
        have HB := Lib.hid hv
        have HBL : Hid (B.length ≤ i) := hBl
        have hB3 : B.length < 3000000000000 := by have := HL.out; omega
        have hi3 : i < 2999999999999 := by have := HL.out; omega
        obtain ⟨b, off, cu, u, he, f1, f2, f3, f4, hat⟩ := HV.out.at_ hlt
        injection he with e1 _ e3
        subst e1 e3
        obtain ⟨c0, c1, c2, c3, hu⟩ := hat wr (BW0.out.trans (HB.out.bl.mono BW0.out.size))
        clear hat
        generalize L[i].q = q at *
        generalize L[i].k = k at *
        generalize L[i].i = z at *
        generalize L[i].ws = ws at *
        obtain ⟨au, cu', rfl, _⟩ := id hu
        rw [List.length_map] at *
        have HU := Lib.hid hu
        have hws : ws.length ≤ 9223372036854775807 := f4
        have hz : z ≤ 9223372036854775807 := (wf_i64 f3).2
        clear hu hv HI f1 f2 f3 f4
        by_cases q1 : q = 1
        · subst q1
          obtain ⟨t, B', hl', hc⟩ := HAl.out z c v B wr w0 hz hB3 HB.out
          have HC := Lib.hid hc
          clear hc
          go_wp2_with fail
          refine HC.out.mono ?_
          rintro e w2 p
          obtain ⟨rfl, v2, h2, _⟩ := HB.out.post p
          have H2 := Lib.hid h2
          clear p h2
          go_wp2_with fail
          go_roundg (L.length - (i + 1))
          case measure => omega
          case rel => exact ⟨i + 1, by go_num, by omega, Nat.le_refl _, Lib.hid ⟨v2, B', H2.out, by have := HBL.out; omega⟩⟩
        · by_cases q2 : q = 2
          · subst q2
            obtain ⟨t, B', hl', hc⟩ := HFr.out k c v B wr w0 HB.out
            have HC := Lib.hid hc
            clear hc
            go_wp2_with fail
            refine HC.out.mono ?_
            rintro e w2 p
            obtain ⟨rfl, v2, h2, _⟩ := HB.out.post p
            have H2 := Lib.hid h2
            clear p h2
            go_wp2_with fail
            go_roundg (L.length - (i + 1))
            case measure => omega
            case rel => exact ⟨i + 1, by go_num, by omega, Nat.le_refl _, Lib.hid ⟨v2, B', H2.out, by have := HBL.out; omega⟩⟩
          · by_cases q3 : q = 3
            · subst q3
              have hbd := HB.out.drewN 1
              obtain ⟨t, B', hl', hc⟩ := HWr.out _ k z _ ws c v B wr.drew w0 hbd (ints_kept HU.out (below_drewN (Below.refl _ _) 1)) hws
              have HBD : Hid (HeapB w0 wr.drew c v n B) := hbd
              have HC := Lib.hid hc
              clear hc hbd
              go_wp2_with fail
              go_still_tail 16, (by kernel_rfl)
              go_wp2_with fail
              refine HC.out.mono ?_
              rintro e w2 p
              obtain ⟨rfl, v2, h2, _⟩ := HBD.out.post p
              have H2 := Lib.hid h2
              clear p h2
              go_wp2_with fail
              go_roundg (L.length - (i + 1))
              case measure => omega
              case rel => exact ⟨i + 1, by go_num, by omega, Nat.le_refl _, Lib.hid ⟨v2, B', H2.out, by have := HBL.out; omega⟩⟩
            · have q1' : (q == 1) = false := by simpa using q1
              have q2' : (q == 2) = false := by simpa using q2
              have q3' : (q == 3) = false := by simpa using q3
              go_wp2_with fail
              go_roundg (L.length - (i + 1))
              case measure => omega
              case rel => exact ⟨i + 1, by go_num, by omega, Nat.le_refl _, Lib.hid ⟨v, B, HB.out, by have := HBL.out; omega⟩⟩
      · obtain rfl : i = L.length := by omega
        obtain ⟨v, B, hv, hBl⟩ := HI.out
        have HB := Lib.hid hv
        have HBL : Hid (B.length ≤ 2999999999999) := by have := HL.out; exact Lib.hid (by omega)
        clear hv hBl HI hil hg hlt HAl HFr HWr HV H1 HL
        go_wp2_with fail
        refine (blocks_any HB.out.is.m).mono ?_
        rintro e w2 ⟨iv, rfl, own2, b2⟩
        obtain ⟨q, hq⟩ : ∃ q, (idsB B).length = q := ⟨_, rfl⟩
        obtain ⟨b1, hb1⟩ : ∃ b1, wr.heap.size = b1 := ⟨_, rfl⟩
        obtain ⟨b0, hb0⟩ : ∃ b0, w2.heap.size = b0 := ⟨_, rfl⟩
        have hrd : RdAt w0 w2 c v n B b1 b0 iv [] 0 (.slice none 0 0) (.slice none 0 0) := by
          subst hb1 hb0
          exact ⟨HB.out.fresh b2, gave_ints own2, kept_nil _ _ _ _, Nat.le_refl _, HF_lt HB.out.is.m, b2.size⟩
        obtain ⟨ai, ci, rfl, _⟩ := own_form own2
        have hq3 : q ≤ 2999999999999 := by have := idsB_len B; have := HBL.out; omega
        rw [hq] at hrd ⊢
        have HQ := Lib.hid hq
        have RD2 := Lib.hid hrd
        obtain ⟨i3, hi3, hz30, hz31, hz32⟩ := info_parts Try.info3
        obtain ⟨i29, hi29, hz290, hz291, hz292⟩ := info_parts Try.info29
        have I3 := Lib.hid (And.intro hi3 (And.intro hz30 (And.intro hz31 hz32)))
        have I29 := Lib.hid (And.intro hi29 (And.intro hz290 (And.intro hz291 hz292)))
        clear hq hrd own2 b2 hb1 hb0 hi3 hz30 hz31 hz32 hi29 hz290 hz291 hz292 HB
        go_wp2_with fail
        go_loopg [9, 10, 11] q (fun g s9 s10 s11 wr => ∃ (j : Nat) (us : List Value) (wv av : Value), wv = s9 ∧ av = s10 ∧ s11 = .int .i64 j ∧ j ≤ q ∧ q - j ≤ g ∧ us.length = j ∧ Hid (RdAt w0 wr c v n B b1 b0 (.slice ai q ci) us j wv av))
        case atStart => exact ⟨0, [], _, _, rfl, rfl, rfl, Nat.zero_le _, by omega, rfl, RD2⟩
        case round =>
          obtain ⟨j, us, wv, av, rfl, rfl, rfl, hjq, hg, hus, RD⟩ := hrel
          by_cases hlt : j < q
          · obtain ⟨wa, hwa⟩ : ∃ w', w' = wr := ⟨_, rfl⟩
            subst hwa
            obtain ⟨K, ⟨a, ws⟩, hK, hKs, hb⟩ := ids_at (B := B) (j := j) (by rw [HQ.out]; exact hlt)
            obtain ⟨g1, o1, rfl, hcell⟩ := ids_cell RD.out.ids hKs
            have hws : ws.length ≤ 255 := by have := RD.out.hp.is.good.fits K _ hb; simp only at this; omega
            have KC : Hid (∀ w', Below wa.heap.size wa w' → w'.cell? ⟨g1, o1 + j, none⟩ = some (.int .i64 (K : Int))) := Lib.hid (fun w' hb => (hb.cell (p := ⟨g1, _, none⟩) (World.block_lt_of_cell? _ _ hcell)).trans hcell)
            have HKS := Lib.hid hKs
            have HLK := Lib.hid hb
            have HKW : Hid (wordsB B ((idsB B).getD us.length 0) = ws) := Lib.hid (by rw [hus, hK]; exact wordsB_some hb)
            clear hK hKs hb hcell
            go_wp2_with fail
            go_loopg [12, 13] ws.length (fun g s12 s13 wr => ∃ (pv : Value) (t : Nat), pv = s12 ∧ s13 = .int .i64 t ∧ t ≤ ws.length ∧ ws.length - t ≤ g ∧ Hid (wr.ownsRow wa.heap.size 3 1 pv (ws.take t).length ((ws.take t).map (Value.int .i64))) ∧ Hid (Below wa.heap.size wa wr))
            case atStart => exact ⟨_, 0, rfl, rfl, Nat.zero_le _, by omega, Lib.hid (World.ownsRow_nil _ _ _ _), Lib.hid (Below.refl _ _)⟩
            case round =>
              obtain ⟨pv, t, rfl, rfl, ht, hg2, OW, BL⟩ := hrel
              have hc := KC.out _ BL.out
              go_wp2_with fail
              refine (size_at (RD.out.hp.fresh BL.out) HLK.out).mono ?_
              rintro e wb ⟨rfl, bb⟩
              have BB : Hid (Below wa.heap.size wa wb) := Lib.hid (BL.out.trans (bb.mono BL.out.size))
              have OB := Lib.hid (own_fresh OW.out bb)
              clear bb hc OW BL
              have hc := KC.out _ BB.out
              by_cases ht2 : t < ws.length
              · go_wp2_with fail
                refine (read_at (RD.out.hp.fresh BB.out) HLK.out ht2).mono ?_
                rintro e wc ⟨rfl, bc⟩
                have BC : Hid (Below wa.heap.size wa wc) := Lib.hid (BB.out.trans (bc.mono BB.out.size))
                have OC := Lib.hid (own_fresh OB.out bc)
                clear bc hc OB BB
                obtain ⟨x, hx⟩ : ∃ x, ws.getD t 0 = x := ⟨_, rfl⟩
                have HXX := Lib.hid hx
                simp only [hx]
                clear hx
                go_wp2_with (at_builtin; refine append_ints (N := fun _ => True) rfl _ _ rfl wa.heap.size _ (ws.take t) rfl (OC.out.alloc _) _ [x] rfl (one_ints wc x) ?c1 ?c2 ?_)
                case c1 => rw [List.length_take]; simp; omega
                case c2 => simp; have := BC.out.size; omega
                intro v' w' h1 h2 _
                have OW2 : Hid (w'.ownsRow wa.heap.size 3 1 v' (ws.take (t + 1)).length ((ws.take (t + 1)).map (Value.int .i64))) := Lib.hid (by
                  have e1 : (ws.take (t + 1)).length = t + 1 := by rw [List.length_take]; omega
                  have e2 : (ws.take (t + 1)).map (Value.int .i64) = List.take t (ws.map (Value.int .i64)) ++ [Value.int .i64 x] := by rw [take_snoc ht2, HXX.out, List.map_append, List.map_take]; rfl
                  rw [e1, e2]
                  simpa [List.length_take, Nat.min_eq_left (Nat.le_of_lt ht2)] using h1)
                have BL2 : Hid (Below wa.heap.size wa w') := Lib.hid ((BC.out.alloc BC.out.size _).trans h2)
                clear h1 h2
                go_wp2_with fail
                go_roundg (ws.length - (t + 1))
                case measure => omega
                case rel => exact ⟨v', t + 1, rfl, by go_num, by omega, Nat.le_refl _, OW2, BL2⟩
              · obtain rfl : t = ws.length := by omega
                rw [List.take_length] at OB
                obtain ⟨ap, cp, rfl, _⟩ := own_form OB.out
                have RB := Lib.hid (RD.out.fresh BB.out)
                have RBA := Lib.hid (RB.out.fresh ((Below.refl _ _).alloc (Nat.le_refl _) (.cells #[.slice ap ws.length cp] 29)))
                have KP : Hid (Ints (KeepN b0 wv av) (wb.alloc (.cells #[.slice ap ws.length cp] 29)) (.slice ap ws.length cp) (wordsB B ((idsB B).getD us.length 0))) := Lib.hid (by
                  rw [HKW.out]
                  exact ints_kept (RD.out.keep (own_row OB.out)) ((Below.refl _ _).alloc (Nat.le_refl _) _))
                have LB : Hid (b0 ≤ wb.heap.size) := RB.out.le
                obtain ⟨hi29, hz290, hz291, hz292⟩ := I29.out
                clear hc OB BB hg2 ht ht2
                go_wp2_with (at_builtin; refine wpList_append_own_at _ rfl _ _ 37 rfl b0 29 i29 (.slice none 0 0) 1 24 Try.underlying37 hi29 hz290 hz291 hz292 rfl (by decide) _ _ _ rfl (RB.out.kp.rows.alloc _) ⟨wb.heap.size, 0, none⟩ 1 1 [.slice ap ws.length cp] rfl rfl (cell_one_new _ _ _) ?d2 ?d3 ?d4 ?d5 ?_)
                case d2 => intro u hu; simp at hu; subst hu; rfl
                case d3 => rw [hus]; unfold maxLen; omega
                case d4 => rw [hus]; omega
                case d5 => simp; have := LB.out; omega
                intro wv' w3 own3 hg3 _ hat3
                have R3 := Lib.hid (RBA.out.was KP.out (by rw [hus]; exact own3) hg3 (by rw [World.size_alloc]; exact hat3))
                clear own3 hg3 hat3 RB RBA KP LB hi29 hz290 hz291 hz292
                obtain ⟨_, _, e1, hc⟩ := ids_cell R3.out.ids HKS.out
                cases e1
                go_wp2_with fail
                refine (at_at R3.out.hp HLK.out).mono ?_
                rintro e w4 ⟨rfl, b4⟩
                have R4 := Lib.hid (R3.out.fresh b4)
                have R4A := Lib.hid (R4.out.fresh ((Below.refl _ _).alloc (Nat.le_refl _) (.cells #[.int .i64 (a : Nat)] 3)))
                have LB4 : Hid (b0 ≤ w4.heap.size) := R4.out.le
                obtain ⟨hi3, hz30, hz31, hz32⟩ := I3.out
                clear b4 hc R3
                go_wp2_with (at_builtin; refine wpList_append_own_at _ rfl _ _ 29 rfl b0 3 i3 (.int .i64 0) 1 8 Try.underlying29 hi3 hz30 hz31 hz32 rfl (by decide) _ _ _ rfl (R4.out.kp.pls.alloc _) ⟨w4.heap.size, 0, none⟩ 1 1 [.int .i64 (a : Nat)] rfl rfl (cell_one_new _ _ _) ?f2 ?f3 ?f4 ?f5 ?_)
                case f2 => intro u hu; simp at hu; subst hu; rfl
                case f3 => unfold maxLen; omega
                case f4 => omega
                case f5 => simp; have := LB4.out; omega
                intro av' w5 own5 hg5 _ hat5
                have R5 := Lib.hid (R4A.out.at_ HKS.out (by rw [HLK.out, List.map_take]; exact own5) hg5 (by rw [World.size_alloc]; exact hat5))
                clear own5 hg5 hat5 R4 R4A LB4 hi3 hz30 hz31 hz32
                go_wp2_with fail
                go_roundg (q - (j + 1))
                case measure => omega
                case rel => exact ⟨j + 1, us ++ [.slice ap ws.length cp], _, _, rfl, rfl, by go_num, by omega, Nat.le_refl _, by rw [List.length_append, hus]; rfl, R5⟩
          · obtain rfl : q = j := by omega
            have HS := Lib.hid (RD.out.seen HQ.out.symm hus)
            have HP := Lib.hid RD.out.hp
            have HF1 := Lib.hid RD.out.hf
            obtain ⟨_, _, a2, c2, a3, c3, e1, e2, e3⟩ := HS.out.forms
            clear e1
            rw [HQ.out] at e2 e3
            subst e2 e3
            clear RD hus hg hlt hjq RD2 I3 I29
            obtain ⟨A, hA⟩ : ∃ A, cntF (wordAt B) n = A := ⟨_, rfl⟩
            have A255 : A ≤ 255 := by have := cntF_le (wordAt B) n; omega
            have HR1 : Hid (Calls Try.prog 18 #[.pointer (some ⟨c.h, 0, none⟩)] wr fun e w' => ∃ m : Nat, e = .returned (.tuple #[.int .i64 A, .int .i64 m]) ∧ m ≤ A ∧ wr = w') := Lib.hid (by
              have := room_at HP.out
              rw [hA] at this
              exact this)
            have HR2 : Hid (∀ (m : Nat) (S : List Nat) (B' : List (Option Bk)) (w1 : World), HeapB w0 w1 c v n B' → CompIs n B B' m S → Calls Try.prog 18 #[.pointer (some ⟨c.h, 0, none⟩)] w1 fun e w' => e = .returned (.tuple #[.int .i64 A, .int .i64 A]) ∧ w1 = w') := Lib.hid (fun m S B' w1 h hc => by
              have := room_tight h HP.out.is.good hc
              rw [hA] at this
              exact this)
            clear hA
            go_wp2_with fail
            refine HR1.out.mono ?_
            rintro e w3 ⟨m0, rfl, hm0, rfl⟩
            go_wp2_with fail
            refine (compact_any HP.out.is).mono ?_
            rintro e w4 p
            obtain ⟨m, B', S, rfl, hc, h4, o4⟩ := HP.out.comp p
            have hmq : m ≤ q := by have := hc.few; rw [HQ.out] at this; exact this
            have HC := Lib.hid hc
            have H4 := Lib.hid h4
            have S4 := Lib.hid (HS.out.only o4 HF1.out)
            clear p hc h4 o4 HS
            go_wp2_with fail
            refine (HR2.out m S B' w4 H4.out HC.out).mono ?_
            rintro e w5 ⟨rfl, rfl⟩
            have hd1 : decide (q < m) = false := by simpa using hmq
            have hd2 : decide (A < m0) = false := by simpa using hm0
            have hd3 : ((A : Int) != A) = false := by simp
            go_wp2_with fail
            refine (blocks_any H4.out.is.m).mono ?_
            rintro e w5 ⟨uv, rfl, own5, b5⟩
            have U5 : Hid (Ints (fun b => w4.heap.size ≤ b ∧ b < w5.heap.size) w5 uv ((idsB B).map fun (k : Nat) => (k : Int))) := Lib.hid (by
              have e := (HC.out.moved HP.out.is.good).ids
              have := gave_ints own5
              rw [e] at this
              exact this)
            have H5 := Lib.hid (H4.out.fresh b5)
            have S5 := Lib.hid (S4.out.fresh b5)
            clear own5 b5 H4 S4
            go_wp2_with fail
            refine (sameInts_eq _ _ _ w5 U5.out S5.out.ids (by rw [List.length_map, HQ.out]; omega)).mono ?_
            rintro e w6 ⟨rfl, d6, rfl⟩
            have H6 := Lib.hid (H5.out.drewN d6)
            have S6 := Lib.hid (S5.out.fresh (below_drewN (Below.refl _ _) d6))
            clear H5 S5 U5
            go_wp2_with fail
            refine (compact_any H6.out.is).mono ?_
            rintro e w7 p
            obtain ⟨m2, B2, S2, rfl, hc2, h7, o7⟩ := H6.out.comp p
            obtain rfl := HC.out.twice hc2
            have MV : Hid (Moved B B2) := Lib.hid ((HC.out.moved HP.out.is.good).trans (hc2.moved HC.out.good))
            have HG : Hid (GoodB n B) := HP.out.is.good
            have H7 := Lib.hid h7
            have S7 := Lib.hid (S6.out.only o7 HF1.out)
            clear p hc2 h7 o7 H6 S6 HP HF1 HC HR1 HR2
            go_wp2_with fail
            have HE : Hid (∀ i, i < q → ∃ (K a p r : Nat) (ws : List Int), (idsB B)[i]? = some K ∧ look B K = some ⟨a, ws⟩ ∧ look B2 K = some ⟨p, ws⟩ ∧ p ≤ a ∧ r ≤ n ∧ ws.length = r) := Lib.hid (fun i hi => MV.out.each HG.out (by rw [HQ.out]; exact hi))
            go_loopg [21] q (fun g s21 wr => ∃ i : Nat, s21 = .int .i64 i ∧ i ≤ q ∧ q - i ≤ g ∧ Hid (Below w7.heap.size w7 wr))
            case atStart => exact ⟨0, rfl, Nat.zero_le _, by omega, Lib.hid (Below.refl _ _)⟩
            case round =>
              obtain ⟨i, rfl, hiq, hg, BL⟩ := hrel
              by_cases hlt : i < q
              · obtain ⟨K, a, p, r, ws, hKs, hb, hb2, hle, hws, hr⟩ := HE.out i hlt
                obtain ⟨g1, o1, g2, o2, g3, o3, au, cu, rfl, rfl, rfl, hat, hwd⟩ := S7.out.all hKs hb hr
                have HR := Lib.hid hr
                have HAT := Lib.hid hat
                have HWD := Lib.hid hwd
                have HLK := Lib.hid hb
                have HL2 := Lib.hid hb2
                clear hKs hb hb2 hat hwd hr
                go_wp2_with fail
                go_loopg [22] r (fun g s22 wr => ∃ t : Nat, s22 = .int .i64 t ∧ t ≤ r ∧ r - t ≤ g ∧ Hid (Below w7.heap.size w7 wr))
                case atStart => exact ⟨0, rfl, Nat.zero_le _, by omega, BL⟩
                case round =>
                  obtain ⟨t, rfl, ht, hg2, BT⟩ := hrel
                  obtain ⟨d1, d2, _⟩ := HAT.out _ BT.out
                  by_cases ht2 : t < r
                  · obtain ⟨g4, o4, rfl, h4⟩ := HWD.out t ht2
                    have H4W := Lib.hid h4
                    clear h4
                    go_wp2_with fail
                    refine (read_at (H7.out.fresh BT.out) HL2.out (by rw [HR.out]; exact ht2)).mono ?_
                    rintro e wb ⟨rfl, bb⟩
                    have BB : Hid (Below w7.heap.size w7 wb) := Lib.hid (BT.out.trans (bb.mono BT.out.size))
                    clear bb d1 d2
                    obtain ⟨_, d2, _⟩ := HAT.out _ BB.out
                    have d4 := H4W.out _ BB.out
                    generalize ws.getD t 0 = x at d4 ⊢
                    have hxx : (x != x) = false := by simp
                    go_wp2_with fail
                    go_roundg (r - (t + 1))
                    case measure => omega
                    case rel => exact ⟨t + 1, by go_num, by omega, Nat.le_refl _, BB⟩
                  · obtain rfl : r = t := by omega
                    have BD0 : Hid (Below w7.heap.size w7 wr.drew) := Lib.hid (below_drewN BT.out 1)
                    have S0 : wr.drew.cell? ⟨g1, o1 + i, none⟩ = some (.int .i64 (K : Int)) ∧ wr.drew.cell? ⟨g3, o3 + i, none⟩ = some (.int .i64 (a : Int)) ∧ Hid (Below w7.heap.size w7 wr.drew) := ⟨(HAT.out _ BD0.out).1, (HAT.out _ BD0.out).2.2, BD0⟩
                    have HKP : Hid (∀ wa wb : World, Below wa.heap.size wa wb → (wa.cell? ⟨g1, o1 + i, none⟩ = some (.int .i64 (K : Int)) ∧ wa.cell? ⟨g3, o3 + i, none⟩ = some (.int .i64 (a : Int)) ∧ Hid (Below w7.heap.size w7 wa)) → (wb.cell? ⟨g1, o1 + i, none⟩ = some (.int .i64 (K : Int)) ∧ wb.cell? ⟨g3, o3 + i, none⟩ = some (.int .i64 (a : Int)) ∧ Hid (Below w7.heap.size w7 wb))) :=
                      Lib.hid (fun wa wb hb h => by
                        have B' := h.2.2.out.trans (hb.mono h.2.2.out.size)
                        exact ⟨(HAT.out _ B').1, (HAT.out _ B').2.2, B'⟩)
                    have HA42 : Hid (∀ w', (w'.cell? ⟨g1, o1 + i, none⟩ = some (.int .i64 (K : Int)) ∧ w'.cell? ⟨g3, o3 + i, none⟩ = some (.int .i64 (a : Int)) ∧ Hid (Below w7.heap.size w7 w')) → Calls Try.prog 17 #[.pointer (some ⟨c.h, 0, none⟩), .int .i64 K] w' (Told (.int .i64 p) w')) := Lib.hid (fun w' h => at_at (H7.out.fresh h.2.2.out) HL2.out)
                    have hle1 : decide (a < p) = false := by simpa using hle
                    clear ht hg2 ht2
                    go_wp2_with fail
                    go_region_held3 (fun w' => w'.cell? ⟨g1, o1 + i, none⟩ = some (.int .i64 (K : Int)) ∧ w'.cell? ⟨g3, o3 + i, none⟩ = some (.int .i64 (a : Int)) ∧ Hid (Below w7.heap.size w7 w')) (first | (exact S0) | (refine HKP.out _ _ bb ?_; assumption)) (first | (go_at_call 17; refine (HA42.out _ (by assumption)).mono ?_; rintro e wb ⟨rfl, bb⟩))
                    have BB : Hid (Below w7.heap.size w7 wb) := Lib.hid (BD0.out.trans (bb.mono BD0.out.size))
                    clear bb S0 HKP HA42 BD0 d1 d2
                    go_wp2_with fail
                    go_loopg [25] i (fun g s25 wr => ∃ k : Nat, s25 = .int .i64 k ∧ k ≤ i ∧ i - k ≤ g ∧ Hid (Below w7.heap.size w7 wr))
                    case atStart => exact ⟨0, rfl, Nat.zero_le _, by omega, BB⟩
                    case round =>
                      obtain ⟨k, rfl, hk, hg3, BK⟩ := hrel
                      by_cases hk2 : k < i
                      · have hkq : k < q := by omega
                        obtain ⟨K', a', p', r', ws', hKs, hb, hb2, hle', hws', hr'⟩ := HE.out k hkq
                        obtain ⟨g1', o1', g2', o2', g3', o3', au', cu', e1, e2, e3, hat, hq⟩ := S7.out.all hKs hb hr'
                        clear hq
                        have HR' := Lib.hid hr'
                        cases e1
                        cases e2
                        cases e3
                        have HAT' := Lib.hid hat
                        have HLK' := Lib.hid hb
                        have HL2' := Lib.hid hb2
                        clear hKs hb hb2 hat hr'
                        have BD : Hid (Below w7.heap.size w7 wr.drew) := Lib.hid (below_drewN BK.out 1)
                        have S0 : wr.drew.cell? ⟨g2, o2 + i, none⟩ = some (.slice au r cu) ∧ wr.drew.cell? ⟨g2, o2 + k, none⟩ = some (.slice au' r' cu') ∧ wr.drew.cell? ⟨g1, o1 + i, none⟩ = some (.int .i64 (K : Int)) ∧ wr.drew.cell? ⟨g1, o1 + k, none⟩ = some (.int .i64 (K' : Int)) ∧ wr.drew.cell? ⟨g3, o3 + i, none⟩ = some (.int .i64 (a : Int)) ∧ wr.drew.cell? ⟨g3, o3 + k, none⟩ = some (.int .i64 (a' : Int)) ∧ Hid (Below w7.heap.size w7 wr.drew) := ⟨(HAT.out _ BD.out).2.1, (HAT'.out _ BD.out).2.1, (HAT.out _ BD.out).1, (HAT'.out _ BD.out).1, (HAT.out _ BD.out).2.2, (HAT'.out _ BD.out).2.2, BD⟩
                        have HQP : Hid (∀ wa wb : World, Below wa.heap.size wa wb → (wa.cell? ⟨g2, o2 + i, none⟩ = some (.slice au r cu) ∧ wa.cell? ⟨g2, o2 + k, none⟩ = some (.slice au' r' cu') ∧ wa.cell? ⟨g1, o1 + i, none⟩ = some (.int .i64 (K : Int)) ∧ wa.cell? ⟨g1, o1 + k, none⟩ = some (.int .i64 (K' : Int)) ∧ wa.cell? ⟨g3, o3 + i, none⟩ = some (.int .i64 (a : Int)) ∧ wa.cell? ⟨g3, o3 + k, none⟩ = some (.int .i64 (a' : Int)) ∧ Hid (Below w7.heap.size w7 wa)) → (wb.cell? ⟨g2, o2 + i, none⟩ = some (.slice au r cu) ∧ wb.cell? ⟨g2, o2 + k, none⟩ = some (.slice au' r' cu') ∧ wb.cell? ⟨g1, o1 + i, none⟩ = some (.int .i64 (K : Int)) ∧ wb.cell? ⟨g1, o1 + k, none⟩ = some (.int .i64 (K' : Int)) ∧ wb.cell? ⟨g3, o3 + i, none⟩ = some (.int .i64 (a : Int)) ∧ wb.cell? ⟨g3, o3 + k, none⟩ = some (.int .i64 (a' : Int)) ∧ Hid (Below w7.heap.size w7 wb))) :=
                          Lib.hid (fun wa wb hb h => by
                            have h7 := h.2.2.2.2.2.2
                            have B' := h7.out.trans (hb.mono h7.out.size)
                            exact ⟨(HAT.out _ B').2.1, (HAT'.out _ B').2.1, (HAT.out _ B').1, (HAT'.out _ B').1, (HAT.out _ B').2.2, (HAT'.out _ B').2.2, B'⟩)
                        have HA47 : Hid (∀ w', (w'.cell? ⟨g2, o2 + i, none⟩ = some (.slice au r cu) ∧ w'.cell? ⟨g2, o2 + k, none⟩ = some (.slice au' r' cu') ∧ w'.cell? ⟨g1, o1 + i, none⟩ = some (.int .i64 (K : Int)) ∧ w'.cell? ⟨g1, o1 + k, none⟩ = some (.int .i64 (K' : Int)) ∧ w'.cell? ⟨g3, o3 + i, none⟩ = some (.int .i64 (a : Int)) ∧ w'.cell? ⟨g3, o3 + k, none⟩ = some (.int .i64 (a' : Int)) ∧ Hid (Below w7.heap.size w7 w')) → Calls Try.prog 17 #[.pointer (some ⟨c.h, 0, none⟩), .int .i64 K] w' (Told (.int .i64 p) w')) := Lib.hid (fun w' h => at_at (H7.out.fresh h.2.2.2.2.2.2.out) HL2.out)
                        have HB47 : Hid (∀ w', (w'.cell? ⟨g2, o2 + i, none⟩ = some (.slice au r cu) ∧ w'.cell? ⟨g2, o2 + k, none⟩ = some (.slice au' r' cu') ∧ w'.cell? ⟨g1, o1 + i, none⟩ = some (.int .i64 (K : Int)) ∧ w'.cell? ⟨g1, o1 + k, none⟩ = some (.int .i64 (K' : Int)) ∧ w'.cell? ⟨g3, o3 + i, none⟩ = some (.int .i64 (a : Int)) ∧ w'.cell? ⟨g3, o3 + k, none⟩ = some (.int .i64 (a' : Int)) ∧ Hid (Below w7.heap.size w7 w')) → Calls Try.prog 17 #[.pointer (some ⟨c.h, 0, none⟩), .int .i64 K'] w' (Told (.int .i64 p') w')) := Lib.hid (fun w' h => at_at (H7.out.fresh h.2.2.2.2.2.2.out) HL2'.out)
                        by_cases hw : 0 < r
                        · have hwi : (0 : Int) < r := by omega
                          have hwd : decide (0 < r) = true := decide_eq_true hw
                          by_cases hw' : 0 < r'
                          · have hwi' : (0 : Int) < r' := by omega
                            have hwd' : decide (0 < r') = true := decide_eq_true hw'
                            have hord := MV.out.order HLK.out HL2.out HLK'.out HL2'.out HR.out HR'.out hw hw'
                            by_cases hlt3 : a < a'
                            · have h1 : (a : Int) < a' := by omega
                              have h2 : (p : Int) < p' := by have := hord.2 hlt3; omega
                              clear hord
                              go_wp2_with fail
                              go_region_held3 (fun w' => w'.cell? ⟨g2, o2 + i, none⟩ = some (.slice au r cu) ∧ w'.cell? ⟨g2, o2 + k, none⟩ = some (.slice au' r' cu') ∧ w'.cell? ⟨g1, o1 + i, none⟩ = some (.int .i64 (K : Int)) ∧ w'.cell? ⟨g1, o1 + k, none⟩ = some (.int .i64 (K' : Int)) ∧ w'.cell? ⟨g3, o3 + i, none⟩ = some (.int .i64 (a : Int)) ∧ w'.cell? ⟨g3, o3 + k, none⟩ = some (.int .i64 (a' : Int)) ∧ Hid (Below w7.heap.size w7 w')) (first | (exact S0) | (refine HQP.out _ _ bb ?_; assumption) | (refine HQP.out _ _ bc ?_; assumption)) (first | (go_at_call 17; refine (HA47.out _ (by assumption)).mono ?_; rintro e wb ⟨rfl, bb⟩) | (go_at_call 17; refine (HB47.out _ (by assumption)).mono ?_; rintro e wc ⟨rfl, bc⟩))
                              have BE : Hid (Below w7.heap.size w7 wb) := Lib.hid (BD.out.trans (bb.mono BD.out.size))
                              have BF : Hid (Below w7.heap.size w7 wc) := Lib.hid (BE.out.trans (bc.mono BE.out.size))
                              clear bb bc
                              go_wp2_with fail
                              go_roundg (i - (k + 1))
                              case measure => omega
                              case rel => exact ⟨k + 1, by go_num, by omega, Nat.le_refl _, Lib.hid BF.out⟩
                            · have h1 : ¬ (a : Int) < a' := by omega
                              have h2 : ¬ (p : Int) < p' := by have := fun h => hlt3 (hord.1 h); omega
                              clear hord
                              go_wp2_with fail
                              go_region_held3 (fun w' => w'.cell? ⟨g2, o2 + i, none⟩ = some (.slice au r cu) ∧ w'.cell? ⟨g2, o2 + k, none⟩ = some (.slice au' r' cu') ∧ w'.cell? ⟨g1, o1 + i, none⟩ = some (.int .i64 (K : Int)) ∧ w'.cell? ⟨g1, o1 + k, none⟩ = some (.int .i64 (K' : Int)) ∧ w'.cell? ⟨g3, o3 + i, none⟩ = some (.int .i64 (a : Int)) ∧ w'.cell? ⟨g3, o3 + k, none⟩ = some (.int .i64 (a' : Int)) ∧ Hid (Below w7.heap.size w7 w')) (first | (exact S0) | (refine HQP.out _ _ bb ?_; assumption) | (refine HQP.out _ _ bc ?_; assumption)) (first | (go_at_call 17; refine (HA47.out _ (by assumption)).mono ?_; rintro e wb ⟨rfl, bb⟩) | (go_at_call 17; refine (HB47.out _ (by assumption)).mono ?_; rintro e wc ⟨rfl, bc⟩))
                              have BE : Hid (Below w7.heap.size w7 wb) := Lib.hid (BD.out.trans (bb.mono BD.out.size))
                              have BF : Hid (Below w7.heap.size w7 wc) := Lib.hid (BE.out.trans (bc.mono BE.out.size))
                              clear bb bc
                              go_wp2_with fail
                              go_roundg (i - (k + 1))
                              case measure => omega
                              case rel => exact ⟨k + 1, by go_num, by omega, Nat.le_refl _, Lib.hid BF.out⟩
                          · have hwi' : ¬ (0 : Int) < r' := by omega
                            have hwd' : decide (0 < r') = false := decide_eq_false hw'
                            obtain ⟨d1, d2, d3⟩ := HAT.out _ BK.out
                            obtain ⟨d1', d2', d3'⟩ := HAT'.out _ BK.out
                            clear S0 HQP HA47 HB47
                            go_wp2_with fail
                            go_quiet (fail)
                            go_wp2_with fail
                            go_roundg (i - (k + 1))
                            case measure => omega
                            case rel => exact ⟨k + 1, by go_num, by omega, Nat.le_refl _, Lib.hid (below_drewN BK.out _)⟩
                        · have hwi : ¬ (0 : Int) < r := by omega
                          have hwd : decide (0 < r) = false := decide_eq_false hw
                          obtain ⟨d1, d2, d3⟩ := HAT.out _ BK.out
                          obtain ⟨d1', d2', d3'⟩ := HAT'.out _ BK.out
                          clear S0 HQP HA47 HB47
                          go_wp2_with fail
                          go_quiet (fail)
                          go_wp2_with fail
                          go_roundg (i - (k + 1))
                          case measure => omega
                          case rel => exact ⟨k + 1, by go_num, by omega, Nat.le_refl _, Lib.hid (below_drewN BK.out _)⟩
                      · obtain rfl : k = i := by omega
                        clear hk hg3
                        go_wp2_with fail
                        go_roundg (q - (k + 1))
                        case measure => omega
                        case rel => exact ⟨k + 1, by go_num, by omega, Nat.le_refl _, BK⟩
              · clear hiq hg
                go_wp2_with fail
                refine (HK.out wr).mono ?_
                rintro e w9 ⟨rfl, b9⟩
                have B9 : Hid (Below W.heap.size W w9) := Lib.hid (by
                  have h1 := BL.out.trans (b9.mono BL.out.size)
                  have h2 := H7.out.bl.trans (h1.mono H7.out.bl.size)
                  exact BW0.out.trans (h2.mono BW0.out.size))
                clear b9
                go_wp2_with fail
                go_ret
                exact ⟨rfl, B9.out⟩
end Go.Proofs.Ytgfjfpfhalblgaa
