/- ClockFair's walk. -/
import Derived.Test.YtechbageefmclaaCLay
namespace Go.Proofs.Ytechbageefmclaa
set_option maxRecDepth 1000000
open Go.ChangeShapes Go.WideShapes Go.ChangeAt Go.RowKit

theorem cnt_yes {f : Nat → Bool} {i : Nat} (h : f i = true) : cnt f (i + 1) = cnt f i + 1 := by
  show cnt f i + (if f i then 1 else 0) = _
  rw [h]; rfl
theorem cnt_no {f : Nat → Bool} {i : Nat} (h : f i = false) : cnt f (i + 1) = cnt f i := by
  show cnt f i + (if f i then 1 else 0) = _
  rw [h]; rfl
/-- Those that may go: all, the untouched, the touched. -/
def allG (E : Nat → El) : Nat → Bool := fun j => goes (E j)
def coldG (E : Nat → El) : Nat → Bool := fun j => goes (E j) && !(E j).t
def warmG (E : Nat → El) : Nat → Bool := fun j => goes (E j) && (E j).t
theorem cold_warm (E : Nat → El) (n : Nat) : cnt (coldG E) n + cnt (warmG E) n = cnt (allG E) n := cnt_two (fun j => goes (E j)) (fun j => (E j).t) n
def gone : El := ⟨false, false, false⟩
section
variable {W0 w w' : World} {c : Ck} {n h h' : Nat} {E E' : Nat → El} {u : Value}
theorem is_b (i : Nat) (hi : i < n) (a : ClkB W0 w c n E h) : Calls Try.prog 11 #[.pointer (some ⟨c.t, 0, none⟩), .int .i64 i] w fun e w2 => e = .returned (.tuple #[.bool (E i).i, .bool (E i).t, .bool (E i).p]) ∧ ClkB W0 w2 c n E h := by
  have := is_any (i : Int) a.is
  rw [is_in hi] at this
  exact this.mono fun _ _ ⟨he, q, hw⟩ => ⟨he, by rw [hw]; exact a.drewN q⟩
/-- Somebody may go: one goes. -/
theorem vic_b_some (hc : 0 < cnt (allG E) n) (a : ClkB W0 w c n E h) : Calls Try.prog 13 #[.pointer (some ⟨c.t, 0, none⟩)] w fun e w2 => ∃ (v : Nat) (E' : Nat → El) (h' : Nat), e = .returned (.tuple #[.int .i64 v, .bool true]) ∧ ClkB W0 w2 c n E' h' ∧ v < n ∧ E' v = ⟨false, false, true⟩ ∧ cnt (allG E') n = cnt (allG E) n := by
  obtain ⟨j, hj, hg⟩ := cnt_some hc
  have hh : h < n := by have := a.is.hand; omega
  obtain ⟨v, hv⟩ := vic_any hh hj hg
  obtain ⟨r, E', h', hr⟩ : ∃ r E' h', vic n (2 * n) E h = (r, E', h') := ⟨_, _, _, rfl⟩
  have hrv : r = some v := by rw [hr] at hv; exact hv
  subst hrv
  obtain ⟨q1, q2, _⟩ := vic_some (by omega) _ _ _ _ _ _ hh hr
  refine (victim_b _ _ hr a).mono fun _ _ p => ⟨v, E', h', p.1, p.2, q1, ?_, cnt_congr fun j _ => vic_goes hr j⟩
  unfold hit goes at q2
  simp only [Bool.and_eq_true, Bool.not_eq_true'] at q2
  obtain ⟨⟨q3, q4⟩, q5⟩ := q2
  cases hE : E' v with
  | mk x y z => rw [hE] at q3 q4 q5; simp only at q3 q4 q5; rw [q3, q4, q5]
/-- Nobody may go. -/
theorem vic_b_none (hc : cnt (allG E) n = 0) (a : ClkB W0 w c n E h) : Calls Try.prog 13 #[.pointer (some ⟨c.t, 0, none⟩)] w (BPost W0 (.tuple #[.int .i64 0, .bool false]) c n E h) :=
  victim_b _ _ (vic_none' a.is.hand fun j hj => cnt_none hc j hj) a
theorem cnt_gone {v : Nat} (hv : v < n) (he : E v = ⟨false, false, true⟩) : cnt (allG E) n = cnt (allG (upd E v gone)) n + 1 :=
  cnt_drop hv (by unfold allG; rw [he]; rfl) (by unfold allG; rw [upd_at]; rfl) (fun j hj => by unfold allG; rw [upd_ne _ _ hj])
end
/-- What is to be done, as the law reads it in any world that keeps what was there. -/
theorem dos_at {W w : World} {v : Value} {L : List Todo} (h : Dos W v L) (b : Below W.heap.size W w) : ∃ a c, v = .slice a L.length c ∧ ∀ j, j < L.length → ∃ (bl off : Nat) (q i : Int), a = some ⟨bl, off, none⟩ ∧ w.cell? ⟨bl, off + j * 2, none⟩ = some (.int .i64 q) ∧ w.cell? ⟨bl, off + j * 2 + 1, none⟩ = some (.int .i64 i) := by
  obtain ⟨a, c, rfl, _, _, hx⟩ := h
  refine ⟨a, c, rfl, fun j hj => ?_⟩
  rcases hx with hx | ⟨bl, off, rfl, hx⟩
  · omega
  · obtain ⟨c0, c1⟩ := hx j _ (List.getElem?_eq_getElem hj)
    have hl := World.block_lt_of_cell? _ _ c0
    have o : Only (fun k => W.heap.size ≤ k) W w := ⟨b.os, b.tape, b.output, b.size, fun k hk _ => b.block k hk⟩
    exact ⟨bl, off, _, _, rfl, (o.cell (p := ⟨bl, off + j * 2, none⟩) hl (by show ¬ W.heap.size ≤ bl; have : bl < W.heap.size := hl; omega)).trans c0, (o.cell (p := ⟨bl, off + j * 2 + 1, none⟩) hl (by show ¬ W.heap.size ≤ bl; have : bl < W.heap.size := hl; omega)).trans c1⟩
set_option maxHeartbeats 4000000 in
theorem clockFair_walk (W : World) (n : Int) (hn : (Lit.int .u8 n).wf = true) (v : Value) (L : List Todo) (hL : Dos W v L) : Calls Try.prog 3 #[.int .u8 n, v] W fun e W' => e = .returned (.bool true) ∧ Below W.heap.size W W' := by
  obtain ⟨n0, n1⟩ := wf_u8 hn
  obtain ⟨n, rfl⟩ := Int.eq_ofNat_of_zero_le n0
  have HK := Lib.hid (fun w => known_any w)
  obtain ⟨a, cp, rfl, _⟩ := dos_at hL (Below.refl W.heap.size W)
  obtain ⟨len, hlen⟩ : ∃ len, L.length = len := ⟨_, rfl⟩
  have HD : Hid (∀ w, Below W.heap.size W w → ∀ j, j < len → ∃ (bl off : Nat) (q i : Int), a = some ⟨bl, off, none⟩ ∧ w.cell? ⟨bl, off + j * 2, none⟩ = some (.int .i64 q) ∧ w.cell? ⟨bl, off + j * 2 + 1, none⟩ = some (.int .i64 i)) := Lib.hid fun w b j hj => by
    obtain ⟨a', c', he, hx⟩ := dos_at hL b
    simp only [Value.slice.injEq] at he
    obtain ⟨rfl, _, _⟩ := he
    exact hx j (by omega)
  rw [hlen]
  clear hL hlen hn
  by_cases hbig : 200 < len
  · have hd : decide ((200 : Int) < (len : Int)) = true := decide_eq_true (by omega)
    clear HD
    go_enter Try.func3, Try.ntmps3
    go_wp2_with fail
    refine (HK.out W).mono ?_
    rintro e w1 ⟨rfl, b1⟩
    go_wp2_with fail
    go_ret
    exact ⟨rfl, b1⟩
  · have hd : decide ((200 : Int) < (len : Int)) = false := decide_eq_false (by omega)
    have HN := Lib.hid (new_yes n W (by omega))
    have HDo : Hid (∀ (c : Ck) (w1 : World) (E : Nat → El) (h : Nat) (q i : Int), ClkB W w1 c n E h → Calls Try.prog 10 #[.pointer (some ⟨c.t, 0, none⟩), .agg #[.int .i64 q, .int .i64 i]] w1 (DonePost W c n)) := Lib.hid fun c w1 E h q i a => done_any q i a
    have HIs : Hid (∀ (c : Ck) (w1 : World) (E : Nat → El) (h i : Nat), i < n → ClkB W w1 c n E h → Calls Try.prog 11 #[.pointer (some ⟨c.t, 0, none⟩), .int .i64 i] w1 fun e w2 => e = .returned (.tuple #[.bool (E i).i, .bool (E i).t, .bool (E i).p]) ∧ ClkB W w2 c n E h) := Lib.hid fun c w1 E h i hi a => is_b i hi a
    have HH : Hid (∀ (c : Ck) (w1 : World) (E : Nat → El) (h : Nat), ClkB W w1 c n E h → Calls Try.prog 12 #[.pointer (some ⟨c.t, 0, none⟩)] w1 (Told (.int .i64 h) w1)) := Lib.hid fun c w1 E h a => hand_at a.is
    have HVs : Hid (∀ (c : Ck) (w1 : World) (E : Nat → El) (h : Nat), 0 < cnt (allG E) n → ClkB W w1 c n E h → Calls Try.prog 13 #[.pointer (some ⟨c.t, 0, none⟩)] w1 fun e w2 => ∃ (v : Nat) (E' : Nat → El) (h' : Nat), e = .returned (.tuple #[.int .i64 v, .bool true]) ∧ ClkB W w2 c n E' h' ∧ v < n ∧ E' v = ⟨false, false, true⟩ ∧ cnt (allG E') n = cnt (allG E) n) := Lib.hid fun c w1 E h hc a => vic_b_some hc a
    have HVn : Hid (∀ (c : Ck) (w1 : World) (E : Nat → El) (h : Nat), cnt (allG E) n = 0 → ClkB W w1 c n E h → Calls Try.prog 13 #[.pointer (some ⟨c.t, 0, none⟩)] w1 (BPost W (.tuple #[.int .i64 0, .bool false]) c n E h)) := Lib.hid fun c w1 E h hc a => vic_b_none hc a
    have HIn : Hid (∀ (c : Ck) (w1 : World) (E : Nat → El) (h v : Nat), v < n → ClkB W w1 c n E h → Calls Try.prog 14 #[.pointer (some ⟨c.t, 0, none⟩), .int .i64 v, .bool false] w1 (BPost W (.int .i64 0) c n (upd E v gone) h)) := Lib.hid fun c w1 E h v hv a => in_b v false hv a
    go_enter Try.func3, Try.ntmps3
    go_wp2_with fail
    refine HN.out.mono ?_
    rintro e w1 ⟨c, rfl, a1⟩
    have H1 := Lib.hid a1
    clear a1 HN
    go_wp2_with fail
    go_loopw [7] (fun s7 wr => ∃ (i : Nat) (E : Nat → El) (h : Nat), i ≤ len ∧ s7 = .int .i64 i ∧ Hid (ClkB W wr c n E h)) (fun s7 _ => len - (intOf s7).toNat)
    case atStart => exact ⟨0, _, _, by omega, rfl, H1⟩
    case round =>
      clear H1
      obtain ⟨i, E, h, hi, rfl, H1⟩ := hrel
      by_cases hlt : i < len
      · have hlt' : (i : Int) < len := by omega
        obtain ⟨bl, off, q, x, rfl, c0, c1⟩ := HD.out wr H1.out.bl i hlt
        go_wp2_with fail
        refine (HDo.out c wr E h q x H1.out).mono ?_
        rintro e w2 ⟨_, _, _, E2, h2, rfl, a2⟩
        have H2 := Lib.hid a2
        clear a2 H1 c0 c1
        go_wp2_with fail
        go_roundw
        case rel => exact ⟨i + 1, E2, h2, by omega, by go_num, H2⟩
        case measure => simp [intOf]; omega
      · obtain rfl : i = len := by omega
        clear hlt HD HDo
        go_wp2_with fail
        go_loopw [8, 9, 10] (fun s8 s9 s10 wx => ∃ j x y : Nat, j ≤ n ∧ x ≤ j ∧ y ≤ j ∧ s8 = .int .i64 x ∧ s9 = .int .i64 y ∧ s10 = .int .i64 j ∧ Hid (x = cnt (coldG E) j ∧ y = cnt (warmG E) j) ∧ Hid (ClkB W wx c n E h)) (fun _ _ s10 _ => n - (intOf s10).toNat)
        case atStart => exact ⟨0, 0, 0, by omega, by omega, by omega, rfl, rfl, rfl, Lib.hid ⟨rfl, rfl⟩, H1⟩
        case round =>
          clear H1
          obtain ⟨j, x, y, hj, hx, hy, rfl, rfl, rfl, HC, H1⟩ := hrel
          by_cases hlt : j < n
          · have hlt' : (j : Int) < n := by omega
            have HI1 := HIs.out c wr E h j hlt H1.out
            cases hb : (E j).i with
            | false =>
              have HC' : Hid (x = cnt (coldG E) (j + 1) ∧ y = cnt (warmG E) (j + 1)) := by
                have hg : goes (E j) = false := by unfold goes; rw [hb]; rfl
                exact ⟨by rw [cnt_no (by unfold coldG; rw [hg]; rfl)]; exact HC.out.1, by rw [cnt_no (by unfold warmG; rw [hg]; rfl)]; exact HC.out.2⟩
              rw [hb] at HI1
              generalize (E j).t = bt at HI1
              generalize (E j).p = bp at HI1
              have HI2 := Lib.hid HI1
              clear HC hb HI1 H1
              go_wp2_with fail
              refine HI2.out.mono ?_
              rintro e w2 ⟨rfl, a2⟩
              have H2 := Lib.hid a2
              clear a2
              go_wp2_with fail
              go_roundw
              case rel => exact ⟨j + 1, x, y, by omega, by omega, by omega, rfl, rfl, by go_num, HC', H2⟩
              case measure => simp [intOf]; omega
            | true =>
              cases hp : (E j).p with
              | true =>
                have HC' : Hid (x = cnt (coldG E) (j + 1) ∧ y = cnt (warmG E) (j + 1)) := by
                  have hg : goes (E j) = false := by unfold goes; rw [hp]; simp
                  exact ⟨by rw [cnt_no (by unfold coldG; rw [hg]; rfl)]; exact HC.out.1, by rw [cnt_no (by unfold warmG; rw [hg]; rfl)]; exact HC.out.2⟩
                rw [hb, hp] at HI1
                generalize (E j).t = bt at HI1
                have HI2 := Lib.hid HI1
                clear HC hb hp HI1 H1
                go_wp2_with fail
                refine HI2.out.mono ?_
                rintro e w2 ⟨rfl, a2⟩
                have H2 := Lib.hid a2
                clear a2
                go_wp2_with fail
                go_roundw
                case rel => exact ⟨j + 1, x, y, by omega, by omega, by omega, rfl, rfl, by go_num, HC', H2⟩
                case measure => simp [intOf]; omega
              | false =>
                have hg : goes (E j) = true := by unfold goes; rw [hp, hb]; rfl
                cases ht : (E j).t with
                | true =>
                  have HC' : Hid (x = cnt (coldG E) (j + 1) ∧ y + 1 = cnt (warmG E) (j + 1)) := by
                    exact ⟨by rw [cnt_no (by unfold coldG; rw [hg, ht]; rfl)]; exact HC.out.1, by rw [cnt_yes (by unfold warmG; rw [hg, ht]; rfl), HC.out.2]⟩
                  rw [hb, hp, ht] at HI1
                  have HI2 := Lib.hid HI1
                  clear HC hb hp ht hg HI1 H1
                  go_wp2_with fail
                  refine HI2.out.mono ?_
                  rintro e w2 ⟨rfl, a2⟩
                  have H2 := Lib.hid a2
                  clear a2
                  go_wp2_with fail
                  go_roundw
                  case rel => exact ⟨j + 1, x, y + 1, by omega, by omega, by omega, rfl, by go_num, by go_num, HC', H2⟩
                  case measure => simp [intOf]; omega
                | false =>
                  have HC' : Hid (x + 1 = cnt (coldG E) (j + 1) ∧ y = cnt (warmG E) (j + 1)) := by
                    exact ⟨by rw [cnt_yes (by unfold coldG; rw [hg, ht]; rfl), HC.out.1], by rw [cnt_no (by unfold warmG; rw [hg, ht]; rfl)]; exact HC.out.2⟩
                  rw [hb, hp, ht] at HI1
                  have HI2 := Lib.hid HI1
                  clear HC hb hp ht hg HI1 H1
                  go_wp2_with fail
                  refine HI2.out.mono ?_
                  rintro e w2 ⟨rfl, a2⟩
                  have H2 := Lib.hid a2
                  clear a2
                  go_wp2_with fail
                  go_roundw
                  case rel => exact ⟨j + 1, x + 1, y, by omega, by omega, by omega, by go_num, rfl, by go_num, HC', H2⟩
                  case measure => simp [intOf]; omega
          · obtain rfl : j = n := by omega
            have HT : Hid (cnt (allG E) j + 0 = x + y) := by
              have := cold_warm E j
              show _ = _
              have := HC.out
              omega
            have HX := Lib.hid HC.out.1
            clear hlt HC
            go_wp2_with fail
            go_loopw [14] (fun s14 wy => ∃ (k : Nat) (F : Nat → El) (g : Nat), k ≤ x + y ∧ s14 = .int .i64 k ∧ Hid (cnt (allG F) j + k = x + y) ∧ Hid (k = 0 → F = E) ∧ Hid (ClkB W wy c j F g)) (fun s14 _ => x + y - (intOf s14).toNat)
            case atStart => exact ⟨0, E, h, by omega, rfl, HT, Lib.hid fun _ => rfl, H1⟩
            case round =>
              clear H1 HT
              obtain ⟨k, F, g, hk, rfl, HT, HE, H1⟩ := hrel
              by_cases hlt : k < x + y
              · have hlt' : (k : Int) < (x : Int) + (y : Int) := by omega
                have hc : 0 < cnt (allG F) j := by have := HT.out; omega
                have hg : g < j := by
                  have := H1.out.is.hand
                  have := cnt_le (allG F) j
                  omega
                have HH1 := Lib.hid (HH.out c wr F g H1.out)
                have HI1 := HIs.out c wr F g g hg H1.out
                obtain ⟨was, hwas⟩ : ∃ was, (F g).t = was := ⟨_, rfl⟩
                rw [hwas] at HI1
                generalize (F g).i = bi at HI1
                generalize (F g).p = bp at HI1
                have HI2 := Lib.hid HI1
                have hone : ((k : Int) == 0) = false ∨ (((k : Int) == 0) = true ∧ decide (0 < x) = false) ∨ (((k : Int) == 0) = true ∧ decide (0 < x) = true ∧ was = false) ∨ (((k : Int) == 0) = true ∧ decide (0 < x) = true ∧ was = true ∧ ((j : Int) == 1) = false) := by
                  by_cases h0 : k = 0
                  · right
                    have h00 : ((k : Int) == 0) = true := by simp; exact h0
                    by_cases h1 : 0 < x
                    · right
                      cases hw : was with
                      | false => exact .inl ⟨h00, decide_eq_true (by omega), rfl⟩
                      | true =>
                        refine .inr ⟨h00, decide_eq_true (by omega), rfl, ?_⟩
                        have hF := HE.out h0
                        have hxc := HX.out
                        simp only [beq_eq_false_iff_ne, ne_eq]
                        intro hj1
                        obtain rfl : j = 1 := by omega
                        obtain rfl : g = 0 := by omega
                        have : coldG E 0 = false := by unfold coldG; rw [← hF, hwas, hw]; simp
                        rw [cnt_no this] at hxc
                        simp [cnt] at hxc
                        omega
                    · exact .inl ⟨h00, decide_eq_false (by omega)⟩
                  · left; simp; omega
                have HV1 := Lib.hid (fun w1 a => HVs.out c w1 F g hc a)
                have HO := Lib.hid hone
                clear HI1 hwas hone hc HE
                go_wp2_with fail
                refine HH1.out.mono ?_
                rintro e w2 ⟨rfl, rfl⟩
                go_wp2_with fail
                refine HI2.out.mono ?_
                rintro e w3 ⟨rfl, a3⟩
                have H3 := Lib.hid a3
                clear a3 H1 HH1 HI2
                go_wp2_with fail
                refine (HV1.out w3 H3.out).mono ?_
                rintro e w4 ⟨v, F4, g4, rfl, a4, hv, hFv, hcn⟩
                have H4 := Lib.hid a4
                have hI5 := HIs.out c w4 F4 g4 v hv a4
                rw [hFv] at hI5
                have HI5 := Lib.hid hI5
                have HT' : Hid (cnt (allG (upd F4 v gone)) j + (k + 1) = x + y) := by
                  have := HT.out
                  have := cnt_gone hv hFv
                  show _ = _
                  omega
                clear hI5 a4 hFv hcn H3 HT
                go_wp2_with fail
                refine HI5.out.mono ?_
                rintro e w5 ⟨rfl, a5⟩
                have H5 := Lib.hid a5
                clear a5 H4 HI5
                go_wp2_with fail
                refine (HIn.out c w5 F4 g4 v hv H5.out).mono ?_
                rintro e w6 ⟨rfl, a6⟩
                have H6 := Lib.hid a6
                clear a6 H5
                have HE' : Hid (k + 1 = 0 → upd F4 v gone = E) := Lib.hid fun h => by omega
                rcases HO.out with o1 | ⟨o0, o1⟩ | ⟨o0, o1, rfl⟩ | ⟨o0, o1, rfl, o2⟩
                · clear HO
                  go_wp2_with fail
                  go_roundw
                  case rel => exact ⟨k + 1, _, _, by omega, by go_num, HT', HE', H6⟩
                  case measure => simp [intOf]; omega
                · clear HO
                  go_wp2_with fail
                  go_roundw
                  case rel => exact ⟨k + 1, _, _, by omega, by go_num, HT', HE', H6⟩
                  case measure => simp [intOf]; omega
                · clear HO
                  go_wp2_with fail
                  go_roundw
                  case rel => exact ⟨k + 1, _, _, by omega, by go_num, HT', HE', H6⟩
                  case measure => simp [intOf]; omega
                · clear HO
                  go_wp2_with fail
                  go_roundw
                  case rel => exact ⟨k + 1, _, _, by omega, by go_num, HT', HE', H6⟩
                  case measure => simp [intOf]; omega
              · obtain rfl : k = x + y := by omega
                have hc : cnt (allG F) j = 0 := by have := HT.out; omega
                have hnlt : ¬ ((x + y : Nat) : Int) < (x : Int) + (y : Int) := by omega
                have HV1 := Lib.hid (HVn.out c wr F g hc H1.out)
                clear HT HE hc hlt
                go_wp2_with fail
                refine HV1.out.mono ?_
                rintro e w2 ⟨rfl, a2⟩
                have H2 := Lib.hid a2
                clear a2
                go_wp2_with fail
                refine (HK.out _).mono ?_
                rintro e w6 ⟨rfl, b6⟩
                have B6 := Lib.hid (H2.out.fresh b6)
                clear b6
                go_wp2_with fail
                go_ret
                exact ⟨rfl, B6.out.bl⟩
end Go.Proofs.Ytechbageefmclaa
