/- What slices' pdqsortCmpFunc does, with a method as the comparison. -/
import Derived.Test.YtgfjfpfhalblgaaHSh
import Derived.Test.YtgfjfpfhalblgaaHSp
import Derived.Test.YtgfjfpfhalblgaaHSq
import Derived.Test.YtgfjfpfhalblgaaHSk
namespace Go.Proofs.Ytgfjfpfhalblgaa
set_option maxRecDepth 1000000
open Go.ChangeShapes Go.WideShapes Go.ChangeAt Go.RowKit

/-- Between a0 and b0, all that lies outside a .. b stands where it belongs. -/
def RestK (K : Nat → Int) (a0 b0 a b : Nat) (D : Nat → Nat) : Prop := ∀ p q, a0 ≤ p → p < q → q < b0 → (p < a ∨ b ≤ q) → K (D p) < K (D q)
theorem Shuf.at_ {a b : Nat} {D D' : Nat → Nat} (s : Shuf a b D D') (p : Nat) : ∃ p', D' p = D p' ∧ ((p < a ∨ b ≤ p) ∧ p' = p ∨ a ≤ p ∧ p < b ∧ a ≤ p' ∧ p' < b) := by
  by_cases h : a ≤ p ∧ p < b
  · obtain ⟨j, j1, j2, e⟩ := s.to_ p h.1 h.2
    exact ⟨j, e, .inr ⟨h.1, h.2, j1, j2⟩⟩
  · exact ⟨p, s.out p h, .inl ⟨by omega, rfl⟩⟩
theorem rest_shuf {K : Nat → Int} {a0 b0 a b : Nat} {D D' : Nat → Nat} (h : RestK K a0 b0 a b D) (s : Shuf a b D D') (ha : a0 ≤ a) (hb : b ≤ b0) : RestK K a0 b0 a b D' := fun p q h1 h2 h3 h4 => by
  obtain ⟨p', ep, hp⟩ := s.at_ p
  obtain ⟨q', eq, hq⟩ := s.at_ q
  rw [ep, eq]
  exact h p' q' (by omega) (by omega) (by omega) (by omega)
theorem rest_done {K : Nat → Int} {a0 b0 a b : Nat} {D D' : Nat → Nat} (h : RestK K a0 b0 a b D) (s : Shuf a b D D') (ha : a0 ≤ a) (hb : b ≤ b0) (hs : SortedK K a b D') : SortedK K a0 b0 D' := fun p q h1 h2 h3 => by
  by_cases hc : p < a ∨ b ≤ q
  · exact rest_shuf h s ha hb p q h1 h2 h3 hc
  · exact hs p q (by omega) h2 (by omega)
theorem rest_left {K : Nat → Int} {a0 b0 a b m : Nat} {D D' : Nat → Nat} (h : RestK K a0 b0 a b D) (hp : PartK K a b m D) (s : Shuf a m D D') (ha : a0 ≤ a) (hb : b ≤ b0) (_ham : a ≤ m) (hmb : m < b) (hs : SortedK K a m D') : RestK K a0 b0 (m + 1) b D' := fun p q h1 h2 h3 h4 => by
  by_cases hc : p < a ∨ b ≤ q
  · exact rest_shuf h (s.mono (Nat.le_refl _) (Nat.le_of_lt hmb)) ha hb p q h1 h2 h3 hc
  · obtain ⟨p', ep, hp'⟩ := s.at_ p
    obtain ⟨q', eq, hq'⟩ := s.at_ q
    by_cases hqm : q < m
    · exact hs p q (by omega) h2 hqm
    · have e : q' = q := by omega
      rw [ep, eq, e]
      by_cases hpm : p = m
      · have e2 : p' = m := by omega
        rw [e2]; exact hp.2 q (by omega) (by omega)
      · by_cases hq : q = m
        · rw [hq]; exact hp.1 p' (by omega) (by omega)
        · exact Int.lt_trans (hp.1 p' (by omega) (by omega)) (hp.2 q (by omega) (by omega))
theorem low_left {K : Nat → Int} {a b m : Nat} {D D' : Nat → Nat} (hp : PartK K a b m D) (s : Shuf a m D D') (_ham : a ≤ m) : LowB K (m + 1) b D' := fun _ q h1 h2 => by
  rw [Nat.add_sub_cancel, s.out m (by omega), s.out q (by omega)]
  exact hp.2 q (by omega) h2
theorem rest_right {K : Nat → Int} {a0 b0 a b m : Nat} {D D' : Nat → Nat} (h : RestK K a0 b0 a b D) (hp : PartK K a b m D) (s : Shuf (m + 1) b D D') (ha : a0 ≤ a) (hb : b ≤ b0) (_ham : a ≤ m) (_hmb : m < b) (hs : SortedK K (m + 1) b D') : RestK K a0 b0 a m D' := fun p q h1 h2 h3 h4 => by
  by_cases hc : p < a ∨ b ≤ q
  · exact rest_shuf h (s.mono (by omega) (Nat.le_refl _)) ha hb p q h1 h2 h3 hc
  · obtain ⟨p', ep, hp'⟩ := s.at_ p
    obtain ⟨q', eq, hq'⟩ := s.at_ q
    by_cases hqm : m < p
    · exact hs p q (by omega) h2 (by omega)
    · have e : p' = p := by omega
      rw [ep, eq, e]
      by_cases hpm : p = m
      · rw [hpm]; exact hp.2 q' (by omega) (by omega)
      · by_cases hq : q = m
        · have e2 : q' = m := by omega
          rw [e2]; exact hp.1 p (by omega) (by omega)
        · exact Int.lt_trans (hp.1 p (by omega) (by omega)) (hp.2 q' (by omega) (by omega))
theorem low_right {K : Nat → Int} {a b m : Nat} {D D' : Nat → Nat} (h : LowB K a b D) (s : Shuf (m + 1) b D D') (_ham : a ≤ m) (hmb : m < b) : LowB K a m D' := fun h0 q h1 h2 => by
  rw [s.out (a - 1) (by omega), s.out q (by omega)]
  exact h h0 q h1 (by omega)
theorem low_part {K : Nat → Int} {a b m : Nat} {D : Nat → Nat} (hp : PartK K a b m D) : LowB K (m + 1) b D := fun _ q h1 h2 => by
  rw [Nat.add_sub_cancel]
  exact hp.2 q (by omega) h2
theorem low_sub {K : Nat → Int} {a b m : Nat} {D : Nat → Nat} (h : LowB K a b D) (hm : m ≤ b) : LowB K a m D := fun h0 q h1 h2 => h h0 q h1 (by omega)
/-- Behind 'breakPatterns' or not; behind 'reverseRange' or not; behind what did not sort it. -/
def CutLim (w0 : World) (blk off n : Nat) (K : Nat → Int) (M a b : Nat) (D : Nat → Nat) (s : Value) (wx : World) : Prop :=
  ∃ (li : Nat) (D' : Nat → Nat), s = .int .i64 li ∧ li ≤ 64 ∧ Hid (Srt w0 blk off n K M D' wx) ∧ Hid (Shuf a b D D')
def CutPiv (w0 : World) (blk off n : Nat) (K : Nat → Int) (M a b : Nat) (D : Nat → Nat) (s s' : Value) (wx : World) : Prop :=
  ∃ (p : Nat) (h : Int) (D' : Nat → Nat), s = .int .i64 p ∧ s' = .int .i64 h ∧ a ≤ p ∧ p < b ∧ Hid (Srt w0 blk off n K M D' wx) ∧ Hid (Shuf a b D D')
def CutPar (w0 : World) (blk off n : Nat) (K : Nat → Int) (M a b : Nat) (D : Nat → Nat) (wx : World) : Prop :=
  ∃ (D' : Nat → Nat), Hid (Srt w0 blk off n K M D' wx) ∧ Hid (Shuf a b D D')
set_option maxHeartbeats 16000000 in
theorem pdq_any (w0 : World) (blk off n cap M : Nat) (K : Nat → Int) (hp : Value) (hC : CmpOk w0 blk K M hp) (hn : n ≤ 1000000) : ∀ (m a b li : Nat) (D : Nat → Nat) (w : World), Srt w0 blk off n K M D w → LowB K a b D → a ≤ b → b ≤ n → b - a < m → li ≤ 64 →
    Calls Try.prog 35 #[.slice (some ⟨blk, off, none⟩) n cap, .int .i64 a, .int .i64 b, .int .i64 li, .func (.func 34) #[hp] #[]] w (SortPost w0 blk off n K M a b D) := by
  intro m
  induction m with
  | zero => intro a b li D w _ _ _ _ h _; omega
  | succ m ih =>
    intro a0 b0 li D w h hL hab hb hm hli
    have HINS : Hid (∀ (a b : Nat) (D : Nat → Nat) (w : World), Srt w0 blk off n K M D w → a ≤ b → b ≤ n → Calls Try.prog 38 #[.slice (some ⟨blk, off, none⟩) n cap, .int .i64 a, .int .i64 b, .func (.func 34) #[hp] #[]] w (SortPost w0 blk off n K M a b D)) := Lib.hid (fun a b D w h h1 hb => insertion_any w0 blk off n cap M a b K hp D w hC h h1 hb (by omega))
    have HHEAP : Hid (∀ (a b : Nat) (D : Nat → Nat) (w : World), Srt w0 blk off n K M D w → a < b → b ≤ n → Calls Try.prog 39 #[.slice (some ⟨blk, off, none⟩) n cap, .int .i64 a, .int .i64 b, .func (.func 34) #[hp] #[]] w (SortPost w0 blk off n K M a b D)) := Lib.hid (fun a b D w h h1 hb => heap_any w0 blk off n cap M a b K hp D w hC h h1 hb (by omega))
    have HBRK : Hid (∀ (a b : Nat) (D : Nat → Nat) (w : World), Srt w0 blk off n K M D w → a + 8 ≤ b → b ≤ n → Calls Try.prog 40 #[.slice (some ⟨blk, off, none⟩) n cap, .int .i64 a, .int .i64 b, .func (.func 34) #[hp] #[]] w (ShufPost w0 blk off n K M a b D)) := Lib.hid (fun a b D w h h1 hb => break_any w0 blk off n cap M a b K _ D w h h1 hb hn)
    have HPIV : Hid (∀ (a b : Nat) (D : Nat → Nat) (w : World), Srt w0 blk off n K M D w → a + 8 ≤ b → b ≤ n → Calls Try.prog 41 #[.slice (some ⟨blk, off, none⟩) n cap, .int .i64 a, .int .i64 b, .func (.func 34) #[hp] #[]] w (PivPost w0 blk off n K M D a b)) := Lib.hid (fun a b D w h h1 hb => pivot_any w0 blk off n cap M a b K hp D w hC h h1 hb (by omega))
    have HREV : Hid (∀ (a b : Nat) (D : Nat → Nat) (w : World), Srt w0 blk off n K M D w → a < b → b ≤ n → Calls Try.prog 42 #[.slice (some ⟨blk, off, none⟩) n cap, .int .i64 a, .int .i64 b, .func (.func 34) #[hp] #[]] w (ShufPost w0 blk off n K M a b D)) := Lib.hid (fun a b D w h h1 hb => reverse_any w0 blk off n cap M a b K _ D w h h1 hb (by omega))
    have HPAR : Hid (∀ (a b : Nat) (D : Nat → Nat) (w : World), Srt w0 blk off n K M D w → LowB K a b D ∧ a < b → b ≤ n → Calls Try.prog 43 #[.slice (some ⟨blk, off, none⟩) n cap, .int .i64 a, .int .i64 b, .func (.func 34) #[hp] #[]] w (PartialPost w0 blk off n K M a b D)) := Lib.hid (fun a b D w h h1 hb => partial_any w0 blk off n cap M a b K hp D w hC h h1.1 h1.2 hb (by omega))
    have HPRT : Hid (∀ (a b p : Nat) (D : Nat → Nat) (w : World), Srt w0 blk off n K M D w → a ≤ p → p < b → b ≤ n → Calls Try.prog 45 #[.slice (some ⟨blk, off, none⟩) n cap, .int .i64 a, .int .i64 b, .int .i64 p, .func (.func 34) #[hp] #[]] w (PartPost w0 blk off n K M a b D)) := Lib.hid (fun a b p D w h h1 h2 hb => partition_any w0 blk off n cap M a b p K hp D w hC h h1 h2 hb (by omega))
    have HIH := Lib.hid ih
    have HC := Lib.hid hC
    have S0 := Lib.hid h
    have HL := Lib.hid hL
    have eg := eg34
    clear h hC hL ih
    go_enter Try.func35, Try.ntmps35
    go_wp2
    go_loopg [1, 2, 3, 10, 11] (b0 - a0) (fun g s1 s2 s3 s10 s11 wr => ∃ (a b li : Nat) (wb wp : Bool) (Di : Nat → Nat), s1 = .int .i64 a ∧ s2 = .int .i64 b ∧ s3 = .int .i64 li ∧ s10 = .bool wb ∧ s11 = .bool wp ∧ a0 ≤ a ∧ a ≤ b ∧ b ≤ b0 ∧ li ≤ 64 ∧ b - a ≤ g ∧ Hid (Srt w0 blk off n K M Di wr) ∧ Hid (Shuf a0 b0 D Di) ∧ Hid (RestK K a0 b0 a b Di) ∧ Hid (LowB K a b Di))
    case atStart => exact ⟨a0, b0, li, true, true, D, rfl, rfl, rfl, rfl, rfl, Nat.le_refl _, hab, Nat.le_refl _, hli, Nat.le_refl _, S0, Lib.hid (Shuf.refl _ _ _), Lib.hid (fun p q h1 h2 h3 h4 => by omega), HL⟩
    case round =>
      clear hli
      obtain ⟨a, b, li, wb, wp, Di, rfl, rfl, rfl, rfl, rfl, haa, hab1, hbb, hli, hg, S1, SH1, RE1, LO1⟩ := hrel
      clear S0 HL
      obtain ⟨l, hlb⟩ : ∃ l : Nat, (b : Int) - a = l := ⟨b - a, by omega⟩
      by_cases h12 : (l : Int) ≤ 12
      · go_wp2_with fail
        refine (HINS.out a b Di wr S1.out hab1 (by omega)).mono ?_
        rintro e w1 ⟨rfl, D1, s1, sh1, so1⟩
        go_wp2_with fail
        (try simp only [Exit.inBlock, Exit.then]); refine bodyPost_ret (results_none rfl _ _ _) rfl ?_
        exact ⟨rfl, D1, s1, SH1.out.trans (sh1.mono haa hbb), rest_done RE1.out sh1 haa hbb so1⟩
      · have hlen : a + 13 ≤ b := by omega
        by_cases hl0 : li = 0
        · have hz : ((li : Int) == 0) = true := by simp [hl0]
          clear hl0
          go_wp2_with fail
          refine (HHEAP.out a b Di wr S1.out (by omega) (by omega)).mono ?_
          rintro e w1 ⟨rfl, D1, s1, sh1, so1⟩
          go_wp2_with fail
          (try simp only [Exit.inBlock, Exit.then]); refine bodyPost_ret (results_none rfl _ _ _) rfl ?_
          exact ⟨rfl, D1, s1, SH1.out.trans (sh1.mono haa hbb), rest_done RE1.out sh1 haa hbb so1⟩
        · obtain ⟨lp, rfl⟩ : ∃ q, li = q + 1 := ⟨li - 1, by omega⟩
          have hz : (((lp + 1 : Nat) : Int) == 0) = false := beq_false_of_ne (by omega)
          have hz2 : ((lp : Int) + 1 == 0) = false := beq_false_of_ne (by omega)
          have p6 : IntKind.i64.wrap (lp : Int) = lp := by rw [IntKind.wrap_i64]; omega
          clear hl0
          go_upto_if 39 with fail
          go_cut [3] from 21 to 147 (fun s3 wx => CutLim w0 blk off n K M a b Di s3 wx)
          case first =>
            cases wb
            · go_wp2_with fail
              refine (HBRK.out a b Di wr S1.out (by omega) (by omega)).mono ?_
              rintro e w1 ⟨rfl, D1, s1, sh1⟩
              go_wp2_with fail
              go_meet
              case rel => exact ⟨lp, D1, by first | rfl | go_num, by omega, Lib.hid s1, Lib.hid sh1⟩
            · go_wp2_with fail
              go_meet
              case rel => exact ⟨lp + 1, Di, by first | rfl | go_num, hli, S1, Lib.hid (Shuf.refl _ _ _)⟩
          case rest =>
            clear S1 p6 hz hz2 hli
            obtain ⟨li, D2, rfl, hli, S2, SH2⟩ := hcut
            go_wp2_with fail
            refine (HPIV.out a b D2 wc S2.out (by omega) (by omega)).mono ?_
            rintro e w2 ⟨p, hh, rfl, hpa, hpb, s2⟩
            have S2 := Lib.hid s2
            clear s2
            go_upto_if 56 with fail
            go_cut [13, 14] from 21 to 147 (fun s13 s14 wx => CutPiv w0 blk off n K M a b D2 s13 s14 wx)
            case first =>
              obtain ⟨p', hp'⟩ : ∃ p' : Nat, (p' : Int) = (b : Int) - 1 - (p - a) := ⟨b - 1 - (p - a), by omega⟩
              have HP : Hid ((p' : Int) = (b : Int) - 1 - (p - a) ∧ a ≤ p' ∧ p' < b) := ⟨hp', by omega, by omega⟩
              clear hp'
              by_cases hd2 : hh = 2
              · have d2 : (hh == 2) = true := by simp [hd2]
                clear hd2
                go_wp2_with fail
                refine (HREV.out a b D2 w2 S2.out (by omega) (by omega)).mono ?_
                rintro e w3 ⟨rfl, D3, s3, sh3⟩
                go_wp2_with fail
                go_meet
                case rel => exact ⟨p', 1, D3, by rw [HP.out.1], rfl, HP.out.2.1, HP.out.2.2, Lib.hid s3, Lib.hid sh3⟩
              · have d2 : (hh == 2) = false := beq_false_of_ne hd2
                clear hd2
                go_wp2_with fail
                go_meet
                case rel => exact ⟨p, hh, D2, rfl, rfl, hpa, hpb, S2, Lib.hid (Shuf.refl _ _ _)⟩
            case rest =>
              clear hpa hpb S2
              obtain ⟨p, hh, D3, rfl, rfl, hpa, hpb, S3, SH3⟩ := hcut
              go_upto_region 15 with fail
              go_cut [75] from 21 to 147 (fun s75 wx => (∃ z : Bool, s75 = .bool z) ∧ wx = wc)
              case first =>
                by_cases hd1 : hh = 1
                · have d1 : (hh == 1) = true := by simp [hd1]
                  clear hd1
                  cases wb <;> cases wp <;>
                    (go_wp2_with fail
                     go_meet
                     exact ⟨⟨_, rfl⟩, rfl⟩)
                · have d1 : (hh == 1) = false := by simp [hd1]
                  clear hd1
                  cases wb <;> cases wp <;>
                    (go_wp2_with fail
                     go_meet
                     exact ⟨⟨_, rfl⟩, rfl⟩)
              case rest =>
                obtain ⟨⟨z, rfl⟩, rfl⟩ := hcut
                go_upto_if 75 with fail
                have SHH3 : Hid (Shuf a b Di D3) := Lib.hid (SH2.out.trans SH3.out)
                clear SH2 SH3
                go_cut [] from 21 to 147 (fun wx => CutPar w0 blk off n K M a b Di wx)
                case first =>
                  cases z
                  · go_wp2_with fail
                    go_meet
                    case rel => exact ⟨D3, S3, SHH3⟩
                  · go_wp2_with fail
                    refine (HPAR.out a b D3 wc S3.out ⟨LO1.out.shuf SHH3.out, by omega⟩ (by omega)).mono ?_
                    rintro e w4 ⟨fl, D4, rfl, s4, sh4, so4⟩
                    cases fl
                    · go_wp2_with fail
                      go_meet
                      case rel => exact ⟨D4, Lib.hid s4, Lib.hid (SHH3.out.trans sh4)⟩
                    · go_wp2_with fail
                      (try simp only [Exit.inBlock, Exit.then]); refine bodyPost_ret (results_none rfl _ _ _) rfl ?_
                      exact ⟨rfl, D4, s4, SH1.out.trans ((SHH3.out.trans sh4).mono haa hbb), rest_done RE1.out (SHH3.out.trans sh4) haa hbb (by simpa using so4)⟩
                case rest =>
                  clear S3 SHH3
                  obtain ⟨D4, S4, SH4⟩ := hcut
                  have LO4 : Hid (LowB K a b D4) := Lib.hid (LO1.out.shuf SH4.out)
                  have RE4 : Hid (RestK K a0 b0 a b D4) := Lib.hid (rest_shuf RE1.out SH4.out haa hbb)
                  have SHA4 : Hid (Shuf a0 b0 D D4) := Lib.hid (SH1.out.trans (SH4.out.mono haa hbb))
                  clear SH1 SH4 LO1 RE1
                  go_upto_region 17 with fail
                  go_cut [97] from 21 to 147 (fun s97 wx => s97 = .bool false ∧ Hid (Srt w0 blk off n K M D4 wx))
                  case first =>
                    clear hlb h12
                    by_cases ha0 : a = 0
                    · have hd : decide ((0 : Int) < (a : Int)) = false := decide_eq_false (by omega)
                      have hd0 : decide ((a : Int) > 0) = false := decide_eq_false (by omega)
                      have hd3 : decide (0 < a) = false := decide_eq_false (by omega)
                      clear ha0
                      go_wp2_with fail
                      go_quiet (fail)
                      have w6S := Lib.hid (S4.out.drewN nq)
                      generalize wc.drewN nq = w6 at w6S ⊢
                      clear nq
                      go_wp2_with fail
                      go_meet
                      case rel => exact ⟨by first | rfl | go_num, w6S⟩
                    · obtain ⟨ap, rfl⟩ : ∃ q, a = q + 1 := ⟨a - 1, by omega⟩
                      have HLT : Hid (K (D4 ap) < K (D4 p)) := Lib.hid (by
                        have := LO4.out (by omega) p hpa hpb
                        rwa [Nat.add_sub_cancel] at this)
                      have hd : decide ((0 : Int) < ((ap + 1 : Nat) : Int)) = true := decide_eq_true (by omega)
                      have hd2 : decide ((0 : Int) < (ap : Int) + 1) = true := decide_eq_true (by omega)
                      have p6 : IntKind.i64.wrap (ap : Int) = ap := by rw [IntKind.wrap_i64]; omega
                      clear ha0
                      obtain ⟨i1, hi1⟩ : ∃ q : Nat, q = ap := ⟨_, rfl⟩
                      have eai1 : ((ap : Int)).toNat = i1 := by omega
                      have pai1 : (0 : Int) ≤ (ap : Int) := by omega
                      have bai1 : (ap : Int) < (n : Int) := by omega
                      have rai1 : IntKind.i64.wrap ((ap : Int)) = (ap : Int) := by rw [IntKind.wrap_i64]; omega
                      obtain ⟨j1, hj1⟩ : ∃ q : Nat, q = p := ⟨_, rfl⟩
                      have eaj1 : ((p : Int)).toNat = j1 := by omega
                      have paj1 : (0 : Int) ≤ (p : Int) := by omega
                      have baj1 : (p : Int) < (n : Int) := by omega
                      have raj1 : IntKind.i64.wrap ((p : Int)) = (p : Int) := by rw [IntKind.wrap_i64]; omega
                      obtain ⟨x1, hx1⟩ : ∃ x, D4 (i1) = x := ⟨_, rfl⟩
                      obtain ⟨y1, hy1⟩ : ∃ y, D4 (j1) = y := ⟨_, rfl⟩
                      obtain ⟨c11, f11⟩ := S4.out.row i1 (by omega)
                      obtain ⟨c21, f21⟩ := S4.out.row j1 (by omega)
                      have hxM1 : x1 < M := by rw [← hx1]; exact S4.out.ky.el _ (by omega)
                      have hyM1 : y1 < M := by rw [← hy1]; exact S4.out.ky.el _ (by omega)
                      rw [hx1] at c11
                      rw [hy1] at c21
                      have HCL1 := Lib.hid (fun q => HC.out (wc.drewN q) x1 y1 (S4.out.on.drewN q) hxM1 hyM1)
                      have hz1 : decide (cmpK K x1 y1 < 0) = true := by
                        rw [← hx1, ← hy1, hi1, hj1]
                        exact decide_eq_true (cmpK_lt.2 HLT.out)
                      clear hx1 hy1 hxM1 hyM1 hi1 hj1
                      generalize cmpK K x1 y1 = z1 at hz1 HCL1
                      go_wp2_with fail
                      go_quiet ((go_at_fn 34; exact Calls.quiet_of (HCL1.out _)))
                      have w6S := Lib.hid (S4.out.drewN nq)
                      clear c11 c21 f11 f21 HCL1
                      generalize wc.drewN nq = w6 at w6S ⊢
                      clear nq
                      clear eai1 pai1 bai1 rai1 eaj1 paj1 baj1 raj1
                      clear p6
                      go_wp2_with fail
                      go_meet
                      case rel => exact ⟨by first | rfl | go_num, w6S⟩
                  case rest =>
                    clear S4
                    obtain ⟨rfl, S5⟩ := hcut
                    go_wp2_with fail
                    refine (HPRT.out a b p D4 wc S5.out hpa hpb (by omega)).mono ?_
                    rintro e w7 ⟨mid, fl, D5, rfl, hm1, hm2, s5, sh5, pk⟩
                    have S6 := Lib.hid s5
                    have PK := Lib.hid pk
                    have LO6 : Hid (LowB K a b D5) := Lib.hid (LO4.out.shuf sh5)
                    have RE6 : Hid (RestK K a0 b0 a b D5) := Lib.hid (rest_shuf RE4.out sh5 haa hbb)
                    have SHA6 : Hid (Shuf a0 b0 D D5) := Lib.hid (SHA4.out.trans (sh5.mono haa hbb))
                    clear s5 sh5 pk S5 LO4 RE4 SHA4 hpa hpb
                    obtain ⟨q8, hq8⟩ : ∃ q : Nat, (l : Int) / 8 = q := ⟨l / 8, by omega⟩
                    by_cases h4 : (mid : Int) - a < (b : Int) - mid
                    · go_wp2_with fail
                      refine (HIH.out a mid li D5 w7 S6.out (low_sub LO6.out (by omega)) hm1 (by omega) (by omega) hli).mono ?_
                      rintro e w8 ⟨rfl, D6, s6, sh6, so6⟩
                      have S8 := Lib.hid s6
                      have LO8 : Hid (LowB K (mid + 1) b D6) := Lib.hid (low_left PK.out sh6 hm1)
                      have RE8 : Hid (RestK K a0 b0 (mid + 1) b D6) := Lib.hid (rest_left RE6.out PK.out sh6 haa hbb hm1 hm2 so6)
                      have SHA8 : Hid (Shuf a0 b0 D D6) := Lib.hid (SHA6.out.trans (sh6.mono haa (by omega)))
                      clear s6 sh6 so6
                      go_wp2_with fail
                      go_roundg (b - (mid + 1))
                      case measure => omega
                      case rel => exact ⟨mid + 1, b, li, _, _, D6, by go_num, rfl, rfl, rfl, rfl, by omega, by omega, hbb, hli, Nat.le_refl _, S8, SHA8, RE8, LO8⟩
                    · have CM : Hid ((mid : Int) + 1 = ((mid + 1 : Nat) : Int)) := Lib.hid (by omega)
                      go_wp2_with fail
                      rw [CM.out]
                      refine (HIH.out (mid + 1) b li D5 w7 S6.out (low_part PK.out) (by omega) (by omega) (by omega) hli).mono ?_
                      rintro e w8 ⟨rfl, D6, s6, sh6, so6⟩
                      have S8 := Lib.hid s6
                      have LO8 : Hid (LowB K a mid D6) := Lib.hid (low_right LO6.out sh6 hm1 hm2)
                      have RE8 : Hid (RestK K a0 b0 a mid D6) := Lib.hid (rest_right RE6.out PK.out sh6 haa hbb hm1 hm2 so6)
                      have SHA8 : Hid (Shuf a0 b0 D D6) := Lib.hid (SHA6.out.trans (sh6.mono (by omega) hbb))
                      clear s6 sh6 so6
                      go_wp2_with fail
                      go_roundg (mid - a)
                      case measure => omega
                      case rel => exact ⟨a, mid, li, _, _, D6, rfl, rfl, rfl, rfl, rfl, haa, hm1, by omega, hli, Nat.le_refl _, S8, SHA8, RE8, LO8⟩
end Go.Proofs.Ytgfjfpfhalblgaa
