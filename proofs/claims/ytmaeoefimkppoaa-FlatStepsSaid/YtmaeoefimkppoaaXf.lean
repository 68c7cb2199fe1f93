/- The walk of FlatNews: a new object behind some others. -/
import Derived.Test.YtmaeoefimkppoaaXd
import Derived.BigQuiet
import Derived.Deep.QuietTactic
namespace Go.Proofs.Ytmaeoefimkppoaa.Fl
set_option maxRecDepth 1000000
open Go.ChangeShapes Go.WideShapes Go.ChangeAt Go.RowKit
open Go.Proofs.Ytmaeoefimkppoaa.Wd

/-- The package's memory at m and the chapter's, in the variable px, are the same. -/
def Two (W w0 w : World) (m px : Nat) (E : Mem) : Prop :=
  ∃ (K : Nat → Prop) (a : Option Addr) (l c : Nat) (L : List RO), St W w0 K w m E ∧ K px ∧ B1 px (.slice a l c) w ∧ RmV (fun g => K g ∧ g ≠ px) w (.slice a l c) L ∧ memR L = E
theorem okN_210 : okN 2 1 0 = true := by decide
theorem memR_last {L : List RO} {E : Mem} {x : Ob} (h : memR L = E ++ [some x]) : ∃ hj : E.length < L.length, L[E.length].1 = x ∧ L.length = E.length + 1 := by
  have hl : L.length = E.length + 1 := by
    have := congrArg List.length h
    rw [memR_len] at this
    simpa using this
  refine ⟨by omega, ?_, hl⟩
  have h1 := memR_at L E.length (by omega)
  rw [h, show ((E.length + 1 : Nat) : Int) = (E.length : Int) + 1 by omega, at_push, if_pos rfl] at h1
  split at h1
  · cases h1
  · injection h1 with h1
    exact h1.symm
/-- The chapter's memory lies in blocks that the package's may not change; its variable is another block. -/
theorem rmv_in {K : Nat → Prop} {px : Nat} {w1 w2 w3 : World} {v : Value} {L : List RO} (hpx : px < w1.heap.size) (h : RmV (fun g => (K g ∧ g ≠ px) ∨ w1.heap.size ≤ g) w2 v L) (b : Below w2.heap.size w2 w3) (_h12 : w1.heap.size ≤ w2.heap.size) :
    RmV (fun g => (K g ∨ (w1.heap.size ≤ g ∧ g < w3.heap.size)) ∧ g ≠ px) w3 v L :=
  (h.kind (M := fun g => (K g ∨ (w1.heap.size ≤ g ∧ g < w2.heap.size)) ∧ g ≠ px) fun g hg hh => by
    rcases hh with ⟨h1, h2⟩ | h1
    · exact ⟨.inl h1, h2⟩
    · exact ⟨.inr ⟨h1, hg⟩, by omega⟩).fresh b |>.mono fun g ⟨h1, h2⟩ => ⟨h1.imp id fun ⟨a, c⟩ => ⟨a, Nat.lt_of_lt_of_le c b.size⟩, h2⟩
/-- A new object in both. -/
theorem two_new1 {W w0 w : World} {m px : Nat} {E : Mem} (h : Two W w0 w m px E) (hE : E.length < 999999) (c k n : Int) (hc : In64 c) (hk : In64 k) :
    Calls Try.prog 30 #[.pointer (some ⟨m, 0, none⟩), .int .i64 c, .int .i64 k, .int .i64 n] w fun e w1 => e = .returned (.tuple #[.int .i64 (newN E c k n), .int .i64 (newE c k n)]) ∧
      Hid (∃ (a : Option Addr) (l cc : Nat), B1 px (.slice a l cc) w1 ∧ ∀ w1', Below w1.heap.size w1 w1' → Calls Try.prog 31 #[.agg #[.slice a l cc], .int .i64 c, .int .i64 k, .int .i64 n] w1' fun e w2 => ∃ a' l' c', e = .returned (.tuple #[.agg #[.slice a' l' c'], .int .i64 (newN E c k n), .int .i64 (newE c k n)]) ∧
        Hid (Below w1'.heap.size w1' w2) ∧ Hid (∀ w3, Below w2.heap.size w2 w3 → ∃ (K : Nat → Prop) (L : List RO), St W w0 K w3 m (newF E c k n) ∧ K px ∧ B1 px (.slice a l cc) w3 ∧ (∀ g, w1'.heap.size ≤ g → g < w3.heap.size → K g) ∧ RmV (fun g => K g ∧ g ≠ px) w3 (.slice a' l' c') L ∧ memR L = newF E c k n)) := by
  obtain ⟨K, a, l, cc, L, hs, hpx, hb, hr, hm⟩ := h
  refine (new_any hs.1 (by omega) c k n hc hk).mono fun e w1 ⟨he, hm1, hk1⟩ => ⟨he, a, l, cc, hb.only hk1 fun hn => hn hpx, fun w1' b1 => ?_⟩
  have hr1 : RmV (fun g => K g ∧ g ≠ px) w1' (.slice a l cc) L := (hr.keeps (hk1.mono fun g hg => hg.1)).fresh b1
  have hpl : px < w1.heap.size := (hb.only hk1 fun hn => hn hpx).2.2
  have hll : L.length ≤ 1000000 := by
    rw [← memR_len, hm]
    have := hs.1.few
    omega
  refine (cnew_any hr1 hll c k n hc).mono fun e2 w2 ⟨a', l', c', L', he2, hr2, hm2, b2⟩ => ⟨a', l', c', by rw [he2, hm], b2, fun w3 b3 => ?_⟩
  have b13 : Below w1.heap.size w1 w3 := (b1.trans (b2.mono b1.size)).trans (b3.mono (Nat.le_trans b1.size b2.size))
  have b13' : Below w1'.heap.size w1' w3 := b2.trans (b3.mono b2.size)
  refine ⟨fun g => K g ∨ (w1'.heap.size ≤ g ∧ g < w3.heap.size), L', ⟨?_, fun g hg => .inl (hs.2.1 g hg), hs.2.2.trans ((hk1.mono hs.2.1).trans (Keeps.of_below b13))⟩, .inl hpx, (hb.only hk1 fun hn => hn hpx).next b13, fun g h1 h2 => .inr ⟨h1, h2⟩, rmv_in (Nat.lt_of_lt_of_le hpl b1.size) hr2 b3 b2.size, by rw [hm2, hm]⟩
  exact (hm1.fresh b1).keep b13' fun g hg => hg
theorem two_start (W : World) : Two W (newW W) ((newW W).alloc (.cells #[.slice none 0 0] 29)) W.heap.size (newW W).heap.size [] := by
  have hs : (newW W).heap.size = W.heap.size + 1 := by unfold newW; simp
  have h0 := mem_new W (· < W.heap.size) (fun _ h => h)
  refine ⟨fun g => g < W.heap.size ∨ g = (newW W).heap.size, none, 0, 0, [], ⟨h0.keep (below_new _ _) fun g hg => hg.imp id fun e => ⟨Nat.le_of_eq e.symm, by simp [e]⟩, fun g hg => .inl hg, Keeps.of_below (below_new _ _)⟩, .inr rfl, b1_new _ _ _, rmv_nil _ _, rfl⟩
theorem two_put {W w0 w3 : World} {m px : Nat} {E : Mem} {K : Nat → Prop} {L : List RO} {a a' : Option Addr} {l c l' c' : Nat} (hpx : W.heap.size ≤ px) (hs : St W w0 K w3 m E) (hk : K px) (hb : B1 px (.slice a l c) w3) (hr : RmV (fun g => K g ∧ g ≠ px) w3 (.slice a' l' c') L) (hm : memR L = E) :
    Two W w0 (w3.setCell ⟨px, 0, none⟩ (.slice a' l' c')) m px E := by
  have o : Only (· = px) w3 (w3.setCell ⟨px, 0, none⟩ (.slice a' l' c')) := only_set w3 px 0 _
  refine ⟨K, a', l', c', L, ⟨hs.1.only o fun g e => by rw [e]; exact hk, hs.2.1, hs.2.2.trans ⟨o.os, o.tape, o.output, o.size, fun g hg hn => o.block g hg fun e => hn (by omega)⟩⟩, hk, hb.put _, hr.only o fun g hg e => hg.2 e, hm⟩
theorem newF_210 (E : Mem) : newF E 2 1 0 = E ++ [some (blk 2 1 0)] := by unfold newF; rw [if_pos okN_210]; rfl
/-- A region that draws, whose operations read nothing, and whose calls leave what was there: one walk. -/
theorem wp_region_below {id : Nat} {Q : Exit → Act → World → Prop} {a : Act} {w : World} {l : List Oper} (hm : Try.prog.follows .mixedOrders = true) (hB : Region.lexB .any l.toArray = true)
    (h : wpQuiet Try.prog l.toArray (fun w' => Below w.heap.size w w') (fun a' => ∀ w', Below w.heap.size w w' → Q .normal a' w') l a) : (Code.region id l.toArray true).wp Try.prog Q a w :=
  wp_region_quiet (C := fun w' => Below w.heap.size w w') hm hB (below_drewN w.heap.size w 1) (by simpa using h)
set_option maxHeartbeats 4000000 in
theorem flatNews_walk (W : World) (c : Int) (w0 : (Lit.int .i64 c).wf = true) (k : Int) (w1 : (Lit.int .i64 k).wf = true) (s : Int) (_w2 : (Lit.int .i64 s).wf = true) (a3 : Int) (w3 : (Lit.int .u8 a3).wf = true) :
    Calls Try.prog 6 #[.int .i64 c, .int .i64 k, .int .i64 s, .int .u8 a3] W fun e W' => e = .returned (.bool true) ∧ Below W.heap.size W W' := by
  have hc := Lib.hid (wf_i64 w0)
  have hk := Lib.hid (wf_i64 w1)
  obtain ⟨h0, h1⟩ := wf_u8 w3
  obtain ⟨n, rfl⟩ := Int.eq_ofNat_of_zero_le h0
  have HK := Lib.hid (fun w => known_any w)
  have T0 := Lib.hid (two_start W)
  have HW : Hid (Below W.heap.size W (newW W)) := Lib.hid (below_new W _)
  have hsz : W.heap.size < (newW W).heap.size := by unfold newW; simp
  obtain ⟨q, hq⟩ : ∃ q : Nat, n % 20 = q := ⟨_, rfl⟩
  have hq20 : q < 20 := by omega
  have hn : n ≤ 255 := by omega
  have r1 : (n : Int).tmod 20 = (q : Int) := by rw [← hq]; rfl
  have r2 : IntKind.u8.wrap (q : Int) = q := by simp [IntKind.wrap, IntKind.bits, IntKind.signed]; omega
  have r3 : IntKind.i64.wrap (q : Int) = q := by rw [IntKind.wrap_i64]; omega
  clear w0 w1 w3 h0 h1 hq
  go_enter Try.func6, Try.ntmps6
  go_wp2_with fail
  refine (new10_any W).mono ?_
  rintro e w0 ⟨rfl, rfl⟩
  generalize newW W = w0 at *
  go_upto_region 5 with fail
  have hpx : Hid (W.heap.size ≤ w0.heap.size) := Lib.hid (Nat.le_of_lt hsz)
  generalize w0.alloc (.cells #[.slice none 0 0] 29) = w1 at *
  generalize w0.heap.size = px at *
  go_wp2
  go_loopw [11] (fun x wr => ∃ i : Nat, i ≤ q ∧ x = .int .i64 i ∧ ∃ E, Two W w0 wr W.heap.size px E ∧ E.length = i) (fun x _ => q - (RowKit.intOf x).toNat)
  case atStart => exact ⟨0, Nat.zero_le _, rfl, [], T0.out, rfl⟩
  case round =>
    obtain ⟨i, hi, rfl, E, ht, hE⟩ := hrel
    have T := Lib.hid ht
    clear ht
    by_cases hlt : i < q
    · have d1 : decide ((i : Int) < q) = true := by simpa using hlt
      have d2 : decide (i < q) = true := by simpa using hlt
      have hw3 : IntKind.i64.wrap ((i : Int) + 1) = (i : Int) + 1 := by rw [IntKind.wrap_i64]; omega
      have HC := Lib.hid (two_new1 T.out (by omega) 2 1 0 ⟨by decide, by decide⟩ ⟨by decide, by decide⟩)
      have HE : Hid ((newF E 2 1 0).length = i + 1) := Lib.hid (by rw [newF_210]; simp [hE])
      generalize newF E 2 1 0 = E1 at *
      generalize newN E 2 1 0 = z1 at *
      generalize newE 2 1 0 = z2 at *
      go_upto_region 9 with (go_at_call 30; refine HC.out.mono ?_; rintro e v1 ⟨rfl, GG⟩)
      obtain ⟨a, l, cc, b1, HC2⟩ := GG.out
      have HC3 := Lib.hid (HC2 v1 (Below.refl _ _))
      have XB := Lib.hid b1
      clear GG HC2 HC
      obtain ⟨b1, f1, l1⟩ := b1
      go_wp2_with fail
      refine HC3.out.mono ?_
      rintro e v2 ⟨a', l', c', rfl, b2, HH⟩
      obtain ⟨K, L, s3, k3, x3, _, q3, m3⟩ := HH.out _ (below_new v2 (.cells #[.slice a' l' c'] 29))
      have Y3 := Lib.hid (b1_new v2 (.slice a' l' c') 29)
      have T4 := Lib.hid (two_put hpx.out s3 k3 x3 q3 m3)
      obtain ⟨x0, x1, x2⟩ := x3
      obtain ⟨y0, y1, y2⟩ := Y3.out
      clear HC3 b2 HH s3 k3 q3 m3 XB b1 f1 l1
      go_upto_region 10 with fail
      generalize v2.alloc (.cells #[.slice a' l' c'] 29) = v3 at *
      generalize v2.heap.size = py at *
      go_wp2
      exact ⟨⟨i + 1, by omega, by go_num, E1, T4.out, HE.out⟩, by simp [RowKit.intOf]; omega⟩
    · obtain rfl : q = i := by omega
      have d1 : decide ((q : Int) < q) = false := by simp
      have d2 : decide (q < q) = false := by simp
      have HC := Lib.hid (two_new1 T.out (by omega) c k s hc.out hk.out)
      have HN : Hid ((okN c k s = true ∧ newF E c k s = E ++ [some (blk c k s.toNat)] ∧ newN E c k s = 2 * ((E.length : Int) + 1) ∧ newE c k s = 0) ∨ (newE c k s = 2)) := Lib.hid (by
        unfold newF newN newE
        cases hN : okN c k s with
        | true => left; simp
        | false => right; simp)
      have hz64 : Hid (In64 (newN E c k s)) := Lib.hid (by
        unfold newN
        split
        · exact ⟨by omega, by omega⟩
        · exact ⟨by decide, by decide⟩)
      obtain ⟨E1, hE1⟩ : ∃ E1, newF E c k s = E1 := ⟨_, rfl⟩
      obtain ⟨z1, hz1⟩ : ∃ z1, newN E c k s = z1 := ⟨_, rfl⟩
      obtain ⟨z2, hz2⟩ : ∃ z2, newE c k s = z2 := ⟨_, rfl⟩
      rw [hE1, hz1, hz2] at HC HN
      rw [hz1] at hz64
      clear hE1 hz1 hz2
      go_upto_region 12 with (go_at_call 30; refine HC.out.mono ?_; rintro e v1 ⟨rfl, GG⟩)
      obtain ⟨a, l, cc, b1, HC2⟩ := GG.out
      have HC3 := Lib.hid (HC2 v1 (Below.refl _ _))
      clear GG HC2 HC
      obtain ⟨b1, f1, l1⟩ := b1
      go_wp2_with fail
      refine HC3.out.mono ?_
      rintro e v2 ⟨a', l', c', rfl, b2, HH⟩
      obtain ⟨K, L, s3, _, _, k3, q3, m3⟩ := HH.out _ (below_new v2 (.cells #[.slice a' l' c'] 29))
      have Y3 := Lib.hid (b1_new v2 (.slice a' l' c') 29)
      have S3 := Lib.hid s3
      have Q3 := Lib.hid q3
      have M3 := Lib.hid m3
      have hll : l' = E1.length := by
        obtain ⟨a9, c9, h9⟩ := q3.form
        injection h9 with _ h9 _
        rw [h9, ← memR_len, m3]
      have HLL := Lib.hid hll
      clear HC3 b2 HH s3 k3 q3 m3 b1 f1 l1 hll
      go_upto_region 13 with fail
      generalize v2.alloc (.cells #[.slice a' l' c'] 29) = v3 at *
      generalize v2.heap.size = py at *
      go_wp2_with fail
      refine (obj_form S3.out.1 z1 hz64.out).mono ?_
      rintro e v4 ⟨a1, n1, c1, a2, n2, c2, rfl, OO, hb4⟩
      have X4 := Lib.hid (box_new v4 (.int .i64 (objF E1 z1).c) (.int .i64 (objF E1 z1).k) (.slice a1 n1 c1) (.slice a2 n2 c2))
      have B4 := Lib.hid (hb4.trans ((below_new v4 (.cells #[.int .i64 (objF E1 z1).c, .int .i64 (objF E1 z1).k, .slice a1 n1 c1, .slice a2 n2 c2] 33)).mono hb4.size))
      have O4 : Hid (ObjAt (v4.alloc (.cells #[.int .i64 (objF E1 z1).c, .int .i64 (objF E1 z1).k, .slice a1 n1 c1, .slice a2 n2 c2] 33)) (.agg #[.int .i64 (objF E1 z1).c, .int .i64 (objF E1 z1).k, .slice a1 n1 c1, .slice a2 n2 c2]) (objF E1 z1)) := Lib.hid ((OO.out.obj (objF_okZ S3.out.1.good z1)).kept (below_new _ _))
      clear hb4 OO
      go_upto_region 14 with fail
      obtain ⟨v5, hv5⟩ : ∃ v5, v4.alloc (.cells #[.int .i64 (objF E1 z1).c, .int .i64 (objF E1 z1).k, .slice a1 n1 c1, .slice a2 n2 c2] 33) = v5 := ⟨_, rfl⟩
      rw [hv5] at X4 B4 O4 ⊢
      clear hv5
      generalize v4.heap.size = pz at *
      have S5 := Lib.hid (st_next S3.out B4.out)
      have Q5 := Lib.hid (Q3.out.fresh B4.out)
      have Y5 := Lib.hid (Y3.out.next B4.out)
      clear S3 Q3 Y3 B4
      obtain ⟨y0, _, _⟩ := Y5.out
      have HMd0 := fun w (hb : Below v5.heap.size v5 w) => made_any (S5.out.1.fresh hb)
      rw [← HLL.out] at HMd0
      have HMd := Lib.hid HMd0
      clear HMd0
      have e1 : (z1 != z1) = false := by simp
      have e2 : (z2 != z2) = false := by simp
      have e3 : ((l' : Int) != l') = false := by simp
      go_quiet (first | (go_at_call 18; exact Calls.quiet_of_same ((HMd.out _ (below_drewN _ _ _)).mono fun _ _ h => ⟨h.1, h.2.symm⟩)))
      clear e1 e2 e3 HMd y0
      have B6 : Hid (Below v5.heap.size v5 (v5.drewN nq)) := Lib.hid (below_drewN _ _ _)
      have S6 := Lib.hid (st_next S5.out B6.out)
      have Q6 := Lib.hid (Q5.out.fresh B6.out)
      have Y6 := Lib.hid (Y5.out.next B6.out)
      have X6 := Lib.hid (X4.out.next B6.out)
      have O6 := Lib.hid (O4.out.kept B6.out)
      clear S5 Q5 Y5 X4 O4 B6
      generalize v5.drewN nq = v6 at *
      have HEND : Hid (∀ w', Below v6.heap.size v6 w' → Below W.heap.size W w') := Lib.hid fun w' hb => HW.out.trans ((S6.out.2.2.trans (Keeps.of_below hb)).below (fun g hg => hg) HW.out.size)
      rcases HN.out with ⟨hN, hF, hNN, rfl⟩ | h2
      · have hEL : E.length = q := hE
        obtain ⟨hj, hp, hLq⟩ := memR_last (L := L) (E := E) (x := blk c k s.toNat) (by rw [M3.out, hF])
        have ha1 : at_ E1 ((E.length : Int) + 1) = some (blk c k s.toNat) := by rw [hF, at_push, if_pos rfl]
        have hnv := nam_two (i := (E.length : Int) + 1) (by omega) (by omega)
        have hob : objF E1 z1 = blk c k s.toNat ∧ errF E1 z1 = 0 := by
          unfold objF errF
          rw [hNN, hnv, ha1]
          exact ⟨rfl, rfl⟩
        rw [hob.1] at X6 O6
        rw [hob.2]
        have HSh : Hid (Short (blk c k s.toNat)) := Lib.hid (by
          have h1 : okO (blk c k s.toNat) = true := by
            obtain ⟨_, h1, h2⟩ := okN_in hN
            rw [okO_blk (by omega), Int.toNat_of_nonneg h1]; exact hN
          have := ok_short h1
          exact ⟨by omega, by omega⟩)
        obtain ⟨b, off, cc9, a3, n3, c3, a4, n4, c4, hv, _, hr, ho⟩ := Q6.out.cells E.length hj
        rw [hp] at hr ho
        injection hv with e1 e2 e3
        subst e1 e3
        have R6 := Lib.hid hr
        have P6 := Lib.hid ho
        have hl1 : l' = q + 1 := by rw [e2, hLq, hEL]
        have HSm : Hid (∀ w', Below v6.heap.size v6 w' → Calls Try.prog 25 #[.agg #[.int .i64 (blk c k s.toNat).c, .int .i64 (blk c k s.toNat).k, .slice a1 n1 c1, .slice a2 n2 c2], .agg #[.int .i64 (blk c k s.toNat).c, .int .i64 (blk c k s.toNat).k, .slice a3 n3 c3, .slice a4 n4 c4]] w' fun e w'' => e = .returned (.bool true) ∧ Below w'.heap.size w' w'') := Lib.hid fun w' hb => same_got (O6.out.kept hb) (P6.out.kept hb) HSh.out
        rw [hEL] at R6
        generalize (blk c k s.toNat).c = oc at *
        generalize (blk c k s.toNat).k = ok at *
        have HCl : Hid (∀ w', Below v6.heap.size v6 w' → (w'.cell? ⟨pz, 0, none⟩ = some (.int .i64 oc) ∧ w'.cell? ⟨pz, 1, none⟩ = some (.int .i64 ok) ∧ w'.cell? ⟨pz, 2, none⟩ = some (.slice a1 n1 c1) ∧ w'.cell? ⟨pz, 3, none⟩ = some (.slice a2 n2 c2)) ∧ w'.cell? ⟨py, 0, none⟩ = some (.slice (some ⟨b, off, none⟩) l' c') ∧ w'.cell? ⟨b, off + q * 4, none⟩ = some (.int .i64 oc) ∧ w'.cell? ⟨b, off + q * 4 + 1, none⟩ = some (.int .i64 ok) ∧ w'.cell? ⟨b, off + q * 4 + 2, none⟩ = some (.slice a3 n3 c3) ∧ w'.cell? ⟨b, off + q * 4 + 3, none⟩ = some (.slice a4 n4 c4)) := Lib.hid fun w' hb => ⟨(X6.out.next hb).1, (Y6.out.next hb).1, R6.out.next hb⟩
        obtain ⟨⟨x0, x1, x2, x3⟩, y0, z0, z1, z2, z3⟩ := HCl.out v6 (Below.refl _ _)
        have hq0 : (0 : Int) ≤ q := by omega
        have hql : (q : Int) < l' := by omega
        have hw1 : IntKind.i64.wrap ((l' : Int) - 1) = (q : Int) := by rw [IntKind.wrap_i64]; omega
        have hw2 : wrap64 ((l' : Int) - 1) = (q : Int) := by rw [IntWalk.wrap64_in _ (by omega)]; omega
        clear hN hF hNN hEL hj hp hLq ha1 hnv hob hr ho e2 hl1 HN hE hlt hi d1 d2 r1 r2 r3 hq20 hn
        go_wp2_with fail
        go_region_held3 (fun w' => (w'.cell? ⟨pz, 0, none⟩ = some (.int .i64 oc) ∧ w'.cell? ⟨pz, 1, none⟩ = some (.int .i64 ok) ∧ w'.cell? ⟨pz, 2, none⟩ = some (.slice a1 n1 c1) ∧ w'.cell? ⟨pz, 3, none⟩ = some (.slice a2 n2 c2)) ∧ w'.cell? ⟨py, 0, none⟩ = some (.slice (some ⟨b, off, none⟩) l' c') ∧ w'.cell? ⟨b, off + q * 4, none⟩ = some (.int .i64 oc) ∧ w'.cell? ⟨b, off + q * 4 + 1, none⟩ = some (.int .i64 ok) ∧ w'.cell? ⟨b, off + q * 4 + 2, none⟩ = some (.slice a3 n3 c3) ∧ w'.cell? ⟨b, off + q * 4 + 3, none⟩ = some (.slice a4 n4 c4)) (first | (exact HCl.out _ KB9.out) | (exact HCl.out _ KB8.out) | go_keep) (first | (go_at_call 25; refine (HSm.out _ (below_drewN _ _ _)).mono ?_; rintro e w8 ⟨rfl, hb8⟩; have KB8 : Hid (Below v6.heap.size v6 w8) := Lib.hid ((below_drewN _ _ _).trans hb8)) | (go_at_call 13; refine (HK.out _).mono ?_; rintro e w9 ⟨rfl, hb9⟩; have KB9 : Hid (Below v6.heap.size v6 w9) := Lib.hid (KB8.out.trans (hb9.mono KB8.out.size))))
        all_goals go_wp2
        all_goals go_ret
        all_goals exact ⟨rfl, HEND.out _ KB9.out⟩
      · have hu : undef = Value.tuple #[] := rfl
        have d3 : (z2 != 0) = true := by rw [h2]; decide
        clear h2
        generalize (objF E1 z1).c = oc at *
        generalize (objF E1 z1).k = ok at *
        generalize errF E1 z1 = t at *
        clear HN hE hlt hi d1 d2 r1 r2 r3 hq20 hn
        go_wp2_with fail
        refine wp_region_below (by kernel_rfl) (by kernel_rfl) ?_
        repeat (go_big_quiet_step (first | (intro hC; go_at_call 13; refine (HK.out _).mono ?_; rintro e w9 ⟨rfl, hb9⟩; exact ⟨rfl, hC.trans (hb9.mono hC.size)⟩) | (intro _; rfl) | (intro _; exact ⟨rfl, rfl⟩)))
        refine wpQuiet_nil ?_
        intro w9 hb9
        have B9 := Lib.hid hb9
        clear hb9
        go_wp2
        go_ret
        exact ⟨rfl, HEND.out _ B9.out⟩
end Go.Proofs.Ytmaeoefimkppoaa.Fl
