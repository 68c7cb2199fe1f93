/- The walk of FlatCollects: what is collected is gone, and stays so. -/
import Derived.Test.YtmaeoefimkppoaaFGt
import Derived.BigQuiet
import Derived.Deep.QuietTactic
import Derived.Deep.DeepCutAuto
import Derived.Deep.CutRange
namespace Go.Proofs.Ytmaeoefimkppoaa.Fl
set_option maxRecDepth 1000000
open Go.ChangeShapes Go.WideShapes Go.ChangeAt Go.RowKit
open Go.Proofs.Ytmaeoefimkppoaa.Wd

theorem open_row10 {H : Type} {enc : TypeId × Value → H} {W : World} {base : Nat} {v : Value} {d : DataW H} {ps : List MemPlace} (hok : Value.okWide Try.prog W .any base 30 v)
    (h : DataW.Trod enc Try.prog W 0 (fun _ => true) true 30 v d ps) : ∃ xs, RowI W v xs := by
  obtain ⟨a0, len, cap, rfl⟩ := okWide_slice Try.underlying30 hok
  obtain ⟨fuel, hf⟩ := h
  obtain ⟨xs, h, _⟩ := rowI_of hf
  exact ⟨xs, h⟩
theorem comes_in {E : Mem} {rs : List Int} {i : Int} (h : Comes E rs i) : at_ (collF E rs) i = at_ E i := by
  unfold collF
  rw [at_mask, if_pos (comesB_iff.2 h)]
theorem comes_of {E : Mem} {rs : List Int} {i : Int} (h : (at_ (collF E rs) i).isSome = true) : Comes E rs i := by
  unfold collF at h
  rw [at_mask] at h
  split at h
  · rename_i hc
    exact comesB_iff.1 hc
  · cases h
theorem comes_again {E : Mem} {rs : List Int} {i : Int} (h : Comes E rs i) : Comes (collF E rs) rs i := by
  induction h with
  | root hi he => exact .root hi (by rw [comes_in (.root hi he)]; exact he)
  | step hc hx hj he ih => exact .step ih (by rw [comes_in hc]; exact hx) hj (by rw [comes_in (.step hc hx hj he)]; exact he)
theorem coll_again (E : Mem) (rs : List Int) : collF (collF E rs) rs = collF E rs ∧ collN (collF E rs) rs = 0 := by
  have h1 : collF (collF E rs) rs = collF E rs := by
    refine at_ext (mask_len _ _) fun i => ?_
    cases hx : at_ (collF E rs) i with
    | none =>
      show at_ (mask _ _) i = none
      rw [at_mask, hx]; split <;> rfl
    | some x =>
      rw [comes_in (comes_again (comes_of (by rw [hx]; rfl))), hx]
  exact ⟨h1, by unfold collN; rw [h1]; omega⟩
theorem coll_near {E : Mem} {rs : List Int} {i r : Int} {x : Ob} (hx : at_ (collF E rs) i = some x) (hr : r ∈ refsO x) : decide (r ∈ ids E) = decide (r ∈ ids (collF E rs)) := by
  have hc := comes_of (i := i) (by rw [hx]; rfl)
  have hx' : at_ E i = some x := by rw [← comes_in hc]; exact hx
  rw [Bool.eq_iff_iff, decide_eq_true_iff, decide_eq_true_iff, mem_ids, mem_ids]
  constructor
  · intro h
    rw [comes_in (.step hc hx' hr h)]; exact h
  · intro h
    rw [← comes_in (comes_of h)]; exact h
theorem take_in {xs : List Int} {q : Nat} (hq : q < xs.length) (r : Int) : decide (r ∈ xs.take (q + 1)) = (decide (r ∈ xs.take q) || decide (xs.getD q 0 = r)) := by
  have e : xs.getD q 0 = xs[q] := by simp [List.getD, List.getElem?_eq_getElem hq]
  rw [List.take_succ_eq_append_getElem hq, e, Bool.eq_iff_iff, Bool.or_eq_true, decide_eq_true_iff, decide_eq_true_iff, decide_eq_true_iff, List.mem_append, List.mem_singleton]
  exact or_congr Iff.rfl eq_comm
theorem eq_two (y r : Int) : ((2 * y == 2 * r) : Bool) = decide (y = r) := by
  rw [Bool.eq_iff_iff, beq_iff_eq, decide_eq_true_iff]; omega
theorem refs_rng {o : Ob} {r : Int} (h : r ∈ refsO o) : 0 ≤ r ∧ r ≤ 1073741823 := by
  unfold refsO refsL at h
  obtain ⟨v, _, hv⟩ := List.mem_filterMap.1 h
  split at hv
  · rename_i hb
    injection hv with hv
    subst hv
    unfold namV
    rw [if_pos hb]
    unfold namB at hb
    simp at hb
    omega
  · cases hv
theorem row_cells {w : World} {base n c : Nat} {a : Option Addr} {xs : List Int} (h : w.ownsRow base 3 1 (.slice a n c) n (xs.map (Value.int .i64))) (hn : n = xs.length) :
    ∀ w', Below w.heap.size w w' → 0 < n → ∃ g, a = some ⟨g, 0, none⟩ ∧ ∀ j, j < n → w'.cell? ⟨g, j, none⟩ = some (.int .i64 (xs.getD j 0)) := fun w' hb h0 => by
  obtain ⟨g, cc, he⟩ := own_at h h0
  injection he with e1 e2 e3
  subst e1 e3
  exact ⟨g, rfl, fun j hj => (own_cells (own_kept h hb)).1 j _ (getD_map (by omega))⟩
set_option maxHeartbeats 4000000 in
theorem flatCollects_walk (W : World) (v : Value) (L : List Todo) (h : Dos W v L) (hl : L.length ≤ 5000000000000) (v1 : Value) (rs : List Int) (hrs : RowI W v1 rs) :
    Calls Try.prog 10 #[v, v1] W fun e W' => e = .returned (.bool true) ∧ Below W.heap.size W W' := by
  have HV := Lib.hid h
  have HLg := Lib.hid (long_any v L W h hl)
  have HK := Lib.hid (fun w => known_any w)
  have H0 := Lib.hid (mem_new W (· < W.heap.size) (fun _ h => h))
  have HW : Hid (Below W.heap.size W (newW W)) := Lib.hid (below_new W _)
  have hsz : W.heap.size < (newW W).heap.size := by unfold newW; simp
  have HRS := Lib.hid hrs
  obtain ⟨_, _, ra, rc, rfl, _⟩ := hrs
  obtain ⟨a, c, rfl, _⟩ := h
  go_enter Try.func10, Try.ntmps10
  go_wp2_with fail
  refine HLg.out.mono ?_
  rintro e w0 ⟨b, rfl, hb, rfl⟩
  cases b with
  | true =>
    go_wp2_with (go_at_call 13; refine (HK.out _).mono ?_; rintro e w1 ⟨rfl, hb1⟩; have B1 := Lib.hid hb1)
    go_ret
    exact ⟨rfl, B1.out⟩
  | false =>
  have hL := hb rfl
  clear hb HLg
  by_cases hrl : 10 < rs.length
  · have d1 : decide ((10 : Int) < rs.length) = true := by simp; omega
    have d2 : decide (10 < rs.length) = true := by simpa using hrl
    go_wp2_with (go_at_call 13; refine (HK.out _).mono ?_; rintro e w1 ⟨rfl, hb1⟩; have B1 := Lib.hid hb1)
    go_ret
    exact ⟨rfl, B1.out⟩
  have d1 : decide ((10 : Int) < rs.length) = false := by simp; omega
  have d2 : decide (10 < rs.length) = false := by simp; omega
  go_wp2_with fail
  refine (new10_any W).mono ?_
  rintro e w0 ⟨rfl, rfl⟩
  generalize newW W = w0 at *
  go_wp2
  go_loopw [6] (fun k wr => ∃ j : Nat, j ≤ L.length ∧ k = .int .i64 j ∧ Keeps (· < W.heap.size) w0 wr ∧ ∃ E, MemB (· < W.heap.size) wr W.heap.size E ∧ E.length ≤ j) (fun k _ => L.length - (RowKit.intOf k).toNat)
  case atStart => exact ⟨0, Nat.zero_le _, rfl, Keeps.refl _ _, [], H0.out, Nat.le_refl _⟩
  case round =>
    obtain ⟨j, hj, rfl, hk, E, hm, hE⟩ := hrel
    have M1 := Lib.hid hm
    have K1 := Lib.hid hk
    clear hm hk
    by_cases hlt : j < L.length
    · have hBW : Below W.heap.size W wr := HW.out.trans (K1.out.below (fun g hg => hg) (by omega))
      obtain ⟨b', off, c', ⟨tk, ta, tb, tc⟩, he, _, hwf, ⟨x0, x1, x2, x3⟩, _⟩ := (HV.out.fresh hBW (Nat.le_refl _)).at_ hlt
      injection he with e1 e2 e3
      subst e1 e3
      have hd : decide ((j : Int) < L.length) = true := by simpa using hlt
      have hw2 : IntKind.i64.wrap ((j : Int) + 1) = (j : Int) + 1 := by rw [IntKind.wrap_i64]; omega
      have HD := Lib.hid (done_any M1.out (by omega) ⟨tk, ta, tb, tc⟩ hwf)
      simp only at x0 x1 x2 x3
      clear e2 hwf
      go_wp2_with (go_at_call 15; refine HD.out.mono ?_; rintro e w3 ⟨z, u, rfl, _, hm, hk⟩; have M3 := Lib.hid hm; have K3 := Lib.hid hk; clear hm hk)
      exact ⟨⟨j + 1, by omega, by go_num, K1.out.trans K3.out, _, M3.out, by have := dF_len E ⟨tk, ta, tb, tc⟩; omega⟩, by simp [RowKit.intOf]; omega⟩
    · obtain rfl : j = L.length := by omega
      go_wp2_with fail
      have S1 : Hid (St W w0 (· < W.heap.size) wr W.heap.size E) := Lib.hid ⟨M1.out, fun g hg => hg, K1.out⟩
      have HRk : Hid (∀ w', Keeps (· < W.heap.size) w0 w' → RowI w' (.slice ra rs.length rc) rs) := Lib.hid fun w' k => HRS.out.kept (HW.out.trans (k.below (fun g hg => hg) (by omega)))
      have hE2 := Lib.hid (show E.length ≤ 150 by omega)
      clear M1 K1 hlt hj HRS
      refine (st_all S1.out).mono ?_
      rintro e v2 ⟨wa, wc, rfl, GG⟩
      obtain ⟨K2, s2, i2, k2, r2⟩ := GG.out
      have S2 := Lib.hid s2
      have R2 := Lib.hid r2
      clear GG s2 i2 k2 r2 S1
      go_wp2_with fail
      refine (st_coll S2.out _ rs (HRk.out _ S2.out.2.2) (by omega)).mono ?_
      rintro e v3 ⟨rfl, GG⟩
      have S3 := Lib.hid GG.out.1
      have R3 := Lib.hid (R2.out.keeps GG.out.2)
      clear GG S2 R2
      go_wp2_with fail
      refine (st_all S3.out).mono ?_
      rintro e v4 ⟨aa, ac, rfl, GG⟩
      obtain ⟨K4, s4, i4, k4, r4⟩ := GG.out
      have S4 := Lib.hid s4
      have A4 := Lib.hid r4
      have R4 := Lib.hid ((R3.out.keeps k4).mono i4)
      clear GG s4 i4 k4 r4 S3 R3
      have HC1 := st_coll S4.out _ rs (HRk.out _ S4.out.2.2) (by omega)
      rw [(coll_again E (refsL rs)).1, (coll_again E (refsL rs)).2] at HC1
      have HC1 := Lib.hid HC1
      go_wp2_with fail
      refine HC1.out.mono ?_
      rintro e v5 ⟨rfl, GG⟩
      have S5 := Lib.hid GG.out.1
      have R5 := Lib.hid (R4.out.keeps GG.out.2)
      have A5 := Lib.hid (A4.out.keeps GG.out.2)
      clear GG S4 R4 A4 HC1
      have hlE : (ids E).length ≤ 150 := Nat.le_trans (ids_le E) hE2.out
      have hl1 : (ids (collF E (refsL rs))).length ≤ 150 := Nat.le_trans (ids_le _) (by rw [show (collF E (refsL rs)).length = E.length from mask_len _ _]; exact hE2.out)
      have hcn : collN E (refsL rs) = ((ids E).length : Int) - ((ids (collF E (refsL rs))).length : Int) := rfl
      have t1 : (twoL (ids E)).length = (ids E).length := by simp [twoL]
      have t2 : (twoL (ids (collF E (refsL rs)))).length = (ids (collF E (refsL rs))).length := by simp [twoL]
      have hwn : IntKind.i64.wrap (((ids E).length : Int) - ((ids (collF E (refsL rs))).length : Int)) = ((ids E).length : Int) - ((ids (collF E (refsL rs))).length : Int) := by rw [IntKind.wrap_i64]; omega
      have HAll := st_all S5.out
      rw [hcn]
      rw [t2] at HAll
      rw [t1] at R5 ⊢
      rw [t2] at A5 ⊢
      have HAll := Lib.hid HAll
      have T1 := Lib.hid t1
      have T2 := Lib.hid t2
      have HNear : Hid (∀ i r x, at_ (collF E (refsL rs)) i = some x → r ∈ refsO x → decide (r ∈ ids E) = decide (r ∈ ids (collF E (refsL rs)))) := Lib.hid fun i r x hx hr => coll_near hx hr
      clear hcn t1 t2 HRk
      generalize collF E (refsL rs) = E1 at *
      obtain ⟨nW, hnW⟩ : ∃ n, (ids E).length = n := ⟨_, rfl⟩
      obtain ⟨nA, hnA⟩ : ∃ n, (ids E1).length = n := ⟨_, rfl⟩
      rw [hnW] at hlE hwn R5 ⊢
      rw [hnA] at hl1 hwn HAll A5 ⊢
      have HW1 := Lib.hid hnW
      have HA1 := Lib.hid hnA
      clear hnW hnA
      go_wp2_with fail
      refine HAll.out.mono ?_
      rintro e v6 ⟨ab, ad, rfl, GG⟩
      obtain ⟨K6, s6, i6, k6, r6⟩ := GG.out
      have S6 := Lib.hid s6
      have A6 := Lib.hid ((A5.out.keeps k6).mono i6)
      have R6 := Lib.hid ((R5.out.keeps k6).mono i6)
      have HC1 := sameInts_any _ _ _ _ v6 r6.row.1 A6.out.row.1 (by have := T2.out; have := HA1.out; omega)
      rw [show decide (twoL (ids E1) = twoL (ids E1)) = true by simp] at HC1
      have HC1 := Lib.hid HC1
      clear GG s6 i6 k6 r6 S5 A5 R5 HAll
      go_wp2_with fail
      refine HC1.out.mono ?_
      rintro e v7 ⟨rfl, d, rfl⟩
      have bd := below_drewN v6.heap.size v6 d
      have S7 := Lib.hid (st_next S6.out bd)
      have A7 := Lib.hid (A6.out.keeps (Keeps.of_below bd))
      have R7 := Lib.hid (R6.out.keeps (Keeps.of_below bd))
      clear bd HC1 S6 A6 R6
      generalize v6.drewN d = v7 at *
      have HXA : Hid (∀ w', Below v7.heap.size v7 w' → 0 < nA → ∃ g, aa = some ⟨g, 0, none⟩ ∧ ∀ j, j < nA → w'.cell? ⟨g, j, none⟩ = some (.int .i64 (2 * (ids E1).getD j 0))) := Lib.hid fun w' hb h0 => by
        have h := A7.out.1
        rw [T2.out, HA1.out] at h
        obtain ⟨g, e, hc⟩ := row_cells h (by rw [T2.out, HA1.out]) w' hb h0
        exact ⟨g, e, fun j hj => by rw [hc j hj, two_at (by rw [HA1.out]; exact hj)]⟩
      have HXW : Hid (∀ w', Below v7.heap.size v7 w' → 0 < nW → ∃ g, wa = some ⟨g, 0, none⟩ ∧ ∀ j, j < nW → w'.cell? ⟨g, j, none⟩ = some (.int .i64 (2 * (ids E).getD j 0))) := Lib.hid fun w' hb h0 => by
        have h := R7.out.1
        rw [T1.out, HW1.out] at h
        obtain ⟨g, e, hc⟩ := row_cells h (by rw [T1.out, HW1.out]) w' hb h0
        exact ⟨g, e, fun j hj => by rw [hc j hj, two_at (by rw [HW1.out]; exact hj)]⟩
      have HOb : Hid (∀ w1 j, j < nA → Below v7.heap.size v7 w1 → Calls Try.prog 22 #[.pointer (some ⟨W.heap.size, 0, none⟩), .int .i64 (2 * (ids E1).getD j 0)] w1 fun e w' => ∃ (x : Ob) (a1 : Option Addr) (n1 c1 : Nat) (a2 : Option Addr) (n2 c2 : Nat), e = .returned (.tuple #[.agg #[.int .i64 x.c, .int .i64 x.k, .slice a1 n1 c1, .slice a2 n2 c2], .int .i64 0]) ∧ Hid (at_ E1 ((ids E1).getD j 0) = some x) ∧ Hid (x.w.length ≤ 1000) ∧ Hid (∀ w'', Below w'.heap.size w' w'' → ObjAt w'' (.agg #[.int .i64 x.c, .int .i64 x.k, .slice a1 n1 c1, .slice a2 n2 c2]) x) ∧ Below w1.heap.size w1 w') := Lib.hid fun w1 j hj hb => by
        have hM := S7.out.1.fresh hb
        have hin := ids_at (E := E1) (k := j) (by rw [HA1.out]; exact hj)
        have hr := ids_rng hin
        have hl := hM.few
        obtain ⟨x, hx⟩ := Option.isSome_iff_exists.1 (mem_ids.1 hin)
        have he : errF E1 (2 * (ids E1).getD j 0) = 0 := by rw [err_two (by omega) (by omega), hx]; rfl
        have hob : objF E1 (2 * (ids E1).getD j 0) = x := by unfold objF; rw [nam_two (by omega) (by omega), hx]; rfl
        have hz := objF_okZ hM.good (2 * (ids E1).getD j 0)
        refine (obj_form hM (2 * (ids E1).getD j 0) ⟨by omega, by omega⟩).mono ?_
        rintro e w' ⟨a1, n1, c1, a2, n2, c2, rfl, ho, hb'⟩
        rw [he, hob]
        rw [hob] at ho hz
        exact ⟨x, _, _, _, _, _, _, rfl, hx, (okZ_short hz).1, fun w'' h'' => (ho.out.fresh h'').obj hz, hb'⟩
      have HTW : Hid (∀ q r, q < nW → decide (r ∈ (ids E).take (q + 1)) = (decide (r ∈ (ids E).take q) || decide ((ids E).getD q 0 = r))) := Lib.hid fun q r hq => take_in (by rw [HW1.out]; exact hq) r
      have HTA : Hid (∀ q r, q < nA → decide (r ∈ (ids E1).take (q + 1)) = (decide (r ∈ (ids E1).take q) || decide ((ids E1).getD q 0 = r))) := Lib.hid fun q r hq => take_in (by rw [HA1.out]; exact hq) r
      have HIW : Hid (∀ q, q < nW → 0 ≤ (ids E).getD q 0 ∧ (ids E).getD q 0 ≤ 1000000) := Lib.hid fun q hq => by
        have h1 := ids_rng (ids_at (E := E) (k := q) (by rw [HW1.out]; exact hq))
        have h2 := hE2.out
        omega
      have HIA : Hid (∀ q, q < nA → 0 ≤ (ids E1).getD q 0 ∧ (ids E1).getD q 0 ≤ 1000000) := Lib.hid fun q hq => by
        have h1 := ids_rng (ids_at (E := E1) (k := q) (by rw [HA1.out]; exact hq))
        have h2 := S7.out.1.few
        omega
      have HEW : Hid ((ids E).take nW = ids E ∧ (ids E1).take nA = ids E1) := Lib.hid ⟨by rw [← HW1.out, List.take_length], by rw [← HA1.out, List.take_length]⟩
      have K7 := Lib.hid S7.out.2.2
      clear S7 A7 R7 T1 T2 HW1 HA1 hwn hE2
      generalize hys : ids E = ys at *
      generalize hzs : ids E1 = zs at *
      clear hys hzs
      go_wp2
      go_loopw [13] (fun k wr => ∃ i : Nat, i ≤ nA ∧ k = .int .i64 i ∧ Below v7.heap.size v7 wr) (fun k _ => nA - (RowKit.intOf k).toNat)
      case atStart => exact ⟨0, Nat.zero_le _, rfl, Below.refl _ _⟩
      case round =>
        obtain ⟨i, hi, rfl, hb⟩ := hrel
        have B1 := Lib.hid hb
        clear hb
        by_cases hlt : i < nA
        · obtain ⟨g, rfl, hx⟩ := HXA.out _ B1.out (by omega)
          have xi := hx i hlt
          have HO := Lib.hid (HOb.out _ i hlt B1.out)
          have d1 : decide ((i : Int) < nA) = true := by simpa using hlt
          have d2 : decide (i < nA) = true := by simpa using hlt
          have hw2 : IntKind.i64.wrap ((i : Int) + 1) = (i : Int) + 1 := by rw [IntKind.wrap_i64]; omega
          clear hx
          generalize zs.getD i 0 = z at *
          go_upto_region 20 with (go_at_call 22; refine HO.out.mono ?_; rintro e w3 ⟨x, a1, n1, c1, a2, n2, c2, rfl, X1, X2, X3, hb3⟩)
          have OB := Lib.hid (X3.out _ (below_new w3 (.cells #[.int .i64 x.c, .int .i64 x.k, .slice a1 n1 c1, .slice a2 n2 c2] 33)))
          have B3 : Hid (Below v7.heap.size v7 (w3.alloc (.cells #[.int .i64 x.c, .int .i64 x.k, .slice a1 n1 c1, .slice a2 n2 c2] 33))) := Lib.hid (B1.out.trans ((hb3.trans ((below_new w3 _).mono hb3.size)).mono B1.out.size))
          have bx := (box_new w3 (.int .i64 x.c) (.int .i64 x.k) (.slice a1 n1 c1) (.slice a2 n2 c2)).1
          obtain ⟨q0, q1, q2, q3⟩ := bx
          clear hb3 HO B1 X3 xi
          generalize w3.alloc (.cells #[.int .i64 x.c, .int .i64 x.k, .slice a1 n1 c1, .slice a2 n2 c2] 33) = w4 at *
          generalize w3.heap.size = pB at *
          go_wp2_with fail
          refine (refrefs_any _ x w4 OB.out (by have := X2.out; omega)).mono ?_
          rintro e v8 ⟨vr, rfl, hrow, hb8⟩
          obtain ⟨ar, cr, rfl⟩ := own_form hrow
          have B8 := Lib.hid (B3.out.trans (hb8.mono B3.out.size))
          obtain ⟨nR, hnR⟩ : ∃ n, (refsO x).length = n := ⟨_, rfl⟩
          have hnR2 : nR ≤ 1001 := by
            have h1 := X2.out
            have h2 : (refsO x).length ≤ (x.c :: x.w).length := List.length_filterMap_le _ _
            simp at h2
            omega
          have HXR := Lib.hid (row_cells hrow rfl)
          have HRR : Hid (∀ j, j < nR → (0 ≤ (refsO x).getD j 0 ∧ (refsO x).getD j 0 ≤ 1073741823) ∧ decide ((refsO x).getD j 0 ∈ ys) = decide ((refsO x).getD j 0 ∈ zs)) := Lib.hid fun j hj => by
            have hin : (refsO x).getD j 0 ∈ refsO x := by
              simp only [List.getD, List.getElem?_eq_getElem (show j < (refsO x).length by omega), Option.getD_some]
              exact List.getElem_mem _
            exact ⟨refs_rng hin, HNear.out _ _ _ X1.out hin⟩
          rw [hnR] at HXR ⊢
          clear hrow hb8 X1 X2 OB q0 q1 q2 q3 hnR B3
          generalize refsO x = rx at *
          go_wp2
          go_loopw [17] (fun k wr => ∃ j : Nat, j ≤ nR ∧ k = .int .i64 j ∧ Below v8.heap.size v8 wr) (fun k _ => nR - (RowKit.intOf k).toNat)
          case atStart => exact ⟨0, Nat.zero_le _, rfl, Below.refl _ _⟩
          case round =>
          obtain ⟨j, hj, rfl, hb⟩ := hrel
          have B2 := Lib.hid hb
          clear hb
          by_cases hlt2 : j < nR
          · obtain ⟨gR, rfl, _⟩ := HXR.out _ B2.out (by omega)
            obtain ⟨rn, hrn⟩ := Int.eq_ofNat_of_zero_le (HRR.out j hlt2).1.1
            have hrn2 : (rn : Int) ≤ 1073741823 := by have := (HRR.out j hlt2).1.2; omega
            have HNN := Lib.hid (HRR.out j hlt2).2
            rw [hrn] at HNN
            have d3 : decide ((j : Int) < nR) = true := by simpa using hlt2
            have d4 : decide (j < nR) = true := by simpa using hlt2
            have hw3 : IntKind.i64.wrap ((j : Int) + 1) = (j : Int) + 1 := by rw [IntKind.wrap_i64]; omega
            go_wp2
            go_loopw [18, 20] (fun s t wp => ∃ q : Nat, q ≤ nW ∧ s = .bool (decide ((rn : Int) ∈ ys.take q)) ∧ t = .int .i64 q ∧ Below v8.heap.size v8 wp) (fun _ t _ => nW - (RowKit.intOf t).toNat)
            case atStart => exact ⟨0, Nat.zero_le _, by simp, rfl, B2.out⟩
            case round =>
              obtain ⟨q, hq, rfl, rfl, hb⟩ := hrel
              have Bwp := Lib.hid hb
              clear hb
              by_cases hlt3 : q < nW
              · obtain ⟨gW, rfl, hx⟩ := HXW.out _ (B8.out.trans (Bwp.out.mono B8.out.size)) (by omega)
                obtain ⟨gg, hgg, hr⟩ := HXR.out _ Bwp.out (by omega)
                injection hgg with hgg
                injection hgg with hgg
                subst hgg
                have rj := hr j hlt2
                rw [hrn] at rj
                have xq := hx q hlt3
                obtain ⟨y, hy⟩ := Int.eq_ofNat_of_zero_le (HIW.out q hlt3).1
                rw [hy] at xq
                have HTT := Lib.hid (HTW.out q (rn : Int) hlt3)
                rw [hy] at HTT
                have d1 : decide ((q : Int) < nW) = true := by simpa using hlt3
                have d2 : decide (q < nW) = true := by simpa using hlt3
                have hwq : IntKind.i64.wrap ((q : Int) + 1) = (q : Int) + 1 := by rw [IntKind.wrap_i64]; omega
                have hwr : IntKind.i64.wrap (2 * (rn : Int)) = 2 * (rn : Int) := by rw [IntKind.wrap_i64]; omega
                have hqn : (q : Int) < nW := by omega
                have hq0 : (0 : Int) ≤ q := by omega
                have hjn : (j : Int) < nR := by omega
                have hj0 : (0 : Int) ≤ j := by omega
                clear hx hr hy
                generalize decide ((rn : Int) ∈ ys.take q) = th at *
                go_upto_region 29 with fail
                cases th with
                | true =>
                  go_quiet (fail)
                  go_wp2
                  exact ⟨⟨q + 1, by omega, by rw [HTT.out]; rfl, by go_num, Bwp.out.trans (below_drewN _ _ _)⟩, by simp [RowKit.intOf]; omega⟩
                | false =>
                  go_quiet (fail)
                  go_wp2
                  exact ⟨⟨q + 1, by omega, by rw [HTT.out, Bool.false_or, ← eq_two], by go_num, Bwp.out.trans (below_drewN _ _ _)⟩, by simp [RowKit.intOf]; omega⟩
              · obtain rfl : nW = q := by omega
                have d1 : decide ((nW : Int) < nW) = false := by simp
                have d2 : decide (nW < nW) = false := by simp
                have B5 := Lib.hid Bwp.out
                rw [HEW.out.1, HNN.out]
                generalize hbz : decide ((rn : Int) ∈ zs) = bz
                have HBZ := Lib.hid hbz
                clear hbz hlt3 hq Bwp
                go_wp2
                go_loopw [19, 21] (fun s t wp => ∃ q : Nat, q ≤ nA ∧ s = .bool (decide ((rn : Int) ∈ zs.take q)) ∧ t = .int .i64 q ∧ Below v8.heap.size v8 wp) (fun _ t _ => nA - (RowKit.intOf t).toNat)
                case atStart => exact ⟨0, Nat.zero_le _, by simp, rfl, B5.out⟩
                case round =>
                  obtain ⟨q, hq, rfl, rfl, hb⟩ := hrel
                  have Bwo := Lib.hid hb
                  clear hb
                  by_cases hlt3 : q < nA
                  · obtain ⟨gA, hgA, hx⟩ := HXA.out _ (B8.out.trans (Bwo.out.mono B8.out.size)) (by omega)
                    injection hgA with hgA
                    injection hgA with hgA
                    subst hgA
                    obtain ⟨gg, hgg, hr⟩ := HXR.out _ Bwo.out (by omega)
                    injection hgg with hgg
                    injection hgg with hgg
                    subst hgg
                    have rj := hr j hlt2
                    rw [hrn] at rj
                    have xq := hx q hlt3
                    obtain ⟨y, hy⟩ := Int.eq_ofNat_of_zero_le (HIA.out q hlt3).1
                    rw [hy] at xq
                    have HTT := Lib.hid (HTA.out q (rn : Int) hlt3)
                    rw [hy] at HTT
                    have d1 : decide ((q : Int) < nA) = true := by simpa using hlt3
                    have d2 : decide (q < nA) = true := by simpa using hlt3
                    have hwq : IntKind.i64.wrap ((q : Int) + 1) = (q : Int) + 1 := by rw [IntKind.wrap_i64]; omega
                    have hwr : IntKind.i64.wrap (2 * (rn : Int)) = 2 * (rn : Int) := by rw [IntKind.wrap_i64]; omega
                    have hqn : (q : Int) < nA := by omega
                    have hq0 : (0 : Int) ≤ q := by omega
                    have hjn : (j : Int) < nR := by omega
                    have hj0 : (0 : Int) ≤ j := by omega
                    clear hx hr hy
                    generalize decide ((rn : Int) ∈ zs.take q) = th at *
                    go_upto_region 33 with fail
                    cases th with
                    | true =>
                      go_quiet (fail)
                      go_wp2
                      exact ⟨⟨q + 1, by omega, by rw [HTT.out]; rfl, by go_num, Bwo.out.trans (below_drewN _ _ _)⟩, by simp [RowKit.intOf]; omega⟩
                    | false =>
                      go_quiet (fail)
                      go_wp2
                      exact ⟨⟨q + 1, by omega, by rw [HTT.out, Bool.false_or, ← eq_two], by go_num, Bwo.out.trans (below_drewN _ _ _)⟩, by simp [RowKit.intOf]; omega⟩
                  · obtain rfl : nA = q := by omega
                    have d5 : decide ((nA : Int) < nA) = false := by simp
                    have d6 : decide (nA < nA) = false := by simp
                    rw [HEW.out.2, HBZ.out]
                    clear HBZ hrn hrn2
                    cases bz <;> (
                      go_wp2
                      exact ⟨⟨j + 1, by omega, by go_num, Bwo.out⟩, by simp [RowKit.intOf]; omega⟩)
          · obtain rfl : nR = j := by omega
            have d3 : decide ((nR : Int) < nR) = false := by simp
            have d4 : decide (nR < nR) = false := by simp
            go_wp2
            exact ⟨⟨i + 1, by omega, by go_num, B8.out.trans (B2.out.mono B8.out.size)⟩, by simp [RowKit.intOf]; omega⟩
        · obtain rfl : nA = i := by omega
          have d1 : decide ((nA : Int) < nA) = false := by simp
          have d2 : decide (nA < nA) = false := by simp
          go_wp2_with (go_at_call 13; refine (HK.out _).mono ?_; rintro e w5 ⟨rfl, b5⟩; have B5 := Lib.hid (K7.out.trans (Keeps.of_below (B1.out.trans (b5.mono B1.out.size)))); clear b5)
          go_ret
          exact ⟨rfl, HW.out.trans (B5.out.below (fun g hg => hg) (by omega))⟩
end Go.Proofs.Ytmaeoefimkppoaa.Fl
