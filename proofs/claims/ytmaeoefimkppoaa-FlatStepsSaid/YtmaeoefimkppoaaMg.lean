/- Texts one behind the other: Xq Xr Xs Xt Xu. -/
import Derived.Test.YtmaeoefimkppoaaMf

/- Step of the chapter: New, Set, SetByte, Collect. -/
namespace Go.Proofs.Ytmaeoefimkppoaa.Fl
set_option maxRecDepth 1000000
open Go.ChangeShapes Go.WideShapes Go.ChangeAt Go.RowKit
open Go.Proofs.Ytmaeoefimkppoaa.Wd

theorem Stp.sub {N : Nat → Prop} {w w1 w2 : World} {E' : Mem} {n : Int} {o : Ob} {ok : Bool} {t : Int} {e : Ending} (h : Stp (NN N w) E' n o ok t w1 e w2) (hsz : w.heap.size + 4 ≤ w1.heap.size) :
    ∃ a' l' c' L' a1 n1 c1 a2 n2 c2, e = .returned (.tuple #[.agg #[.slice a' l' c'], .agg #[.int .i64 n, .int .i64 o.c, .int .i64 o.k, .slice a1 n1 c1, .slice a2 n2 c2, .bool ok, .int .i64 t]]) ∧
      Hid (RmV (NN N w) w2 (.slice a' l' c') L' ∧ memR L' = E' ∧ RIn (NN N w) w2 (o, .slice a1 n1 c1, .slice a2 n2 c2)) ∧ Below w1.heap.size w1 w2 := by
  obtain ⟨a', l', c', L', z, u, he, hr, hm, ho, hb⟩ := h
  obtain ⟨a1, c1, a2, c2, e1, e2⟩ := ho.form
  simp only at e1 e2
  generalize hn1 : o.w.length = n1 at e1
  generalize hn2 : o.b.length = n2 at e2
  subst e1 e2
  have hM : ∀ g, NN N w g ∨ w1.heap.size ≤ g → NN N w g := fun g hg => hg.elim id fun h => .inr (Nat.le_trans hsz h)
  exact ⟨a', l', c', L', a1, n1, c1, a2, n2, c2, he, ⟨hr.mono hM, hm, ho.kind fun g _ hg => hM g hg⟩, hb⟩
set_option maxHeartbeats 4000000 in
theorem step_new {N : Nat → Prop} {w : World} {v : Value} {L : List RO} (h : RmV N w v L) (hl : L.length ≤ 1000000) (a b c : Int) (ha : In64 a) :
    Calls Try.prog 16 #[.agg #[v], .agg #[.int .i64 1, .int .i64 a, .int .i64 b, .int .i64 c]] w (Stp N (newF (memR L) a b c) (newN (memR L) a b c) zeroO false (newE a b c) w) := by
  have S0 := Lib.hid (ss_new w v 1 a b c)
  have HC := Lib.hid (cnew_any (h.nn S0.out.bl) hl a b c ha)
  unfold ssW at S0 HC
  unfold New10 at HC
  obtain ⟨av, cv, rfl⟩ := h.form
  generalize newF (memR L) a b c = E' at *
  generalize newN (memR L) a b c = n at *
  generalize newE a b c = t at *
  obtain ⟨y0, ⟨⟨d0, d1, d2, d3⟩, _⟩, _, _, _, _⟩ := S0.out
  obtain ⟨y0, _, _⟩ := y0
  go_enter Try.func16, Try.ntmps16
  go_upto_region 1 with fail
  generalize (((w.alloc (.cells #[.slice av L.length cv] 29)).alloc (.cells #[.int .i64 1, .int .i64 a, .int .i64 b, .int .i64 c] 38)).alloc (.cells #[.slice none 0 0] 29)).alloc (.cells #[.int .i64 0, .int .i64 0, .int .i64 0, .slice none 0 0, .slice none 0 0, .bool false, .int .i64 0] 35) = w1 at *
  go_wp2_with fail
  refine HC.out.mono ?_
  rintro e w2 ⟨a', l', c', L', rfl, hr, hm, hb⟩
  have S3 := Lib.hid ((S0.out.next hb).next (below_new w2 (.cells #[.slice a' l' c'] 29)))
  have R3 := Lib.hid (((hr.mono (M := NN N w) fun g hg => hg.elim id fun h => .inr (Nat.le_trans S0.out.sz h))).fresh (below_new w2 (.cells #[.slice a' l' c'] 29)))
  have Y3 := Lib.hid (b1_new w2 (.slice a' l' c') 29)
  have HM := Lib.hid hm
  clear hr hm hb y0 d0 d1 d2 d3 HC
  go_upto_region 4 with fail
  generalize w2.alloc (.cells #[.slice a' l' c'] 29) = w3 at *
  generalize w2.heap.size = px at *
  obtain ⟨x0, _, _⟩ := Y3.out
  obtain ⟨z0, zf, _⟩ := S3.out.b1
  obtain ⟨q0, q1, q2, q3, q4, q5, q6, qf⟩ := S3.out.tb.cz
  have E := stp_end (N := N) (o := zeroO) (f := t0) n false t S3.out.bl S3.out.b1 S3.out.tb R3.out HM.out (zero_in _ _)
  go_wp2_with fail
  exact bodyPost_ret (res_mt rfl rfl rfl E.1 E.2.1) rfl (E.2.2 _ rfl)
set_option maxHeartbeats 4000000 in
theorem step_set {N : Nat → Prop} {w : World} {v : Value} {L : List RO} (h : RmV N w v L) (hl : L.length ≤ 1000000) (a b c : Int) (ha : In64 a) (hc : In64 c) :
    Calls Try.prog 16 #[.agg #[v], .agg #[.int .i64 4, .int .i64 a, .int .i64 b, .int .i64 c]] w (Stp N (setF (memR L) a b c) 0 zeroO false (setE (memR L) a b c) w) := by
  have S0 := Lib.hid (ss_new w v 4 a b c)
  have HC := Lib.hid (set10_words (h.nn S0.out.bl) hl a b c ha hc)
  unfold ssW at S0 HC
  obtain ⟨av, cv, rfl⟩ := h.form
  generalize setF (memR L) a b c = E' at *
  generalize setE (memR L) a b c = t at *
  obtain ⟨y0, ⟨⟨d0, d1, d2, d3⟩, _⟩, _, _, _, _⟩ := S0.out
  obtain ⟨y0, _, _⟩ := y0
  go_enter Try.func16, Try.ntmps16
  go_upto_region 1 with fail
  generalize (((w.alloc (.cells #[.slice av L.length cv] 29)).alloc (.cells #[.int .i64 4, .int .i64 a, .int .i64 b, .int .i64 c] 38)).alloc (.cells #[.slice none 0 0] 29)).alloc (.cells #[.int .i64 0, .int .i64 0, .int .i64 0, .slice none 0 0, .slice none 0 0, .bool false, .int .i64 0] 35) = w1 at *
  go_wp2_with fail
  refine HC.out.mono fun e w2 hp => ?_
  obtain ⟨a', l', c', L', a1, n1, c1, a2, n2, c2, rfl, HH, hb⟩ := hp.sub S0.out.sz
  have S3 := Lib.hid (S0.out.next hb)
  clear hp hb y0 d0 d1 d2 d3 HC
  obtain ⟨z0, zf, _⟩ := S3.out.b1
  obtain ⟨q0, q1, q2, q3, q4, q5, q6, qf⟩ := S3.out.tb.cz
  have E := stp_end (N := N) (o := zeroO) (f := t0) 0 false t S3.out.bl S3.out.b1 S3.out.tb HH.out.1 HH.out.2.1 HH.out.2.2
  go_wp2_with fail
  exact bodyPost_ret (res_mt rfl rfl rfl E.1 E.2.1) rfl (E.2.2 _ rfl)
set_option maxHeartbeats 4000000 in
theorem step_setb {N : Nat → Prop} {w : World} {v : Value} {L : List RO} (h : RmV N w v L) (hl : L.length ≤ 1000000) (a b c : Int) (ha : In64 a) :
    Calls Try.prog 16 #[.agg #[v], .agg #[.int .i64 6, .int .i64 a, .int .i64 b, .int .i64 c]] w (Stp N (setbF (memR L) a b c) 0 zeroO false (setbE (memR L) a b c) w) := by
  have S0 := Lib.hid (ss_new w v 6 a b c)
  have HC := Lib.hid (set10_bytes (h.nn S0.out.bl) hl a b c ha)
  unfold ssW at S0 HC
  obtain ⟨av, cv, rfl⟩ := h.form
  generalize setbF (memR L) a b c = E' at *
  generalize setbE (memR L) a b c = t at *
  obtain ⟨y0, ⟨⟨d0, d1, d2, d3⟩, _⟩, _, _, _, _⟩ := S0.out
  obtain ⟨y0, _, _⟩ := y0
  go_enter Try.func16, Try.ntmps16
  go_upto_region 1 with fail
  generalize (((w.alloc (.cells #[.slice av L.length cv] 29)).alloc (.cells #[.int .i64 6, .int .i64 a, .int .i64 b, .int .i64 c] 38)).alloc (.cells #[.slice none 0 0] 29)).alloc (.cells #[.int .i64 0, .int .i64 0, .int .i64 0, .slice none 0 0, .slice none 0 0, .bool false, .int .i64 0] 35) = w1 at *
  go_wp2_with fail
  refine HC.out.mono fun e w2 hp => ?_
  obtain ⟨a', l', c', L', a1, n1, c1, a2, n2, c2, rfl, HH, hb⟩ := hp.sub S0.out.sz
  have S3 := Lib.hid (S0.out.next hb)
  clear hp hb y0 d0 d1 d2 d3 HC
  obtain ⟨z0, zf, _⟩ := S3.out.b1
  obtain ⟨q0, q1, q2, q3, q4, q5, q6, qf⟩ := S3.out.tb.cz
  have E := stp_end (N := N) (o := zeroO) (f := t0) 0 false t S3.out.bl S3.out.b1 S3.out.tb HH.out.1 HH.out.2.1 HH.out.2.2
  go_wp2_with fail
  exact bodyPost_ret (res_mt rfl rfl rfl E.1 E.2.1) rfl (E.2.2 _ rfl)
set_option maxHeartbeats 4000000 in
theorem step_coll {N : Nat → Prop} {w : World} {v : Value} {L : List RO} (h : RmV N w v L) (hl : L.length ≤ 1000000) (k a b c : Int) (hk : k < 1 ∨ 8 < k) (ha : In64 a) (hb : In64 b) (hc : In64 c) :
    Calls Try.prog 16 #[.agg #[v], .agg #[.int .i64 k, .int .i64 a, .int .i64 b, .int .i64 c]] w (Stp N (collF (memR L) (refsL [a, b, c])) (collN (memR L) (refsL [a, b, c])) zeroO false 0 w) := by
  have S0 := Lib.hid (ss_new w v k a b c)
  have HC : Hid (Calls Try.prog 46 #[.agg #[v], .slice (some ⟨(ssW w v k a b c).heap.size, 0, none⟩) 3 3] ((ssW w v k a b c).alloc (.cells #[.int .i64 a, .int .i64 b, .int .i64 c] 3)) (Stp (NN N w) (collF (memR L) (refsL [a, b, c])) (collN (memR L) (refsL [a, b, c])) zeroO false 0 ((ssW w v k a b c).alloc (.cells #[.int .i64 a, .int .i64 b, .int .i64 c] 3)))) :=
    Lib.hid (coll10_ref ((h.nn S0.out.bl).fresh (below_new _ _)) hl _ _ (row3 (ssW w v k a b c) a b c ha hb hc) (by decide : 3 ≤ 1000))
  have d1 : (k == 1) = false := by simp; omega
  have d2 : (k == 2) = false := by simp; omega
  have d3 : (k == 3) = false := by simp; omega
  have d4 : (k == 4) = false := by simp; omega
  have d5 : (k == 5) = false := by simp; omega
  have d6 : (k == 6) = false := by simp; omega
  have d7 : (k == 7) = false := by simp; omega
  have d8 : (k == 8) = false := by simp; omega
  have S1 := Lib.hid (S0.out.next (below_new _ (.cells #[.int .i64 a, .int .i64 b, .int .i64 c] 3)))
  unfold ssW at S0 HC S1
  obtain ⟨av, cv, rfl⟩ := h.form
  generalize collF (memR L) (refsL [a, b, c]) = E' at *
  generalize collN (memR L) (refsL [a, b, c]) = n at *
  obtain ⟨y0, ⟨⟨e0, e1, e2, e3⟩, _⟩, _, _, _, _⟩ := S0.out
  obtain ⟨y0, _, _⟩ := y0
  clear hk
  go_enter Try.func16, Try.ntmps16
  go_upto_region 1 with fail
  generalize (((w.alloc (.cells #[.slice av L.length cv] 29)).alloc (.cells #[.int .i64 k, .int .i64 a, .int .i64 b, .int .i64 c] 38)).alloc (.cells #[.slice none 0 0] 29)).alloc (.cells #[.int .i64 0, .int .i64 0, .int .i64 0, .slice none 0 0, .slice none 0 0, .bool false, .int .i64 0] 35) = w1 at *
  go_wp2_with fail
  refine HC.out.mono fun e w2 hp => ?_
  obtain ⟨a', l', c', L', a1, n1, c1, a2, n2, c2, rfl, HH, hb⟩ := hp.sub S1.out.sz
  have S3 := Lib.hid (S1.out.next hb)
  clear hp hb y0 e0 e1 e2 e3 HC
  obtain ⟨z0, zf, _⟩ := S3.out.b1
  obtain ⟨q0, q1, q2, q3, q4, q5, q6, qf⟩ := S3.out.tb.cz
  have E := stp_end (N := N) (o := zeroO) (f := t0) n false 0 S3.out.bl S3.out.b1 S3.out.tb HH.out.1 HH.out.2.1 HH.out.2.2
  go_wp2_with fail
  exact bodyPost_ret (res_mt rfl rfl rfl E.1 E.2.1) rfl (E.2.2 _ rfl)
end Go.Proofs.Ytmaeoefimkppoaa.Fl

/- Step of the chapter: Obj, Fetch, Byte, Become, Next. -/
namespace Go.Proofs.Ytmaeoefimkppoaa.Fl
set_option maxRecDepth 1000000
open Go.ChangeShapes Go.WideShapes Go.ChangeAt Go.RowKit
open Go.Proofs.Ytmaeoefimkppoaa.Wd

theorem find_ways {N : Nat → Prop} {w : World} {v : Value} {L : List RO} (_h : RmV N w v L) (o : Int) : (at_ (memR L) (namV o) = none ∧ idF (memR L) o = 0) ∨ ∃ (j : Nat) (ob : Ob) (z u : Value), L[j]? = some (ob, z, u) ∧ j < L.length ∧ idF (memR L) o = ((j + 1 : Nat) : Int) ∧ namV o = ((j + 1 : Nat) : Int) ∧ at_ (memR L) (namV o) = some ob ∧ ob.k ≠ 0 := by
  rcases name_ways L o with ⟨_, _, e⟩ | ⟨_, _, e⟩ | ⟨j, hj, _, e1, e2⟩
  · exact .inl ⟨e, by unfold idF; rw [e]; rfl⟩
  · exact .inl ⟨e, by unfold idF; rw [e]; rfl⟩
  · by_cases hk : L[j].1.k = 0
    · rw [if_pos hk] at e2
      exact .inl ⟨e2, by unfold idF; rw [e2]; rfl⟩
    · rw [if_neg hk] at e2
      exact .inr ⟨j, L[j].1, L[j].2.1, L[j].2.2, List.getElem?_eq_getElem hj, hj, by unfold idF; rw [e2, e1]; rfl, e1, e2, hk⟩
theorem Stp.next {N : Nat → Prop} {w w1 w2 : World} {E' : Mem} {n : Int} {o : Ob} {ok : Bool} {t : Int} {e : Ending} (h : Stp N E' n o ok t w e w1) (b : Below w1.heap.size w1 w2) : Stp N E' n o ok t w e w2 := by
  obtain ⟨a', l', c', L', z, u, he, hr, hm, ho, hb⟩ := h
  exact ⟨a', l', c', L', z, u, he, hr.fresh b, hm, ho.fresh b, hb.trans (b.mono hb.size)⟩
theorem stp_drew {N : Nat → Prop} {w w1 : World} {E' : Mem} {n m c k : Int} {o : Ob} {ok : Bool} {t : Int} {p q : Nat} {v z u : Value} {R : Value} (h : B1 p v w1 ∧ Tb q (tz m c k z u ok t) w1 ∧ ∀ e, e = .returned R → Stp N E' n o ok t w e w1) :
    B1 p v w1.drew ∧ Tb q (tz m c k z u ok t) w1.drew ∧ ∀ e, e = .returned R → Stp N E' n o ok t w e w1.drew :=
  ⟨h.1.next (below_drewN _ _ 1), h.2.1.only (only_below (below_drewN _ _ 1)) id, fun e he => (h.2.2 e he).next (below_drewN _ _ 1)⟩
set_option maxHeartbeats 4000000 in
theorem step_obj {N : Nat → Prop} {w : World} {v : Value} {L : List RO} (h : RmV N w v L) (hl : L.length ≤ 1000000) (a b c : Int) (ha : In64 a) :
    Calls Try.prog 16 #[.agg #[v], .agg #[.int .i64 2, .int .i64 a, .int .i64 b, .int .i64 c]] w (Stp N (memR L) 0 (objF (memR L) a) false (errF (memR L) a) w) := by
  have S0 := Lib.hid (ss_new w v 2 a b c)
  have HC := Lib.hid (find10_any (h.nn S0.out.bl) hl a ha)
  have HV := Lib.hid h
  have HW := find_ways h a
  unfold ssW at S0 HC
  unfold Fnd at HC
  obtain ⟨av, cv, rfl⟩ := h.form
  obtain ⟨y0, ⟨⟨d0, d1, d2, d3⟩, _⟩, _, _, _, _⟩ := S0.out
  obtain ⟨y0, _, _⟩ := y0
  rcases HW with ⟨e1, e2⟩ | ⟨j, ob, z, u, hjp, hj, e1, e2, e3, hk0⟩
  · have h1 : objF (memR L) a = zeroO := by unfold objF; rw [e1]; rfl
    have h2 : errF (memR L) a = 4 := by unfold errF; rw [e1]; rfl
    rw [h1, h2]
    rw [e2] at HC
    clear h1 h2 e1 e2
    go_enter Try.func16, Try.ntmps16
    go_upto_region 1 with fail
    generalize (((w.alloc (.cells #[.slice av L.length cv] 29)).alloc (.cells #[.int .i64 2, .int .i64 a, .int .i64 b, .int .i64 c] 38)).alloc (.cells #[.slice none 0 0] 29)).alloc (.cells #[.int .i64 0, .int .i64 0, .int .i64 0, .slice none 0 0, .slice none 0 0, .bool false, .int .i64 0] 35) = w1 at *
    go_wp2_with fail
    refine HC.out.mono ?_
    rintro e w2 ⟨rfl, hb⟩
    have S3 := Lib.hid (S0.out.next hb)
    clear hb y0 d0 d1 d2 d3 HC
    obtain ⟨y0, _, z0, tb, _, _⟩ := S3.out
    obtain ⟨y0, _, _⟩ := y0
    obtain ⟨z0, zf, _⟩ := z0
    obtain ⟨q0, q1, q2, q3, q4, q5, q6, qf⟩ := tb.cz
    have E := stp_end (N := N) (o := zeroO) (f := t0) 0 false 4 S3.out.bl S3.out.b1 S3.out.tb (HV.out.nn S3.out.bl) rfl (zero_in _ _)
    clear tb
    go_wp2_with fail
    exact bodyPost_ret (res_mt rfl rfl rfl E.1 E.2.1) rfl (E.2.2 _ rfl)
  · have h1 : objF (memR L) a = ob := by unfold objF; rw [e3]; rfl
    have h2 : errF (memR L) a = 0 := by unfold errF; rw [e3]; rfl
    rw [h1, h2]
    obtain ⟨x, hx⟩ : ∃ x : Int, ((j + 1 : Nat) : Int) = x := ⟨_, rfl⟩
    rw [e1, hx] at HC
    have hx0 : (x == 0) = false := by simp; omega
    have hxw : IntKind.i64.wrap (x - 1) = (j : Int) := by rw [IntKind.wrap_i64]; omega
    have hxw2 : wrap64 (x - 1) = (j : Int) := by rw [IntWalk.wrap64_in _ (by omega)]; omega
    have hjl : (j : Int) < L.length := by omega
    have hj0 : (0 : Int) ≤ j := by omega
    clear h1 h2 e1 e2 e3 hk0 hx hj
    go_enter Try.func16, Try.ntmps16
    go_upto_region 1 with fail
    generalize (((w.alloc (.cells #[.slice av L.length cv] 29)).alloc (.cells #[.int .i64 2, .int .i64 a, .int .i64 b, .int .i64 c] 38)).alloc (.cells #[.slice none 0 0] 29)).alloc (.cells #[.int .i64 0, .int .i64 0, .int .i64 0, .slice none 0 0, .slice none 0 0, .bool false, .int .i64 0] 35) = w1 at *
    go_wp2_with fail
    refine HC.out.mono ?_
    rintro e w2 ⟨rfl, hb⟩
    have S3 := Lib.hid (S0.out.next hb)
    clear hb y0 d0 d1 d2 d3 HC
    obtain ⟨bb, boff, bcc, hv, hNb, hr, hri⟩ := (HV.out.nn S3.out.bl).cells_ro hjp
    injection hv with f1 f2 f3
    subst f1 f3
    have nb1 := hNb.not2.1
    have nb2 := hNb.not2.2
    have nb3 := Ne.symm nb1
    have nb4 := Ne.symm nb2
    clear hNb
    obtain ⟨a1, c1, a2, c2, g1, g2⟩ := hri.form
    simp only at g1 g2
    generalize hn1 : ob.w.length = n1 at g1
    generalize hn2 : ob.b.length = n2 at g2
    subst g1 g2
    obtain ⟨r0, r1, r2, r3⟩ := hr
    obtain ⟨y0, _, z0, tb, _, _⟩ := S3.out
    obtain ⟨y0, _, _⟩ := y0
    obtain ⟨z0, zf, _⟩ := z0
    obtain ⟨q0, q1, q2, q3, q4, q5, q6, qf⟩ := tb.cz
    have E := Lib.hid (stp_drew (stp_end (N := N) (o := ob) (f := t0) 0 false 0 S3.out.bl S3.out.b1 S3.out.tb (HV.out.nn S3.out.bl) rfl hri))
    clear tb hn1 hn2 hri f2 hjp
    go_wp2
    go_region
    go_wp2_with fail
    exact bodyPost_ret (res_mt rfl rfl rfl E.out.1 E.out.2.1) rfl (E.out.2.2 _ rfl)
end Go.Proofs.Ytmaeoefimkppoaa.Fl

/- Step of the chapter: Fetch, Byte. -/
namespace Go.Proofs.Ytmaeoefimkppoaa.Fl
set_option maxRecDepth 1000000
open Go.ChangeShapes Go.WideShapes Go.ChangeAt Go.RowKit
open Go.Proofs.Ytmaeoefimkppoaa.Wd

set_option maxHeartbeats 4000000 in
theorem step_fetch {N : Nat → Prop} {w : World} {v : Value} {L : List RO} (h : RmV N w v L) (hl : L.length ≤ 1000000) (a b c : Int) (ha : In64 a) :
    Calls Try.prog 16 #[.agg #[v], .agg #[.int .i64 3, .int .i64 a, .int .i64 b, .int .i64 c]] w (Stp N (memR L) (fetchN (memR L) a b) zeroO false (opE (memR L) a 1 b) w) := by
  have S0 := Lib.hid (ss_new w v 3 a b c)
  have HC := Lib.hid (place10_any (h.nn S0.out.bl) hl a 1 b ha)
  have HV := Lib.hid h
  unfold ssW at S0 HC
  unfold Plc at HC
  obtain ⟨av, cv, rfl⟩ := h.form
  have HF : Hid (opE (memR L) a 1 b ≠ 0 → fetchN (memR L) a b = 0) := Lib.hid fun hn => by unfold fetchN; rw [if_neg hn]
  have HF0 : Hid (opE (memR L) a 1 b = 0 → fetchN (memR L) a b = (objF (memR L) a).w.getD b.toNat 0) := Lib.hid fun hn => by unfold fetchN; rw [if_pos hn]
  have HPL : Hid (opE (memR L) a 1 b = 0 → plV (memR L) a 1 b = namV a) := Lib.hid fun hn => by unfold plV; rw [if_pos hn]
  have HOP := Lib.hid (opE_ob L (o := a) (k := 1) (i := b))
  generalize opE (memR L) a 1 b = t at *
  generalize plV (memR L) a 1 b = pv at *
  generalize fetchN (memR L) a b = fn at *
  obtain ⟨y0, ⟨⟨d0, d1, d2, d3⟩, _⟩, _, _, _, _⟩ := S0.out
  obtain ⟨y0, _, _⟩ := y0
  by_cases ht : t = 0
  · obtain ⟨j, ⟨ob, z, u⟩, hjp, hj, e1, e2, hk, hi0, hi1, hk0⟩ := HOP.out ht
    simp only at e2 hk hi1 hk0
    obtain ⟨n, rfl⟩ := Int.eq_ofNat_of_zero_le hi0
    have hob0 : objF (memR L) a = ob := by unfold objF; rw [e2]; rfl
    have hfn : fn = ob.w.getD n 0 := by rw [HF0.out ht, hob0]; rfl
    have hpv : pv = ((j + 1 : Nat) : Int) := (HPL.out ht).trans e1
    have hsz : sizeO ob = ob.w.length := by unfold sizeO; rw [if_pos hk]
    rw [hsz] at hi1
    have hnw : n < ob.w.length := by omega
    obtain ⟨x, hx⟩ : ∃ x : Int, ((j + 1 : Nat) : Int) = x := ⟨_, rfl⟩
    rw [hpv, hx, ht] at HC
    rw [ht, hfn]
    have hx0 : (x == 0) = false := by simp; omega
    have hxw : IntKind.i64.wrap (x - 1) = (j : Int) := by rw [IntKind.wrap_i64]; omega
    have hxw2 : wrap64 (x - 1) = (j : Int) := by rw [IntWalk.wrap64_in _ (by omega)]; omega
    have hjl : (j : Int) < L.length := by omega
    have hj0 : (0 : Int) ≤ j := by omega
    have hn0 : (0 : Int) ≤ n := by omega
    clear HF HF0 HPL HOP e1 e2 hk0 hx hj hpv ht hob0 hfn hsz hk
    go_enter Try.func16, Try.ntmps16
    go_upto_region 1 with fail
    generalize (((w.alloc (.cells #[.slice av L.length cv] 29)).alloc (.cells #[.int .i64 3, .int .i64 a, .int .i64 n, .int .i64 c] 38)).alloc (.cells #[.slice none 0 0] 29)).alloc (.cells #[.int .i64 0, .int .i64 0, .int .i64 0, .slice none 0 0, .slice none 0 0, .bool false, .int .i64 0] 35) = w1 at *
    go_wp2_with fail
    refine HC.out.mono ?_
    rintro e w2 ⟨rfl, hb⟩
    have S3 := Lib.hid (S0.out.next hb)
    clear hb y0 d0 d1 d2 d3 HC
    obtain ⟨bb, boff, bcc, hv, hNb, hr, hri⟩ := (HV.out.nn S3.out.bl).cells_ro hjp
    injection hv with f1 f2 f3
    subst f1 f3
    have nb1 := hNb.not2.1
    have nb2 := hNb.not2.2
    have nb3 := Ne.symm nb1
    have nb4 := Ne.symm nb2
    clear hNb
    have hrw := hri.rw
    simp only at hrw
    obtain ⟨g, cg, hag⟩ := own_at hrw (by omega)
    subst hag
    have mb1 := (hri.nw g rfl).not2.1
    have mb2 := (hri.nw g rfl).not2.2
    have mb3 := Ne.symm mb1
    have mb4 := Ne.symm mb2
    obtain ⟨au, cu, hau⟩ := own_form hri.rb
    simp only at hau
    generalize hn2 : ob.b.length = n2 at hau
    subst hau
    have kx := (own_cells hrw).1 n _ (getD_map hnw)
    obtain ⟨r0, r1, r2, r3⟩ := hr
    obtain ⟨nw, hnw2⟩ : ∃ nw, ob.w.length = nw := ⟨_, rfl⟩
    rw [hnw2] at hnw hi1
    simp only [hnw2] at r2
    obtain ⟨y0, ⟨⟨d0, d1, d2, d3⟩, _⟩, z0, tb, _, _⟩ := S3.out
    obtain ⟨y0, _, _⟩ := y0
    obtain ⟨z0, zf, _⟩ := z0
    obtain ⟨q0, q1, q2, q3, q4, q5, q6, qf⟩ := tb.cz
    have E := Lib.hid (stp_drew (stp_end (N := N) (o := zeroO) (f := t0) (ob.w.getD n 0) false 0 S3.out.bl S3.out.b1 S3.out.tb (HV.out.nn S3.out.bl) rfl (zero_in _ _)))
    generalize ob.w.getD n 0 = y at *
    clear tb hn2 hri f2 hjp hrw hnw2
    go_wp2
    go_region
    go_wp2_with fail
    exact bodyPost_ret (res_mt rfl rfl rfl E.out.1 E.out.2.1) rfl (E.out.2.2 _ rfl)
  · have ht2 : (t != 0) = true := by simpa using ht
    have h1 := HF.out ht
    rw [h1]
    clear ht h1 HF HF0 HPL HOP
    go_enter Try.func16, Try.ntmps16
    go_upto_region 1 with fail
    generalize (((w.alloc (.cells #[.slice av L.length cv] 29)).alloc (.cells #[.int .i64 3, .int .i64 a, .int .i64 b, .int .i64 c] 38)).alloc (.cells #[.slice none 0 0] 29)).alloc (.cells #[.int .i64 0, .int .i64 0, .int .i64 0, .slice none 0 0, .slice none 0 0, .bool false, .int .i64 0] 35) = w1 at *
    go_wp2_with fail
    refine HC.out.mono ?_
    rintro e w2 ⟨rfl, hb⟩
    have S3 := Lib.hid (S0.out.next hb)
    clear hb y0 d0 d1 d2 d3 HC
    obtain ⟨y0, ⟨⟨d0, d1, d2, d3⟩, _⟩, z0, tb, _, _⟩ := S3.out
    obtain ⟨y0, _, _⟩ := y0
    obtain ⟨z0, zf, _⟩ := z0
    obtain ⟨q0, q1, q2, q3, q4, q5, q6, qf⟩ := tb.cz
    have E := stp_end (N := N) (o := zeroO) (f := t0) 0 false t S3.out.bl S3.out.b1 S3.out.tb (HV.out.nn S3.out.bl) rfl (zero_in _ _)
    clear tb
    go_wp2_with fail
    exact bodyPost_ret (res_mt rfl rfl rfl E.1 E.2.1) rfl (E.2.2 _ rfl)
set_option maxHeartbeats 4000000 in
theorem step_byte {N : Nat → Prop} {w : World} {v : Value} {L : List RO} (h : RmV N w v L) (hl : L.length ≤ 1000000) (a b c : Int) (ha : In64 a) :
    Calls Try.prog 16 #[.agg #[v], .agg #[.int .i64 5, .int .i64 a, .int .i64 b, .int .i64 c]] w (Stp N (memR L) (byteN (memR L) a b) zeroO false (opE (memR L) a 2 b) w) := by
  have S0 := Lib.hid (ss_new w v 5 a b c)
  have HC := Lib.hid (place10_any (h.nn S0.out.bl) hl a 2 b ha)
  have HV := Lib.hid h
  unfold ssW at S0 HC
  unfold Plc at HC
  obtain ⟨av, cv, rfl⟩ := h.form
  have HF : Hid (opE (memR L) a 2 b ≠ 0 → byteN (memR L) a b = 0) := Lib.hid fun hn => by unfold byteN; rw [if_neg hn]
  have HF0 : Hid (opE (memR L) a 2 b = 0 → byteN (memR L) a b = (objF (memR L) a).b.getD b.toNat 0) := Lib.hid fun hn => by unfold byteN; rw [if_pos hn]
  have HPL : Hid (opE (memR L) a 2 b = 0 → plV (memR L) a 2 b = namV a) := Lib.hid fun hn => by unfold plV; rw [if_pos hn]
  have HOP := Lib.hid (opE_ob L (o := a) (k := 2) (i := b))
  generalize opE (memR L) a 2 b = t at *
  generalize plV (memR L) a 2 b = pv at *
  generalize byteN (memR L) a b = fn at *
  obtain ⟨y0, ⟨⟨d0, d1, d2, d3⟩, _⟩, _, _, _, _⟩ := S0.out
  obtain ⟨y0, _, _⟩ := y0
  by_cases ht : t = 0
  · obtain ⟨j, ⟨ob, z, u⟩, hjp, hj, e1, e2, hk, hi0, hi1, hk0⟩ := HOP.out ht
    simp only at e2 hk hi1 hk0
    obtain ⟨n, rfl⟩ := Int.eq_ofNat_of_zero_le hi0
    have hob0 : objF (memR L) a = ob := by unfold objF; rw [e2]; rfl
    have hfn : fn = ob.b.getD n 0 := by rw [HF0.out ht, hob0]; rfl
    have hpv : pv = ((j + 1 : Nat) : Int) := (HPL.out ht).trans e1
    have hsz : sizeO ob = ob.b.length := by unfold sizeO; rw [if_neg (by omega), if_pos hk]
    rw [hsz] at hi1
    have hnw : n < ob.b.length := by omega
    obtain ⟨x, hx⟩ : ∃ x : Int, ((j + 1 : Nat) : Int) = x := ⟨_, rfl⟩
    rw [hpv, hx, ht] at HC
    rw [ht, hfn]
    have hx0 : (x == 0) = false := by simp; omega
    have hxw : IntKind.i64.wrap (x - 1) = (j : Int) := by rw [IntKind.wrap_i64]; omega
    have hxw2 : wrap64 (x - 1) = (j : Int) := by rw [IntWalk.wrap64_in _ (by omega)]; omega
    have hjl : (j : Int) < L.length := by omega
    have hj0 : (0 : Int) ≤ j := by omega
    have hn0 : (0 : Int) ≤ n := by omega
    have hk9 := hk0
    clear HF HF0 HPL HOP e1 e2 hk0 hx hj hpv ht hob0 hfn hsz hk
    go_enter Try.func16, Try.ntmps16
    go_upto_region 1 with fail
    generalize (((w.alloc (.cells #[.slice av L.length cv] 29)).alloc (.cells #[.int .i64 5, .int .i64 a, .int .i64 n, .int .i64 c] 38)).alloc (.cells #[.slice none 0 0] 29)).alloc (.cells #[.int .i64 0, .int .i64 0, .int .i64 0, .slice none 0 0, .slice none 0 0, .bool false, .int .i64 0] 35) = w1 at *
    go_wp2_with fail
    refine HC.out.mono ?_
    rintro e w2 ⟨rfl, hb⟩
    have S3 := Lib.hid (S0.out.next hb)
    clear hb y0 d0 d1 d2 d3 HC
    obtain ⟨bb, boff, bcc, hv, hNb, hr, hri⟩ := (HV.out.nn S3.out.bl).cells_ro hjp
    injection hv with f1 f2 f3
    subst f1 f3
    have nb1 := hNb.not2.1
    have nb2 := hNb.not2.2
    have nb3 := Ne.symm nb1
    have nb4 := Ne.symm nb2
    clear hNb
    have hrw := hri.rb
    have hby := (okz_ok hri.ok (show ob.k ≠ 0 from hk9)).2.1
    simp only at hrw
    obtain ⟨g, cg, hag⟩ := own_at hrw (by omega)
    subst hag
    have mb1 := (hri.nb g rfl).not2.1
    have mb2 := (hri.nb g rfl).not2.2
    have mb3 := Ne.symm mb1
    have mb4 := Ne.symm mb2
    obtain ⟨au, cu, hau⟩ := own_form hri.rw
    simp only at hau
    generalize hn2 : ob.w.length = n2 at hau
    subst hau
    have kx := (own_cells hrw).1 n _ (getD_map hnw)
    obtain ⟨r0, r1, r2, r3⟩ := hr
    obtain ⟨nw, hnw2⟩ : ∃ nw, ob.b.length = nw := ⟨_, rfl⟩
    rw [hnw2] at hnw hi1
    simp only [hnw2] at r3
    obtain ⟨y0, ⟨⟨d0, d1, d2, d3⟩, _⟩, z0, tb, _, _⟩ := S3.out
    obtain ⟨y0, _, _⟩ := y0
    obtain ⟨z0, zf, _⟩ := z0
    obtain ⟨q0, q1, q2, q3, q4, q5, q6, qf⟩ := tb.cz
    have E := Lib.hid (stp_drew (stp_end (N := N) (o := zeroO) (f := t0) (ob.b.getD n 0) false 0 S3.out.bl S3.out.b1 S3.out.tb (HV.out.nn S3.out.bl) rfl (zero_in _ _)))
    have hyb : 0 ≤ ob.b.getD n 0 ∧ ob.b.getD n 0 ≤ 255 := hby _ (by
      simp only [List.getD, List.getElem?_eq_getElem (show n < ob.b.length by omega), Option.getD_some]
      exact List.getElem_mem _)
    clear hby hk9
    generalize ob.b.getD n 0 = y at *
    have hyw : IntKind.i64.wrap y = y := by rw [IntKind.wrap_i64]; omega
    clear hyb
    clear tb hn2 hri f2 hjp hrw hnw2
    go_wp2
    go_region
    go_wp2_with fail
    exact bodyPost_ret (res_mt rfl rfl rfl E.out.1 E.out.2.1) rfl (E.out.2.2 _ rfl)
  · have ht2 : (t != 0) = true := by simpa using ht
    have h1 := HF.out ht
    rw [h1]
    clear ht h1 HF HF0 HPL HOP
    go_enter Try.func16, Try.ntmps16
    go_upto_region 1 with fail
    generalize (((w.alloc (.cells #[.slice av L.length cv] 29)).alloc (.cells #[.int .i64 5, .int .i64 a, .int .i64 b, .int .i64 c] 38)).alloc (.cells #[.slice none 0 0] 29)).alloc (.cells #[.int .i64 0, .int .i64 0, .int .i64 0, .slice none 0 0, .slice none 0 0, .bool false, .int .i64 0] 35) = w1 at *
    go_wp2_with fail
    refine HC.out.mono ?_
    rintro e w2 ⟨rfl, hb⟩
    have S3 := Lib.hid (S0.out.next hb)
    clear hb y0 d0 d1 d2 d3 HC
    obtain ⟨y0, ⟨⟨d0, d1, d2, d3⟩, _⟩, z0, tb, _, _⟩ := S3.out
    obtain ⟨y0, _, _⟩ := y0
    obtain ⟨z0, zf, _⟩ := z0
    obtain ⟨q0, q1, q2, q3, q4, q5, q6, qf⟩ := tb.cz
    have E := stp_end (N := N) (o := zeroO) (f := t0) 0 false t S3.out.bl S3.out.b1 S3.out.tb (HV.out.nn S3.out.bl) rfl (zero_in _ _)
    clear tb
    go_wp2_with fail
    exact bodyPost_ret (res_mt rfl rfl rfl E.1 E.2.1) rfl (E.2.2 _ rfl)
end Go.Proofs.Ytmaeoefimkppoaa.Fl

/- Step of the chapter: Next, Become; every step. -/
namespace Go.Proofs.Ytmaeoefimkppoaa.Fl
set_option maxRecDepth 1000000
open Go.ChangeShapes Go.WideShapes Go.ChangeAt Go.RowKit
open Go.Proofs.Ytmaeoefimkppoaa.Wd

set_option maxHeartbeats 1000000 in
theorem step_next {N : Nat → Prop} {w : World} {v : Value} {L : List RO} (h : RmV N w v L) (hl : L.length ≤ 1000000) (a b c : Int) (ha : In64 a) :
    Calls Try.prog 16 #[.agg #[v], .agg #[.int .i64 8, .int .i64 a, .int .i64 b, .int .i64 c]] w (Stp N (memR L) (nextN (memR L) a) zeroO (nextB (memR L) a) 0 w) := by
  have S0 := Lib.hid (ss_new w v 8 a b c)
  have HV := Lib.hid h
  have HN : Hid (∀ w' (M : Nat → Prop), RmV M w' v L → Calls Try.prog 45 #[.agg #[v], .int .i64 a] w' (Nx10 (memR L) a w')) := Lib.hid fun w' M hm => next10_ref hm hl a ha
  unfold ssW at S0
  unfold Nx10 at HN
  obtain ⟨av, cv, rfl⟩ := h.form
  generalize nextN (memR L) a = nn at *
  generalize nextB (memR L) a = nb at *
  obtain ⟨y0, ⟨⟨d0, d1, d2, d3⟩, _⟩, _, _, _, _⟩ := S0.out
  obtain ⟨y0, _, _⟩ := y0
  go_enter Try.func16, Try.ntmps16
  go_upto_region 1 with fail
  generalize (((w.alloc (.cells #[.slice av L.length cv] 29)).alloc (.cells #[.int .i64 8, .int .i64 a, .int .i64 b, .int .i64 c] 38)).alloc (.cells #[.slice none 0 0] 29)).alloc (.cells #[.int .i64 0, .int .i64 0, .int .i64 0, .slice none 0 0, .slice none 0 0, .bool false, .int .i64 0] 35) = w1 at *
  go_wp2_with fail
  obtain ⟨z0, zf, zl⟩ := S0.out.b1
  obtain ⟨q0, q1, q2, q3, q4, q5, q6, qf⟩ := S0.out.tb.cz
  have HF : Hid (∀ w', Below w1.heap.size w1 w' → Calls Try.prog 45 #[.agg #[.slice av L.length cv], .int .i64 a] w' fun e w'' => e = .returned (.agg #[.int .i64 nn, .int .i64 0, .int .i64 0, .slice none 0 0, .slice none 0 0, .bool nb, .int .i64 0]) ∧ Below w'.heap.size w' w'') := Lib.hid fun w' hb => HN.out w' _ ((HV.out.nn (S0.out.bl.trans (hb.mono S0.out.bl.size))))
  have HG : Hid (Calls Try.prog 45 #[.agg #[.slice av L.length cv], .int .i64 a] (w1.drew.setCell ⟨w.heap.size + 1 + 1, 0, none⟩ (.slice av L.length cv)) fun e w'' => e = .returned (.agg #[.int .i64 nn, .int .i64 0, .int .i64 0, .slice none 0 0, .slice none 0 0, .bool nb, .int .i64 0]) ∧ Below (w1.drew.setCell ⟨w.heap.size + 1 + 1, 0, none⟩ (.slice av L.length cv)).heap.size (w1.drew.setCell ⟨w.heap.size + 1 + 1, 0, none⟩ (.slice av L.length cv)) w'') := Lib.hid (HN.out _ _ (((HV.out.nn S0.out.bl).fresh (below_drewN _ _ 1)).only ((Only.refl (· = w.heap.size + 1 + 1) w1.drew).setCell ⟨w.heap.size + 1 + 1, 0, none⟩ rfl _) fun g hg e => hg.not2.1 e))
  have HCl : Hid (∀ w', Below w1.heap.size w1 w' → w'.cell? ⟨w.heap.size, 0, none⟩ = some (.slice av L.length cv) ∧ w'.cell? ⟨w.heap.size + 1, 1, none⟩ = some (.int .i64 a)) := Lib.hid fun w' hb => ⟨(S0.out.next hb).b0.1, (S0.out.next hb).d.1.2.1⟩
  have HOn : Hid (∀ w', Only (fun g => g = w.heap.size + 1 + 1 ∨ g = w.heap.size + 1 + 1 + 1) w1 w' → w'.cell? ⟨w.heap.size, 0, none⟩ = some (.slice av L.length cv) ∧ w'.cell? ⟨w.heap.size + 1, 1, none⟩ = some (.int .i64 a)) := Lib.hid fun w' o => ⟨(S0.out.b0.only o (by omega)).1, (S0.out.d.only o (by omega)).1.2.1⟩
  have KDr : Hid (Only (fun g => g = w.heap.size + 1 + 1 ∨ g = w.heap.size + 1 + 1 + 1) w1 w1.drew) := Lib.hid ⟨rfl, rfl, rfl, Nat.le_refl _, fun _ _ _ => rfl⟩
  have KD : Hid (Only (fun g => g = w.heap.size + 1 + 1 ∨ g = w.heap.size + 1 + 1 + 1) w1 (w1.drew.setCell ⟨w.heap.size + 1 + 1, 0, none⟩ (.slice av L.length cv))) := Lib.hid (Only.setCell (⟨rfl, rfl, rfl, Nat.le_refl _, fun _ _ _ => rfl⟩ : Only _ w1 w1.drew) _ (.inl rfl) _)
  clear d0 d2 d3
  go_region_held3 (fun w' => w'.cell? ⟨w.heap.size, 0, none⟩ = some (.slice av L.length cv) ∧ w'.cell? ⟨w.heap.size + 1, 1, none⟩ = some (.int .i64 a)) (first | (refine HOn.out _ ?_; (repeat (with_reducible refine Only.setCell ?_ _ (by first | exact Or.inl rfl | exact Or.inr rfl) _)); with_reducible exact KO3.out) | (refine HOn.out _ ?_; (repeat (with_reducible refine Only.setCell ?_ _ (by first | exact Or.inl rfl | exact Or.inr rfl) _)); with_reducible exact KDr.out)) (first | (go_at_call 45; refine (HF.out _ (below_drewN _ _ _)).mono ?_; rintro e w3 ⟨rfl, hb3⟩; have KB3 : Hid (Below w1.heap.size w1 w3) := Lib.hid ((below_drewN _ _ _).trans hb3); have KO3 : Hid (Only (fun g => g = w.heap.size + 1 + 1 ∨ g = w.heap.size + 1 + 1 + 1) w1 w3) := Lib.hid ⟨KB3.out.os, KB3.out.tape, KB3.out.output, KB3.out.size, fun k hk _ => KB3.out.block k hk⟩; have S3 := Lib.hid (S0.out.next KB3.out); obtain ⟨x0, xf, xl⟩ := S3.out.b1; obtain ⟨k0, k1, k2, k3, k4, k5, k6, kf⟩ := S3.out.tb.cz))
  have E := Lib.hid (stp_end (N := N) (o := zeroO) (f := t0) nn nb 0 S3.out.bl S3.out.b1 S3.out.tb (HV.out.nn S3.out.bl) rfl (zero_in _ _))
  go_wp2_with fail
  exact bodyPost_ret (res_mt rfl rfl rfl E.out.1 E.out.2.1) rfl (E.out.2.2 _ rfl)
set_option maxHeartbeats 4000000 in
theorem step_become {N : Nat → Prop} {w : World} {v : Value} {L : List RO} (h : RmV N w v L) (hl : L.length ≤ 1000000) (a b c : Int) (ha : In64 a) (hb : In64 b) :
    Calls Try.prog 16 #[.agg #[v], .agg #[.int .i64 7, .int .i64 a, .int .i64 b, .int .i64 c]] w (Stp N (becF (memR L) a b) 0 zeroO false (becE (memR L) a b) w) := by
  have S0 := Lib.hid (ss_new w v 7 a b c)
  have HV := Lib.hid h
  have HFa : Hid (∀ w', Below (ssW w v 7 a b c).heap.size (ssW w v 7 a b c) w' → Calls Try.prog 41 #[.agg #[v], .int .i64 a] w' fun e w'' => e = .returned (.int .i64 (idF (memR L) a)) ∧ Below w'.heap.size w' w'') := Lib.hid fun w' hb' => find10_any ((h.nn S0.out.bl).fresh hb') hl a ha
  have HFb : Hid (∀ w', Below (ssW w v 7 a b c).heap.size (ssW w v 7 a b c) w' → Calls Try.prog 41 #[.agg #[v], .int .i64 b] w' fun e w'' => e = .returned (.int .i64 (idF (memR L) b)) ∧ Below w'.heap.size w' w'') := Lib.hid fun w' hb' => find10_any ((h.nn S0.out.bl).fresh hb') hl b hb
  have HWa := find_ways h a
  have HWb := find_ways h b
  unfold ssW at S0 HFa HFb
  obtain ⟨av, cv, rfl⟩ := h.form
  obtain ⟨y0, ⟨⟨d0, d1, d2, d3⟩, _⟩, _, _, _, _⟩ := S0.out
  obtain ⟨y0, _, _⟩ := y0
  rcases HWa with ⟨ea1, ea2⟩ | ⟨ja, oa, za, ua, hja, hjla, ea1, ea2, ea3, hka⟩
  · have h1 : becE (memR L) a b = 4 := bec_not (.inl ea1)
    have h2 : becF (memR L) a b = memR L := by unfold becF; rw [h1]; rfl
    rw [h1, h2]
    rw [ea2] at HFa
    generalize idF (memR L) b = ib at *
    clear h1 h2 ea1 ea2 HWb
    go_enter Try.func16, Try.ntmps16
    go_upto_region 1 with fail
    generalize (((w.alloc (.cells #[.slice av L.length cv] 29)).alloc (.cells #[.int .i64 7, .int .i64 a, .int .i64 b, .int .i64 c] 38)).alloc (.cells #[.slice none 0 0] 29)).alloc (.cells #[.int .i64 0, .int .i64 0, .int .i64 0, .slice none 0 0, .slice none 0 0, .bool false, .int .i64 0] 35) = w1 at *
    go_upto_region 23 with (go_at_call 41; refine (HFa.out _ (Below.refl _ _)).mono ?_; rintro e w2 ⟨rfl, hb2⟩)
    have S2 := Lib.hid (S0.out.next hb2)
    have HFb2 := Lib.hid (HFb.out _ hb2)
    clear hb2 y0 d0 d1 d2 d3 HFa HFb
    obtain ⟨y0, ⟨⟨d0, d1, d2, d3⟩, _⟩, _, _, _, _⟩ := S2.out
    obtain ⟨y0, _, _⟩ := y0
    go_upto_region 24 with (go_at_call 41; refine HFb2.out.mono ?_; rintro e w3 ⟨rfl, hb3⟩)
    have S3 := Lib.hid (S2.out.next hb3)
    clear hb3 y0 d0 d1 d2 d3 HFb2
    obtain ⟨y0, ⟨⟨d0, d1, d2, d3⟩, _⟩, z0, tb, _, _⟩ := S3.out
    obtain ⟨y0, _, _⟩ := y0
    obtain ⟨z0, zf, _⟩ := z0
    obtain ⟨q0, q1, q2, q3, q4, q5, q6, qf⟩ := tb.cz
    have E := stp_end (N := N) (o := zeroO) (f := t0) 0 false 4 S3.out.bl S3.out.b1 S3.out.tb (HV.out.nn S3.out.bl) rfl (zero_in _ _)
    clear tb
    go_wp2_with fail
    exact bodyPost_ret (res_mt rfl rfl rfl E.1 E.2.1) rfl (E.2.2 _ rfl)
  · rcases HWb with ⟨eb1, eb2⟩ | ⟨jb, ob, zb, ub, hjb, hjlb, eb1, eb2, eb3, hkb⟩
    · have h1 : becE (memR L) a b = 4 := bec_not (.inr eb1)
      have h2 : becF (memR L) a b = memR L := by unfold becF; rw [h1]; rfl
      rw [h1, h2]
      rw [eb2] at HFb
      have hia : (idF (memR L) a == 0) = false := by rw [ea1]; simp; omega
      generalize idF (memR L) a = ia at *
      clear h1 h2 eb1 eb2 ea1 ea2 ea3 hka hja hjla
      go_enter Try.func16, Try.ntmps16
      go_upto_region 1 with fail
      generalize (((w.alloc (.cells #[.slice av L.length cv] 29)).alloc (.cells #[.int .i64 7, .int .i64 a, .int .i64 b, .int .i64 c] 38)).alloc (.cells #[.slice none 0 0] 29)).alloc (.cells #[.int .i64 0, .int .i64 0, .int .i64 0, .slice none 0 0, .slice none 0 0, .bool false, .int .i64 0] 35) = w1 at *
      go_upto_region 23 with (go_at_call 41; refine (HFa.out _ (Below.refl _ _)).mono ?_; rintro e w2 ⟨rfl, hb2⟩)
      have S2 := Lib.hid (S0.out.next hb2)
      have HFb2 := Lib.hid (HFb.out _ hb2)
      clear hb2 y0 d0 d1 d2 d3 HFa HFb
      obtain ⟨y0, ⟨⟨d0, d1, d2, d3⟩, _⟩, _, _, _, _⟩ := S2.out
      obtain ⟨y0, _, _⟩ := y0
      go_upto_region 24 with (go_at_call 41; refine HFb2.out.mono ?_; rintro e w3 ⟨rfl, hb3⟩)
      have S3 := Lib.hid (S2.out.next hb3)
      clear hb3 y0 d0 d1 d2 d3 HFb2
      obtain ⟨y0, ⟨⟨d0, d1, d2, d3⟩, _⟩, z0, tb, _, _⟩ := S3.out
      obtain ⟨y0, _, _⟩ := y0
      obtain ⟨z0, zf, _⟩ := z0
      obtain ⟨q0, q1, q2, q3, q4, q5, q6, qf⟩ := tb.cz
      have E := stp_end (N := N) (o := zeroO) (f := t0) 0 false 4 S3.out.bl S3.out.b1 S3.out.tb (HV.out.nn S3.out.bl) rfl (zero_in _ _)
      clear tb
      go_wp2_with fail
      exact bodyPost_ret (res_mt rfl rfl rfl E.1 E.2.1) rfl (E.2.2 _ rfl)
    · have h1 : becE (memR L) a b = 0 := by unfold becE errF; rw [ea3, eb3]; rfl
      have h2 : becF (memR L) a b = memR ((L.set ja (ob, zb, ub)).set jb (oa, za, ua)) := by
        unfold becF
        rw [if_pos h1, memR_set _ _ (by simpa using hjlb), memR_set _ _ hjla, ea3, eb3, ea2, eb2, if_neg hka, if_neg hkb]
      rw [h1, h2]
      obtain ⟨xa, hxa⟩ : ∃ x : Int, ((ja + 1 : Nat) : Int) = x := ⟨_, rfl⟩
      obtain ⟨xb, hxb⟩ : ∃ x : Int, ((jb + 1 : Nat) : Int) = x := ⟨_, rfl⟩
      rw [ea1, hxa] at HFa
      rw [eb1, hxb] at HFb
      have xa0 : (xa == 0) = false := by simp; omega
      have xb0 : (xb == 0) = false := by simp; omega
      have xaw : IntKind.i64.wrap (xa - 1) = (ja : Int) := by rw [IntKind.wrap_i64]; omega
      have xbw : IntKind.i64.wrap (xb - 1) = (jb : Int) := by rw [IntKind.wrap_i64]; omega
      have xaw2 : wrap64 (xa - 1) = (ja : Int) := by rw [IntWalk.wrap64_in _ (by omega)]; omega
      have xbw2 : wrap64 (xb - 1) = (jb : Int) := by rw [IntWalk.wrap64_in _ (by omega)]; omega
      have jal : (ja : Int) < L.length := by omega
      have jbl : (jb : Int) < L.length := by omega
      have ja0 : (0 : Int) ≤ ja := by omega
      have jb0 : (0 : Int) ≤ jb := by omega
      have HXA := Lib.hid hxa
      have HXB := Lib.hid hxb
      have HJ := Lib.hid (And.intro hjla hjlb)
      clear h1 h2 ea1 ea2 ea3 eb1 eb2 eb3 hka hkb hxa hxb hjla hjlb
      go_enter Try.func16, Try.ntmps16
      go_upto_region 1 with fail
      generalize (((w.alloc (.cells #[.slice av L.length cv] 29)).alloc (.cells #[.int .i64 7, .int .i64 a, .int .i64 b, .int .i64 c] 38)).alloc (.cells #[.slice none 0 0] 29)).alloc (.cells #[.int .i64 0, .int .i64 0, .int .i64 0, .slice none 0 0, .slice none 0 0, .bool false, .int .i64 0] 35) = w1 at *
      go_upto_region 23 with (go_at_call 41; refine (HFa.out _ (Below.refl _ _)).mono ?_; rintro e w2 ⟨rfl, hb2⟩)
      have S2 := Lib.hid (S0.out.next hb2)
      have HFb2 := Lib.hid (HFb.out _ hb2)
      clear hb2 y0 d0 d1 d2 d3 HFa HFb
      obtain ⟨y0, ⟨⟨d0, d1, d2, d3⟩, _⟩, _, _, _, _⟩ := S2.out
      obtain ⟨y0, _, _⟩ := y0
      go_upto_region 24 with (go_at_call 41; refine HFb2.out.mono ?_; rintro e w3 ⟨rfl, hb3⟩)
      have S3 := Lib.hid (S2.out.next hb3)
      clear hb3 y0 d0 d1 d2 d3 HFb2
      obtain ⟨bb, boff, bcc, hv, hNb, hrA, hriA⟩ := (HV.out.nn S3.out.bl).cells_ro hja
      injection hv with f1 f2 f3
      subst f1 f3
      obtain ⟨bb', boff', bcc', hv', _, hrB, hriB⟩ := (HV.out.nn S3.out.bl).cells_ro hjb
      injection hv' with f1' f2' f3'
      injection f1' with f1'
      injection f1' with g1' g2' _
      subst g1' g2' f3'
      obtain ⟨aw, cw, ab, cb, k1, k2⟩ := hriA.form
      obtain ⟨aw', cw', ab', cb', k3, k4⟩ := hriB.form
      simp only at k1 k2 k3 k4
      generalize hn1 : oa.w.length = n1 at k1
      generalize hn2 : oa.b.length = n2 at k2
      generalize hn3 : ob.w.length = n3 at k3
      generalize hn4 : ob.b.length = n4 at k4
      subst k1 k2 k3 k4
      have RV := Lib.hid (HV.out.nn S3.out.bl)
      have RA := Lib.hid hriA
      have RB := Lib.hid hriB
      have CA := Lib.hid hrA
      have CB := Lib.hid hrB
      obtain ⟨r0, r1, r2, r3⟩ := hrA
      obtain ⟨s0, s1, s2, s3⟩ := hrB
      have nb1 := hNb.not2.1
      have nb2 := hNb.not2.2
      have hM : Hid (∀ g, NN N w g ∨ w3.heap.size ≤ g → NN N w g) := Lib.hid fun g hg => hg.elim id fun h => .inr (Nat.le_trans S3.out.sz h)
      have HW1 : Hid (∀ w', Below w3.heap.size w3 w' → Calls Try.prog 44 #[.agg #[.slice (some ⟨bb, boff, none⟩) L.length cv], .int .i64 xa, .agg #[.int .i64 ob.c, .int .i64 ob.k, .slice aw' n3 cw', .slice ab' n4 cb']] w' fun e w'' => ∃ a' c', e = .returned (.agg #[.slice a' L.length c']) ∧ Hid (RmV (NN N w) w'' (.slice a' L.length c') (L.set ja (ob, .slice aw' n3 cw', .slice ab' n4 cb'))) ∧ Hid (Below w3.heap.size w3 w'')) := Lib.hid fun w' hb' => by
        have := with10_any (RV.out.fresh hb') hl ja HJ.out.1 _ (RB.out.fresh hb')
        rw [HXA.out] at this
        exact this.mono fun e w'' ⟨a', c', he, hr, hb2⟩ => ⟨a', c', he, hr.mono fun g hg => hM.out g (hg.imp id fun h => Nat.le_trans hb'.size h), hb'.trans (hb2.mono hb'.size)⟩
      have HW2 : Hid (∀ w' a' c', RmV (NN N w) w' (.slice a' L.length c') (L.set ja (ob, .slice aw' n3 cw', .slice ab' n4 cb')) → Below w3.heap.size w3 w' → Calls Try.prog 44 #[.agg #[.slice a' L.length c'], .int .i64 xb, .agg #[.int .i64 oa.c, .int .i64 oa.k, .slice aw n1 cw, .slice ab n2 cb]] w' fun e w'' => ∃ a'' c'', e = .returned (.agg #[.slice a'' L.length c'']) ∧ Hid (RmV (NN N w) w'' (.slice a'' L.length c'') ((L.set ja (ob, .slice aw' n3 cw', .slice ab' n4 cb')).set jb (oa, .slice aw n1 cw, .slice ab n2 cb))) ∧ Hid (Below w3.heap.size w3 w'')) := Lib.hid fun w' a' c' hr hb' => by
        have := with10_any hr (by simpa using hl) jb (by simpa using HJ.out.2) _ (RA.out.fresh hb')
        rw [HXB.out] at this
        exact this.mono fun e w'' ⟨a'', c'', he, hr2, hb2⟩ => by
          rw [List.length_set] at he hr2
          exact ⟨a'', c'', he, hr2.mono fun g hg => hM.out g (hg.imp id fun h => Nat.le_trans hb'.size h), hb'.trans (hb2.mono hb'.size)⟩
      clear hriA hriB hja hjb hNb hn1 hn2 hn3 hn4 f2 f2'
      obtain ⟨y0, ⟨⟨d0, d1, d2, d3⟩, _⟩, _, _, _, _⟩ := S3.out
      obtain ⟨y0, _, _⟩ := y0
      have HOn : Hid (∀ w', Only (fun g => g = w.heap.size + 1 + 1 ∨ g = w.heap.size + 1 + 1 + 1) w3 w' → w'.cell? ⟨w.heap.size, 0, none⟩ = some (.slice (some ⟨bb, boff, none⟩) L.length cv) ∧ w'.cell? ⟨bb, boff + ja * 4, none⟩ = some (.int .i64 oa.c) ∧ w'.cell? ⟨bb, boff + ja * 4 + 1, none⟩ = some (.int .i64 oa.k) ∧ w'.cell? ⟨bb, boff + ja * 4 + 2, none⟩ = some (.slice aw n1 cw) ∧ w'.cell? ⟨bb, boff + ja * 4 + 3, none⟩ = some (.slice ab n2 cb) ∧ w'.cell? ⟨bb, boff + jb * 4, none⟩ = some (.int .i64 ob.c) ∧ w'.cell? ⟨bb, boff + jb * 4 + 1, none⟩ = some (.int .i64 ob.k) ∧ w'.cell? ⟨bb, boff + jb * 4 + 2, none⟩ = some (.slice aw' n3 cw') ∧ w'.cell? ⟨bb, boff + jb * 4 + 3, none⟩ = some (.slice ab' n4 cb')) := Lib.hid fun w' o => by
        have hl1 := World.block_lt_of_cell? _ _ r0
        have hno : ¬ (bb = w.heap.size + 1 + 1 ∨ bb = w.heap.size + 1 + 1 + 1) := fun e => e.elim nb1 nb2
        have q : ∀ j, w'.cell? ⟨bb, j, none⟩ = w3.cell? ⟨bb, j, none⟩ := fun j => Only.cell o (p := ⟨bb, j, none⟩) hl1 hno
        exact ⟨(S3.out.b0.only o (by omega)).1, (q _).trans r0, (q _).trans r1, (q _).trans r2, (q _).trans r3, (q _).trans s0, (q _).trans s1, (q _).trans s2, (q _).trans s3⟩
      have KOf : Hid (∀ w', Below w3.heap.size w3 w' → Only (fun g => g = w.heap.size + 1 + 1 ∨ g = w.heap.size + 1 + 1 + 1) w3 w') := Lib.hid fun w' hb => ⟨hb.os, hb.tape, hb.output, hb.size, fun k hk _ => hb.block k hk⟩
      have KDr : Hid (Only (fun g => g = w.heap.size + 1 + 1 ∨ g = w.heap.size + 1 + 1 + 1) w3 w3.drew) := Lib.hid ⟨rfl, rfl, rfl, Nat.le_refl _, fun _ _ _ => rfl⟩
      have HEnd : Hid (∀ (w5 : World) (a5 : Option Addr) (c5 : Nat) (L5 : List RO), Below w3.heap.size w3 w5 → RmV (NN N w) w5 (.slice a5 L.length c5) L5 → memR L5 = memR ((L.set ja (ob, .slice aw' n3 cw', .slice ab' n4 cb')).set jb (oa, .slice aw n1 cw, .slice ab n2 cb)) → B1 (w.heap.size + 1 + 1) (.slice a5 L.length c5) (end8 w5 (w.heap.size + 1 + 1) (.slice a5 L.length c5) (.int .i64 0) (.int .i64 0) (.int .i64 0) (.slice none 0 0) (.slice none 0 0) (.bool false) (.int .i64 0)) ∧ Tb (w.heap.size + 1 + 1 + 1) (tz 0 0 0 (.slice none 0 0) (.slice none 0 0) false 0) (end8 w5 (w.heap.size + 1 + 1) (.slice a5 L.length c5) (.int .i64 0) (.int .i64 0) (.int .i64 0) (.slice none 0 0) (.slice none 0 0) (.bool false) (.int .i64 0)) ∧ ∀ e, e = .returned (.tuple #[.agg #[.slice a5 L.length c5], .agg #[.int .i64 0, .int .i64 0, .int .i64 0, .slice none 0 0, .slice none 0 0, .bool false, .int .i64 0]]) → Stp N (memR ((L.set ja (ob, .slice aw' n3 cw', .slice ab' n4 cb')).set jb (oa, .slice aw n1 cw, .slice ab n2 cb))) 0 zeroO false 0 w e (end8 w5 (w.heap.size + 1 + 1) (.slice a5 L.length c5) (.int .i64 0) (.int .i64 0) (.int .i64 0) (.slice none 0 0) (.slice none 0 0) (.bool false) (.int .i64 0))) := Lib.hid fun w5 a5 c5 L5 hb hr hm => stp_end (N := N) (o := zeroO) (f := t0) 0 false 0 (S3.out.next hb).bl (S3.out.next hb).b1 (S3.out.next hb).tb hr hm (zero_in _ _)
      clear RV RA RB CA CB hM d0 d1 d2 d3
      go_wp2_with fail
      go_region_held3 (fun w' => w'.cell? ⟨w.heap.size, 0, none⟩ = some (.slice (some ⟨bb, boff, none⟩) L.length cv) ∧ w'.cell? ⟨bb, boff + ja * 4, none⟩ = some (.int .i64 oa.c) ∧ w'.cell? ⟨bb, boff + ja * 4 + 1, none⟩ = some (.int .i64 oa.k) ∧ w'.cell? ⟨bb, boff + ja * 4 + 2, none⟩ = some (.slice aw n1 cw) ∧ w'.cell? ⟨bb, boff + ja * 4 + 3, none⟩ = some (.slice ab n2 cb) ∧ w'.cell? ⟨bb, boff + jb * 4, none⟩ = some (.int .i64 ob.c) ∧ w'.cell? ⟨bb, boff + jb * 4 + 1, none⟩ = some (.int .i64 ob.k) ∧ w'.cell? ⟨bb, boff + jb * 4 + 2, none⟩ = some (.slice aw' n3 cw') ∧ w'.cell? ⟨bb, boff + jb * 4 + 3, none⟩ = some (.slice ab' n4 cb')) (first | (refine HOn.out _ ?_; (repeat (with_reducible refine Only.setCell ?_ _ (by first | exact Or.inl rfl | exact Or.inr rfl) _)); with_reducible exact KO5.out) | (refine HOn.out _ ?_; (repeat (with_reducible refine Only.setCell ?_ _ (by first | exact Or.inl rfl | exact Or.inr rfl) _)); with_reducible exact KO4.out) | (refine HOn.out _ ?_; (repeat (with_reducible refine Only.setCell ?_ _ (by first | exact Or.inl rfl | exact Or.inr rfl) _)); with_reducible exact KDr.out)) (first | (go_at_call 44; refine (HW2.out _ _ _ R4.out K4.out).mono ?_; rintro e w5 ⟨a5, c5, rfl, R5, K5⟩; have KO5 := Lib.hid (KOf.out _ K5.out); obtain ⟨zz0, zzf, _⟩ := (S3.out.next K5.out).b1; obtain ⟨q0, q1, q2, q3, q4, q5, q6, qf⟩ := (S3.out.next K5.out).tb.cz) | (go_at_call 44; refine (HW1.out _ (below_drewN _ _ _)).mono ?_; rintro e w4 ⟨a4, c4, rfl, R4, K4⟩; have KO4 := Lib.hid (KOf.out _ K4.out)))
      all_goals (
        have E := Lib.hid (HEnd.out w5 a5 c5 _ K5.out R5.out rfl)
        go_wp2_with fail
        exact bodyPost_ret (res_mt rfl rfl rfl E.out.1 E.out.2.1) rfl (E.out.2.2 _ rfl))
end Go.Proofs.Ytmaeoefimkppoaa.Fl

/- Every step of the chapter; what is told the same. -/
namespace Go.Proofs.Ytmaeoefimkppoaa.Fl
set_option maxRecDepth 1000000
open Go.ChangeShapes Go.WideShapes Go.ChangeAt Go.RowKit
open Go.Proofs.Ytmaeoefimkppoaa.Wd

theorem step_any {N : Nat → Prop} {w : World} {v : Value} {L : List RO} (h : RmV N w v L) (hl : L.length ≤ 1000000) (d : Todo) (hd : d.wf) :
    Calls Try.prog 16 #[.agg #[v], .agg #[.int .i64 d.k, .int .i64 d.a, .int .i64 d.b, .int .i64 d.c]] w (Stp N (dF (memR L) d) (dN (memR L) d) (dO (memR L) d) (dB (memR L) d) (dE (memR L) d) w) := by
  obtain ⟨k, a, b, c⟩ := d
  obtain ⟨_, ha, hb, hc⟩ := hd
  have ha := w64_in ha
  have hb := w64_in hb
  have hc := w64_in hc
  by_cases hk : k < 1 ∨ 8 < k
  · have e0 : ∀ n : Int, 1 ≤ n → n ≤ 8 → k ≠ n := fun n h1 h2 => by omega
    have e9 : ¬ (1 ≤ k ∧ k ≤ 8) := by omega
    simp only [dN, dO, dB, dE, dF, e0 1 (by decide) (by decide), e0 2 (by decide) (by decide), e0 3 (by decide) (by decide), e0 4 (by decide) (by decide), e0 5 (by decide) (by decide), e0 6 (by decide) (by decide), e0 7 (by decide) (by decide), e0 8 (by decide) (by decide), e9, if_false]
    exact step_coll h hl k a b c hk ha hb hc
  · obtain rfl | rfl | rfl | rfl | rfl | rfl | rfl | rfl : k = 1 ∨ k = 2 ∨ k = 3 ∨ k = 4 ∨ k = 5 ∨ k = 6 ∨ k = 7 ∨ k = 8 := by omega
    · exact step_new h hl a b c ha
    · exact step_obj h hl a b c ha
    · exact step_fetch h hl a b c ha
    · exact step_set h hl a b c ha hc
    · exact step_byte h hl a b c ha
    · exact step_setb h hl a b c ha
    · exact step_become h hl a b c ha hb
    · exact step_next h hl a b c ha
theorem mk_tolds (w : World) (n c k n' c' k' : Int) (z u z' u' : Value) (b b' : Bool) (t t' : Int) :
    Tb w.heap.size (tz n c k z u b t) ((w.alloc (.cells #[.int .i64 n, .int .i64 c, .int .i64 k, z, u, .bool b, .int .i64 t] 35)).alloc (.cells #[.int .i64 n', .int .i64 c', .int .i64 k', z', u', .bool b', .int .i64 t'] 35)) ∧
    Tb (w.heap.size + 1) (tz n' c' k' z' u' b' t') ((w.alloc (.cells #[.int .i64 n, .int .i64 c, .int .i64 k, z, u, .bool b, .int .i64 t] 35)).alloc (.cells #[.int .i64 n', .int .i64 c', .int .i64 k', z', u', .bool b', .int .i64 t'] 35)) ∧
    Below w.heap.size w ((w.alloc (.cells #[.int .i64 n, .int .i64 c, .int .i64 k, z, u, .bool b, .int .i64 t] 35)).alloc (.cells #[.int .i64 n', .int .i64 c', .int .i64 k', z', u', .bool b', .int .i64 t'] 35)) := by
  have h := tb_new (w.alloc (.cells #[.int .i64 n, .int .i64 c, .int .i64 k, z, u, .bool b, .int .i64 t] 35)) n' c' k' z' u' b' t' 35
  rw [show (w.alloc (.cells #[.int .i64 n, .int .i64 c, .int .i64 k, z, u, .bool b, .int .i64 t] 35)).heap.size = w.heap.size + 1 by simp] at h
  exact ⟨(tb_new w n c k z u b t 35).only (only_below (below_new _ _)) id, h, (below_new _ _).alloc (by simp) _⟩
def C7 (p : Nat) (n c k : Int) (z u : Value) (b : Bool) (t : Int) (w : World) : Prop := w.cell? ⟨p, 0, none⟩ = some (.int .i64 n) ∧ w.cell? ⟨p, 1, none⟩ = some (.int .i64 c) ∧ w.cell? ⟨p, 1 + 1, none⟩ = some (.int .i64 k) ∧ w.cell? ⟨p, 1 + 2, none⟩ = some z ∧ w.cell? ⟨p, 1 + 3, none⟩ = some u ∧ w.cell? ⟨p, 5, none⟩ = some (.bool b) ∧ w.cell? ⟨p, 6, none⟩ = some (.int .i64 t)
theorem Tb.c7 {p : Nat} {n c k : Int} {z u : Value} {b : Bool} {t : Int} {w : World} (h : Tb p (tz n c k z u b t) w) : C7 p n c k z u b t w :=
  ⟨h.1 0 (by decide), h.1 1 (by decide), h.1 2 (by decide), h.1 3 (by decide), h.1 4 (by decide), h.1 5 (by decide), h.1 6 (by decide)⟩
set_option maxHeartbeats 2000000 in
theorem told_same {w : World} {n : Int} {o : Ob} {b : Bool} {t : Int} {a1 a2 a3 a4 : Option Addr} {n1 c1 n2 c2 n3 c3 n4 c4 : Nat} (h1 : ObjAt w (.agg #[.int .i64 o.c, .int .i64 o.k, .slice a1 n1 c1, .slice a2 n2 c2]) o) (h2 : ObjAt w (.agg #[.int .i64 o.c, .int .i64 o.k, .slice a3 n3 c3, .slice a4 n4 c4]) o) (hs : Short o) :
    Calls Try.prog 17 #[.agg #[.int .i64 n, .int .i64 o.c, .int .i64 o.k, .slice a1 n1 c1, .slice a2 n2 c2, .bool b, .int .i64 t], .agg #[.int .i64 n, .int .i64 o.c, .int .i64 o.k, .slice a3 n3 c3, .slice a4 n4 c4, .bool b, .int .i64 t]] w fun e w' => e = .returned (.bool true) ∧ Below w.heap.size w w' := by
  obtain ⟨x1, x2, x3⟩ := mk_tolds w n o.c o.k n o.c o.k (.slice a1 n1 c1) (.slice a2 n2 c2) (.slice a3 n3 c3) (.slice a4 n4 c4) b b t t
  have X1 := Lib.hid x1
  have X2 := Lib.hid x2
  have X3 := Lib.hid x3
  have HS : Hid (∀ w', Below w.heap.size w w' → Calls Try.prog 25 #[.agg #[.int .i64 o.c, .int .i64 o.k, .slice a1 n1 c1, .slice a2 n2 c2], .agg #[.int .i64 o.c, .int .i64 o.k, .slice a3 n3 c3, .slice a4 n4 c4]] w' fun e w'' => e = .returned (.bool true) ∧ Below w'.heap.size w' w'') := Lib.hid fun w' hb => same_got (h1.kept hb) (h2.kept hb) hs
  clear x1 x2 x3 h1 h2 hs
  have e1 : (n == n) = true := by simp
  have e2 : (b == b) = true := by simp
  have e3 : (t == t) = true := by simp
  go_enter Try.func17, Try.ntmps17
  go_upto_region 1 with fail
  generalize (w.alloc (.cells #[.int .i64 n, .int .i64 o.c, .int .i64 o.k, .slice a1 n1 c1, .slice a2 n2 c2, .bool b, .int .i64 t] 35)).alloc (.cells #[.int .i64 n, .int .i64 o.c, .int .i64 o.k, .slice a3 n3 c3, .slice a4 n4 c4, .bool b, .int .i64 t] 35) = w1 at *
  generalize o.c = oc at *
  generalize o.k = ok at *
  obtain ⟨p0, p1, p2, p3, p4, p5, p6⟩ := X1.out.c7
  obtain ⟨q0, q1, q2, q3, q4, q5, q6⟩ := X2.out.c7
  go_wp2_with (go_at_call 25; refine (HS.out _ X3.out).mono ?_; rintro e w2 ⟨rfl, hb2⟩; have B2 := Lib.hid (X3.out.trans (hb2.mono X3.out.size)); have Y1 := Lib.hid (X1.out.only (only_below hb2) id).c7; have Y2 := Lib.hid (X2.out.only (only_below hb2) id).c7; clear hb2; obtain ⟨s0, s1, s2, s3, s4, s5, s6⟩ := Y1.out; obtain ⟨t0, t1, t2, t3, t4, t5, t6⟩ := Y2.out)
  go_ret
  exact ⟨rfl, B2.out⟩
end Go.Proofs.Ytmaeoefimkppoaa.Fl
