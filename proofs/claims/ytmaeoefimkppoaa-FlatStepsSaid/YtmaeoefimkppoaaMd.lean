/- Texts one behind the other: Xg Xh Xi. -/
import Derived.Test.YtmaeoefimkppoaaXd

/- What 'size' and 'place' of the chapter's memory tell. -/
namespace Go.Proofs.Ytmaeoefimkppoaa.Fl
set_option maxRecDepth 1000000
open Go.ChangeShapes Go.WideShapes Go.ChangeAt Go.RowKit
open Go.Proofs.Ytmaeoefimkppoaa.Wd

theorem okz_size {o : Ob} (h : OkZ o) : o.w.length + o.b.length = sizeO o := by
  rcases h with rfl | ⟨h, _⟩
  · rfl
  · rcases ((okO_iff o).1 h).2 with ⟨h1, h2, _⟩ | ⟨h1, h2, _⟩
    · unfold sizeO; rw [if_pos h1, h2]; rfl
    · unfold sizeO; rw [if_neg (by omega), if_pos h1, h2]; simp
set_option maxHeartbeats 1000000 in
theorem size10_any (o : Ob) (a1 : Option Addr) (n1 c1 : Nat) (a2 : Option Addr) (n2 c2 : Nat) (h1 : n1 ≤ 1000) (h2 : n2 ≤ 1000) (w : World) :
    Calls Try.prog 65 #[.agg #[.int .i64 o.c, .int .i64 o.k, .slice a1 n1 c1, .slice a2 n2 c2]] w fun e w' => e = .returned (.int .i64 ((n1 + n2 : Nat) : Int)) ∧ Below w.heap.size w w' := by
  have hb := box_new w (.int .i64 o.c) (.int .i64 o.k) (.slice a1 n1 c1) (.slice a2 n2 c2)
  obtain ⟨⟨q0, q1, q2, q3⟩, _, _⟩ := hb
  have hw : IntKind.i64.wrap ((n1 : Int) + n2) = (n1 : Int) + n2 := by rw [IntKind.wrap_i64]; omega
  have hw2 : wrap64 ((n1 : Int) + n2) = (n1 : Int) + n2 := IntWalk.wrap64_in _ (by omega)
  have B := Lib.hid (below_new w (.cells #[.int .i64 o.c, .int .i64 o.k, .slice a1 n1 c1, .slice a2 n2 c2] 33))
  go_enter Try.func65, Try.ntmps65
  go_wp2
  go_ret
  exact ⟨by simp, B.out⟩
def plV (E : Mem) (o k i : Int) : Int := if opE E o k i = 0 then namV o else 0
def Plc (E : Mem) (o k i : Int) (w : World) (e : Ending) (w' : World) : Prop := e = .returned (.tuple #[.int .i64 (plV E o k i), .int .i64 (opE E o k i)]) ∧ Below w.heap.size w w'
set_option maxHeartbeats 4000000 in
theorem place10_any {N : Nat → Prop} {w : World} {v : Value} {L : List RO} (h : RmV N w v L) (hl : L.length ≤ 1000000) (o k i : Int) (ho : In64 o) :
    Calls Try.prog 42 #[.agg #[v], .int .i64 o, .int .i64 k, .int .i64 i] w (Plc (memR L) o k i w) := by
  have HB := Lib.hid (below_new w (.cells #[v] 29))
  have HV := Lib.hid (h.fresh (below_new w (.cells #[v] 29)))
  have HF := Lib.hid (find10_any HV.out hl o ho)
  unfold Fnd at HF
  obtain ⟨a, c, rfl⟩ := h.form
  have hx : (w.alloc (.cells #[.slice a L.length c] 29)).cell? ⟨w.heap.size, 0, none⟩ = some (.slice a L.length c) := by rw [World.cell?_alloc_at _ _ _ _ rfl]; rfl
  have hlt : w.heap.size < (w.alloc (.cells #[.slice a L.length c] 29)).heap.size := by simp
  have hno : at_ (memR L) (namV o) = none → opE (memR L) o k i = 4 ∧ plV (memR L) o k i = 0 ∧ idF (memR L) o = 0 := fun e => by
    have h1 : opE (memR L) o k i = 4 := by unfold opE; rw [e]
    refine ⟨h1, by unfold plV; rw [h1]; rfl, by unfold idF; rw [e]; rfl⟩
  have way : at_ (memR L) (namV o) = none ∨ ∃ (j : Nat) (hj : j < L.length), namV o = ((j + 1 : Nat) : Int) ∧ at_ (memR L) (namV o) = some L[j].1 ∧ L[j].1.k ≠ 0 := by
    rcases name_ways L o with ⟨_, _, e⟩ | ⟨_, _, e⟩ | ⟨j, hj, _, e1, e2⟩
    · exact .inl e
    · exact .inl e
    · by_cases hk : L[j].1.k = 0
      · rw [if_pos hk] at e2; exact .inl e2
      · rw [if_neg hk] at e2; exact .inr ⟨j, hj, e1, e2, hk⟩
  clear h
  unfold Plc
  rcases way with hn | ⟨j, hj, e1, e2, hk⟩
  · obtain ⟨g1, g2, g3⟩ := hno hn
    rw [g1, g2]
    rw [g3] at HF
    clear hno hn g1 g2 g3
    go_enter Try.func42, Try.ntmps42
    go_upto_region 1 with fail
    generalize w.alloc (.cells #[.slice a L.length c] 29) = w1 at *
    go_wp2_with (go_at_call 41; refine HF.out.mono ?_; rintro e w2 ⟨rfl, hb⟩; have B2 := Lib.hid (HB.out.trans (hb.mono HB.out.size)); clear hb)
    go_ret2
    exact ⟨rfl, B2.out⟩
  · have hid : idF (memR L) o = ((j + 1 : Nat) : Int) := by unfold idF; rw [e2, e1]; rfl
    have hop : opE (memR L) o k i = if L[j].1.k = k then (if 0 ≤ i ∧ i < (sizeO L[j].1 : Nat) then 0 else 21) else 20 := by unfold opE; rw [e2]
    have hpl : plV (memR L) o k i = if opE (memR L) o k i = 0 then ((j + 1 : Nat) : Int) else 0 := by unfold plV; rw [e1]
    rw [hid] at HF
    have HPT := Lib.hid (And.intro hpl hop)
    generalize plV (memR L) o k i = pv at *
    generalize opE (memR L) o k i = tv at *
    have hsz := okz_size (HV.out.okz j hj)
    have hsh := okZ_short (HV.out.okz j hj)
    obtain ⟨b, off, c', he, _, hr⟩ := HV.out.at_ j hj
    injection he with d1 d2 d3
    subst d1 d3
    obtain ⟨a1, c1, a2, c2, f1, f2⟩ := hr.ob.form
    have HR : Hid (∀ w', Below (w.alloc (.cells #[.slice (some ⟨b, off, none⟩) L.length c] 29)).heap.size (w.alloc (.cells #[.slice (some ⟨b, off, none⟩) L.length c] 29)) w' → w'.cell? ⟨w.heap.size, 0, none⟩ = some (.slice (some ⟨b, off, none⟩) L.length c) ∧ w'.cell? ⟨b, off + j * 4, none⟩ = some (.int .i64 L[j].1.c) ∧ w'.cell? ⟨b, off + j * 4 + 1, none⟩ = some (.int .i64 L[j].1.k) ∧ w'.cell? ⟨b, off + j * 4 + 2, none⟩ = some (.slice a1 L[j].1.w.length c1) ∧ w'.cell? ⟨b, off + j * 4 + 3, none⟩ = some (.slice a2 L[j].1.b.length c2)) := Lib.hid fun w' hb => by
      have k2 := hr.c2
      have k3 := hr.c3
      rw [f1] at k2
      rw [f2] at k3
      exact ⟨(hb.cell (p := ⟨w.heap.size, 0, none⟩) hlt).trans hx, RowC.next ⟨hr.c0, hr.c1, k2, k3⟩ hb⟩
    have HS := Lib.hid (fun w => size10_any L[j].1 a1 L[j].1.w.length c1 a2 L[j].1.b.length c2 hsh.1 hsh.2 w)
    rw [hsz] at HS
    clear hid hno hop hpl e1 e2 hk hr f1 f2 hsz hsh d2
    obtain ⟨z, hz⟩ : ∃ z : Int, ((j + 1 : Nat) : Int) = z := ⟨_, rfl⟩
    rw [hz] at HF HPT
    have hz0 : (z == 0) = false := by simp; omega
    have hzw : IntKind.i64.wrap (z - 1) = (j : Int) := by rw [IntKind.wrap_i64]; omega
    have hjl : (j : Int) < L.length := by omega
    clear hz
    generalize sizeO L[j].1 = sz at *
    generalize L[j].1.c = oc at *
    generalize L[j].1.k = ok at *
    generalize L[j].1.w.length = nw at *
    generalize L[j].1.b.length = nb at *
    go_enter Try.func42, Try.ntmps42
    go_upto_region 1 with fail
    generalize w.alloc (.cells #[.slice (some ⟨b, off, none⟩) L.length c] 29) = w1 at *
    by_cases hkk : ok = k
    · have dk : (ok != k) = false := by simpa using hkk
      by_cases hi : i < 0
      · have HH := Lib.hid (And.intro hkk hi)
        have di : decide (i < 0) = true := by simpa using hi
        clear hkk hi
        go_wp2_with (first | (go_at_call 41; refine HF.out.mono ?_; rintro e w2 ⟨rfl, hb⟩; have HR2 := Lib.hid (HR.out w2 hb); have B2 := Lib.hid (HB.out.trans (hb.mono HB.out.size)); clear hb; obtain ⟨y0, y1, y2, y3, y4⟩ := HR2.out))
        go_ret2
        have ht : tv = 21 := by have h := HH.out; rw [HPT.out.2, if_pos h.1, if_neg (by omega)]
        have hp : pv = 0 := by rw [HPT.out.1, ht]; rfl
        exact ⟨ret_ii hp.symm ht.symm, B2.out⟩
      · have di : decide (i < 0) = false := by simpa using hi
        by_cases hs : (sz : Int) ≤ i
        · have HH := Lib.hid (And.intro hkk (And.intro hi hs))
          have ds : decide ((sz : Int) ≤ i) = true := by simpa using hs
          clear hkk hi hs
          go_wp2_with (first | (go_at_call 41; refine HF.out.mono ?_; rintro e w2 ⟨rfl, hb⟩; have HR2 := Lib.hid (HR.out w2 hb); have B2 := Lib.hid (HB.out.trans (hb.mono HB.out.size)); clear hb; obtain ⟨y0, y1, y2, y3, y4⟩ := HR2.out) | (go_at_call 65; refine (HS.out _).mono ?_; rintro e w3 ⟨rfl, hb⟩; have B3 := Lib.hid (B2.out.trans (hb.mono B2.out.size)); clear hb))
          go_ret2
          have ht : tv = 21 := by have h := HH.out; rw [HPT.out.2, if_pos h.1, if_neg (by omega)]
          have hp : pv = 0 := by rw [HPT.out.1, ht]; rfl
          exact ⟨ret_ii hp.symm ht.symm, B3.out⟩
        · have HH := Lib.hid (And.intro hkk (And.intro hi hs))
          have ds : decide ((sz : Int) ≤ i) = false := by simpa using hs
          clear hkk hi hs
          go_wp2_with (first | (go_at_call 41; refine HF.out.mono ?_; rintro e w2 ⟨rfl, hb⟩; have HR2 := Lib.hid (HR.out w2 hb); have B2 := Lib.hid (HB.out.trans (hb.mono HB.out.size)); clear hb; obtain ⟨y0, y1, y2, y3, y4⟩ := HR2.out) | (go_at_call 65; refine (HS.out _).mono ?_; rintro e w3 ⟨rfl, hb⟩; have B3 := Lib.hid (B2.out.trans (hb.mono B2.out.size)); clear hb))
          go_ret2
          have ht : tv = 0 := by have h := HH.out; rw [HPT.out.2, if_pos h.1, if_pos (by omega)]
          have hp : pv = z := by rw [HPT.out.1, ht]; exact if_pos rfl
          exact ⟨ret_ii hp.symm ht.symm, B3.out⟩
    · have dk : (ok != k) = true := by simpa using hkk
      have HH := Lib.hid hkk
      clear hkk
      go_wp2_with (first | (go_at_call 41; refine HF.out.mono ?_; rintro e w2 ⟨rfl, hb⟩; have HR2 := Lib.hid (HR.out w2 hb); have B2 := Lib.hid (HB.out.trans (hb.mono HB.out.size)); clear hb; obtain ⟨y0, y1, y2, y3, y4⟩ := HR2.out))
      go_ret2
      have ht : tv = 20 := by have h := HH.out; rw [HPT.out.2, if_neg h]
      have hp : pv = 0 := by rw [HPT.out.1, ht]; rfl
      exact ⟨ret_ii hp.symm ht.symm, B2.out⟩
end Go.Proofs.Ytmaeoefimkppoaa.Fl

/- What 'next' and 'All' of the chapter's memory tell. -/
namespace Go.Proofs.Ytmaeoefimkppoaa.Fl
set_option maxRecDepth 1000000
open Go.ChangeShapes Go.WideShapes Go.ChangeAt Go.RowKit
open Go.Proofs.Ytmaeoefimkppoaa.Wd

theorem nxt_is {E : Mem} {o k : Int} (h1 : namV o < k) (h2 : (at_ E k).isSome = true) (h3 : ∀ i, namV o < i → i < k → at_ E i = none) : nextN E o = 2 * k ∧ nextB E o = true := by
  have hn : nxt E o = some k := by
    unfold nxt
    obtain ⟨xs, ys, he⟩ := List.append_of_mem (mem_ids.2 h2)
    rw [List.find?_eq_some_iff_append]
    refine ⟨by simpa using h1, xs, ys, he, fun a ha => ?_⟩
    have hr := ids_rise E
    rw [he, List.pairwise_append] at hr
    have hak : a < k := hr.2.2 a ha k (by simp)
    have hai : a ∈ ids E := by rw [he]; simp [ha]
    by_cases hh : namV o < a
    · have h4 := mem_ids.1 hai
      rw [h3 a hh hak] at h4
      cases h4
    · simpa using hh
  unfold nextN nextB
  rw [hn]
  exact ⟨rfl, rfl⟩
theorem nxt_no {E : Mem} {o : Int} (h : ∀ i, namV o < i → i ≤ E.length → at_ E i = none) : nextN E o = 0 ∧ nextB E o = false := by
  have hn : nxt E o = none := by
    unfold nxt
    rw [List.find?_eq_none]
    intro i hi
    have h1 := ids_rng hi
    have h2 := mem_ids.1 hi
    by_cases hh : namV o < i
    · rw [h i hh h1.2] at h2
      cases h2
    · simpa using hh
  unfold nextN nextB
  rw [hn]
  exact ⟨rfl, rfl⟩
theorem namV_low (o : Int) : 0 ≤ namV o ∧ namV o ≤ 1073741823 := by
  unfold namV
  split
  · rename_i h; have := nam_rng h; omega
  · omega
def Nx10 (E : Mem) (o : Int) (w : World) (e : Ending) (w' : World) : Prop := e = .returned (.agg #[.int .i64 (nextN E o), .int .i64 0, .int .i64 0, .slice none 0 0, .slice none 0 0, .bool (nextB E o), .int .i64 0]) ∧ Below w.heap.size w w'
theorem mk_next (w : World) (v : Value) : B1 w.heap.size v ((w.alloc (.cells #[v] 29)).alloc (.cells #[.int .i64 0, .int .i64 0, .int .i64 0, .slice none 0 0, .slice none 0 0, .bool false, .int .i64 0] 35)) ∧
    Tb (w.heap.size + 1) t0 ((w.alloc (.cells #[v] 29)).alloc (.cells #[.int .i64 0, .int .i64 0, .int .i64 0, .slice none 0 0, .slice none 0 0, .bool false, .int .i64 0] 35)) ∧
    Below w.heap.size w ((w.alloc (.cells #[v] 29)).alloc (.cells #[.int .i64 0, .int .i64 0, .int .i64 0, .slice none 0 0, .slice none 0 0, .bool false, .int .i64 0] 35)) := by
  have h := tb_new (w.alloc (.cells #[v] 29)) 0 0 0 (.slice none 0 0) (.slice none 0 0) false 0 35
  rw [show (w.alloc (.cells #[v] 29)).heap.size = w.heap.size + 1 by simp] at h
  exact ⟨(b1_new w v 29).next (below_new _ _), h, (below_new _ _).alloc (by simp) _⟩
theorem below7 {B : Nat} {a w : World} {p : Nat} (h : Below B a w) (hp : B ≤ p) (n c k z u b t : Value) :
    Below B a (((((((w.setCell ⟨p, 0, none⟩ n).setCell ⟨p, 1, none⟩ c).setCell ⟨p, 2, none⟩ k).setCell ⟨p, 3, none⟩ z).setCell ⟨p, 4, none⟩ u).setCell ⟨p, 5, none⟩ b).setCell ⟨p, 6, none⟩ t) :=
  ((((((h.setCell (p := ⟨p, 0, none⟩) hp n).setCell (p := ⟨p, 1, none⟩) hp c).setCell (p := ⟨p, 2, none⟩) hp k).setCell (p := ⟨p, 3, none⟩) hp z).setCell (p := ⟨p, 4, none⟩) hp u).setCell (p := ⟨p, 5, none⟩) hp b).setCell (p := ⟨p, 6, none⟩) hp t
set_option maxHeartbeats 2000000 in
theorem next10_ref {N : Nat → Prop} {w : World} {v : Value} {L : List RO} (h : RmV N w v L) (hl : L.length ≤ 1000000) (o : Int) (ho : In64 o) :
    Calls Try.prog 45 #[.agg #[v], .int .i64 o] w (Nx10 (memR L) o w) := by
  have HN := Lib.hid (fun w => named_ref o w ho.1 ho.2)
  obtain ⟨x0, x1, x2⟩ := mk_next w v
  have X0 := Lib.hid x0
  have X1 := Lib.hid x1
  have X2 := Lib.hid x2
  have HV := Lib.hid (h.fresh x2)
  have HLn := Lib.hid (memR_len L)
  obtain ⟨a, c, rfl⟩ := h.form
  obtain ⟨z, hz⟩ : ∃ z, namV o = z := ⟨_, rfl⟩
  obtain ⟨hz0, hz1⟩ := namV_low o
  have HZ := Lib.hid hz
  rw [hz] at HN hz0 hz1
  have hzw : IntKind.i64.wrap (z + 1) = z + 1 := by rw [IntKind.wrap_i64]; omega
  obtain ⟨y0, _, _⟩ := x0
  generalize namB o = nb at *
  unfold Nx10
  clear x1 x2 h hz
  generalize hQN : nextN (memR L) o = qn
  generalize hQB : nextB (memR L) o = qb
  have HQ : Hid ((∀ k, namV o < k → (at_ (memR L) k).isSome = true → (∀ i, namV o < i → i < k → at_ (memR L) i = none) → qn = 2 * k ∧ qb = true) ∧ ((∀ i, namV o < i → i ≤ (memR L).length → at_ (memR L) i = none) → qn = 0 ∧ qb = false)) := Lib.hid ⟨fun k h1 h2 h3 => by rw [← hQN, ← hQB]; exact nxt_is h1 h2 h3, fun h => by rw [← hQN, ← hQB]; exact nxt_no h⟩
  clear hQN hQB
  go_enter Try.func45, Try.ntmps45
  go_upto_region 1 with fail
  generalize (w.alloc (.cells #[.slice a L.length c] 29)).alloc (.cells #[.int .i64 0, .int .i64 0, .int .i64 0, .slice none 0 0, .slice none 0 0, .bool false, .int .i64 0] 35) = w1 at *
  go_wp2_with (go_at_call 52; refine (HN.out _).mono ?_; rintro e w2 ⟨rfl, rfl⟩)
  go_loop [7] (fun s => ∃ k : Int, s = .int .i64 k ∧ z < k ∧ Hid (∀ i, namV o < i → i < k → at_ (memR L) i = none)) (fun s => ((L.length : Int) + 1 - RowKit.intOf s).toNat)
  case atStart => exact ⟨z + 1, rfl, by omega, Lib.hid fun i h1 h2 => by have := HZ.out; omega⟩
  case round =>
    obtain ⟨k, rfl, hk, HA⟩ := hrel
    by_cases hkl : k ≤ L.length
    · have d1 : decide (k ≤ (L.length : Int)) = true := by simpa using hkl
      obtain ⟨j, hj⟩ : ∃ j : Nat, k = ((j + 1 : Nat) : Int) := ⟨(k - 1).toNat, by omega⟩
      have hjl : j < L.length := by omega
      obtain ⟨b, off, c', he, _, hr⟩ := HV.out.at_ j hjl
      injection he with e1 e2 e3
      subst e1 e3
      have q1 := hr.c1
      have hat := memR_at L j hjl
      rw [← hj] at hat
      have hw1 : IntKind.i64.wrap (k - 1) = (j : Int) := by rw [IntKind.wrap_i64]; omega
      have hw2 : IntKind.i64.wrap (k + 1) = k + 1 := by rw [IntKind.wrap_i64]; omega
      have hw3 : IntKind.i64.wrap (2 * k) = 2 * k := by rw [IntKind.wrap_i64]; omega
      have hjl2 : (j : Int) < L.length := by omega
      clear hr e2 hj
      by_cases hkd : L[j].1.k = 0
      · rw [if_pos hkd] at hat
        rw [hkd] at q1
        have HT := Lib.hid hat
        clear hat hkd
        go_wp2
        go_round
        case rel => exact ⟨k + 1, by go_num, by omega, Lib.hid fun i h1 h2 => by
          by_cases e : i = k
          · rw [e]; exact HT.out
          · exact HA.out i h1 (by omega)⟩
        case measure => simp [RowKit.intOf]; omega
      · rw [if_neg hkd] at hat
        have HF := Lib.hid (HQ.out.1 k (by rw [HZ.out]; exact hk) (by rw [hat]; rfl) HA.out)
        have hkd2 : (L[j].1.k != 0) = true := by simpa using hkd
        generalize L[j].1.k = kk at *
        obtain ⟨p0, p1, p2, p3, p4, p5, p6, pf⟩ := X1.out.cz
        clear hat hkd
        go_wp2
        refine bodyPost_ret (res_told rfl rfl (Tb.all X1.out (2 * k) 0 0 (.slice none 0 0) (.slice none 0 0) true 0)) rfl ⟨?_, below7 X2.out (by omega) _ _ _ _ _ _ _⟩
        rw [HF.out.1, HF.out.2]
    · have d1 : decide (k ≤ (L.length : Int)) = false := by simpa using hkl
      have HF := Lib.hid (HQ.out.2 fun i h1 h2 => HA.out i h1 (by have := HLn.out; omega))
      obtain ⟨p0, p1, p2, p3, p4, p5, p6, pf⟩ := X1.out.cz
      go_wp2
      refine bodyPost_ret (res_told rfl rfl (Tb.all X1.out 0 0 0 (.slice none 0 0) (.slice none 0 0) false 0)) rfl ⟨?_, below7 X2.out (by omega) _ _ _ _ _ _ _⟩
      rw [HF.out.1, HF.out.2]
/-- The numbers among the first k that have an object. -/
def idsTo (E : Mem) (k : Nat) : List Int := ((List.range k).map fun j => ((j + 1 : Nat) : Int)).filter fun i => (at_ E i).isSome
theorem idsTo_all (E : Mem) : idsTo E E.length = ids E := rfl
theorem idsTo_next (E : Mem) (k : Nat) : idsTo E (k + 1) = idsTo E k ++ if (at_ E ((k + 1 : Nat) : Int)).isSome = true then [((k + 1 : Nat) : Int)] else [] := by
  unfold idsTo
  rw [List.range_succ, List.map_append, List.filter_append]
  congr 1
  simp only [List.map_cons, List.map_nil, List.filter_cons, List.filter_nil]
theorem idsTo_le (E : Mem) (k : Nat) : (idsTo E k).length ≤ k := by
  unfold idsTo
  refine Nat.le_trans (List.length_filter_le _ _) ?_
  simp
set_option maxHeartbeats 4000000 in
theorem all10_ref {N : Nat → Prop} {w : World} {v : Value} {L : List RO} (h : RmV N w v L) (hl : L.length ≤ 1000000) :
    Calls Try.prog 21 #[.agg #[v]] w (GaveI (twoL (ids (memR L))) w) := by
  have HB := Lib.hid (below_new w (.cells #[v] 29))
  have HV := Lib.hid (h.fresh (below_new w (.cells #[v] 29)))
  have HX := Lib.hid (b1_new w v 29)
  have HLn := Lib.hid (memR_len L)
  have HAll := Lib.hid (idsTo_all (memR L))
  have HLe := Lib.hid (idsTo_le (memR L))
  have HNx := Lib.hid (idsTo_next (memR L))
  obtain ⟨a, c, rfl⟩ := h.form
  obtain ⟨i0, hi, hz0, hz1, hz2⟩ := info_parts Try.info3
  unfold twoL GaveI
  generalize ids (memR L) = ys at *
  clear h
  go_enter Try.func21, Try.ntmps21
  go_upto_region 1 with fail
  generalize w.alloc (.cells #[.slice a L.length c] 29) = w1 at *
  generalize hp : w.heap.size = p at *
  go_wp2
  go_loopw [3, 4] (fun s3 s4 wr => ∃ k : Nat, k ≤ L.length ∧ s4 = .int .i64 ((k : Int) + 1) ∧ wr.ownsRow w1.heap.size 3 1 s3 (idsTo (memR L) k).length (((idsTo (memR L) k).map fun i => 2 * i).map (Value.int .i64)) ∧ Below w1.heap.size w1 wr) (fun _ s4 _ => ((L.length : Int) + 1 - RowKit.intOf s4).toNat)
  case atStart => exact ⟨0, Nat.zero_le _, rfl, World.ownsRow_nil _ _ _ _, Below.refl _ _⟩
  case round =>
    obtain ⟨k, hk, rfl, hown, hb⟩ := hrel
    have B1' := Lib.hid hb
    clear hb
    obtain ⟨y0, _, _⟩ := HX.out.next B1'.out
    obtain ⟨an, cn, rfl⟩ := own_form hown
    by_cases hkl : k < L.length
    · have d1 : decide ((k : Int) + 1 ≤ L.length) = true := by simp; omega
      obtain ⟨b, off, c', he, _, hr⟩ := (HV.out.fresh B1'.out).at_ k hkl
      injection he with e1 e2 e3
      subst e1 e3
      have q1 := hr.c1
      have hat := memR_at L k hkl
      have hn := HNx.out k
      obtain ⟨x, hx⟩ : ∃ x : Int, (k : Int) + 1 = x := ⟨_, rfl⟩
      have hx' : ((k + 1 : Nat) : Int) = x := by omega
      rw [hx] at d1 ⊢
      rw [hx'] at hat hn
      have hw1 : IntKind.i64.wrap (x - 1) = (k : Int) := by rw [IntKind.wrap_i64]; omega
      have hw2 : IntKind.i64.wrap (x + 1) = x + 1 := by rw [IntKind.wrap_i64]; omega
      have hw3 : IntKind.i64.wrap (2 * x) = 2 * x := by rw [IntKind.wrap_i64]; omega
      have hjl2 : (k : Int) < L.length := by omega
      have HX1 := Lib.hid hx
      clear hr e2 hx hx'
      by_cases hkd : L[k].1.k = 0
      · rw [if_pos hkd] at hat
        rw [hat] at hn
        rw [hkd] at q1
        have HO : Hid (wr.ownsRow w1.heap.size 3 1 (.slice an (idsTo (memR L) k).length cn) (idsTo (memR L) (k + 1)).length (((idsTo (memR L) (k + 1)).map fun i => 2 * i).map (Value.int .i64))) := Lib.hid (by
          rw [hn]
          simpa using hown)
        generalize idsTo (memR L) k = zs at *
        clear hat hkd hn hown
        go_wp2
        exact ⟨⟨k + 1, by omega, by have := HX1.out; go_num, HO.out, B1'.out⟩, by have := HX1.out; simp [RowKit.intOf]; omega⟩
      · rw [if_neg hkd] at hat
        rw [hat, if_pos (by rfl)] at hn
        have hkd2 : (L[k].1.k != 0) = true := by simpa using hkd
        have hle := HLe.out k
        have HN2 := Lib.hid hn
        generalize hzs : idsTo (memR L) k = zs at *
        generalize L[k].1.k = kk at *
        clear hat hkd hn hzs
        go_wp2_with (at_builtin; refine wpList_append_own_at _ rfl _ _ 30 rfl w1.heap.size 3 i0 (.int .i64 0) 1 8 Try.underlying30 hi hz0 hz1 hz2 rfl (by decide) _ _ _ rfl (hown.alloc _) ⟨wr.heap.size, 0, none⟩ 1 1 [.int .i64 (2 * x)] rfl rfl ?c1 ?c2 ?c3 ?c4 ?c5 ?_)
        case c1 => exact World.news_of_block (cs := #[.int .i64 (2 * x)]) (t := 3) (fr := (0, 0)) (heap_alloc_new wr _)
        case c2 => intro u hu; simp at hu; subst hu; rfl
        case c3 => unfold maxLen; omega
        case c4 => omega
        case c5 => have := B1'.out.size; simp; omega
        intro v' w3 hown3 hgr3 hnil3 hat3
        have HB3 : Hid (Below w1.heap.size w1 w3) := Lib.hid ((B1'.out.trans ((below_new wr _).mono B1'.out.size)).trans (grown_below hgr3 (fun g hg => (hown.lt g hg).1) (Nat.le_trans B1'.out.size (by simp))))
        have HO : Hid (w3.ownsRow w1.heap.size 3 1 v' (idsTo (memR L) (k + 1)).length (((idsTo (memR L) (k + 1)).map fun i => 2 * i).map (Value.int .i64))) := by
          refine Lib.hid ?_
          rw [HN2.out, List.map_append, List.map_append, List.length_append]
          simpa using hown3
        clear hown3 hgr3 hnil3 hat3 hown
        obtain ⟨an', cn', rfl⟩ := own_form HO.out
        go_wp2_with fail
        exact ⟨⟨k + 1, by omega, by have := HX1.out; go_num, HO.out, HB3.out⟩, by have := HX1.out; simp [RowKit.intOf]; omega⟩
    · have d1 : decide ((k : Int) + 1 ≤ L.length) = false := by simp; omega
      obtain rfl : k = L.length := by omega
      have hAll := HAll.out
      rw [HLn.out] at hAll
      rw [hAll] at hown ⊢
      have HO := Lib.hid hown
      clear hown
      go_wp2
      go_ret
      have HB2 : Below w.heap.size w w1 := by rw [hp]; exact HB.out
      exact ⟨_, rfl, by simpa using own_down HO.out HB2.size, HB2.trans (B1'.out.mono HB2.size)⟩
end Go.Proofs.Ytmaeoefimkppoaa.Fl

/- What the chapter's Copy of an object does: a new object, equal, in rows of its own. -/
namespace Go.Proofs.Ytmaeoefimkppoaa.Fl
set_option maxRecDepth 1000000
open Go.ChangeShapes Go.WideShapes Go.ChangeAt Go.RowKit
open Go.Proofs.Ytmaeoefimkppoaa.Wd

theorem append_nil_ints (w : World) (a : Option Addr) (c : Nat) (l : List Int) (h : Ints w (.slice a l.length c) l) (hl : l.length ≤ 1000000) (ty : TypeId) :
    ∃ v1 w1, (Builtin.append_ #[30, 30] ty #[.slice none 0 0, .slice a l.length c]).run Try.prog w = .ok v1 w1 ∧ w1.ownsRow w.heap.size 3 1 v1 l.length (l.map (Value.int .i64)) ∧ Below w.heap.size w w1 := by
  obtain ⟨i0, hi, hz0, hz1, hz2⟩ := info_parts Try.info3
  obtain ⟨a', c', he, hc⟩ := h
  injection he with e1 _ e3
  subst e1 e3
  rcases a with _ | ad
  · have h0 : l = [] := by
      rcases hc with h | ⟨b, off, ha, _⟩
      · exact h
      · cases ha
    subst h0
    refine ⟨.slice none 0 0, w, ?_, World.ownsRow_nil _ _ _ _, Below.refl _ _⟩
    simp [Builtin.append_, run_underlying Try.underlying30, sizeOf, typeInfo, hi, Builtin.lenOf, Builtin.firstCells]
  · obtain ⟨v1, w1, h1, h2, h3, _, _⟩ := run_append_own_at (P := Try.prog) w w.heap.size 30 ty 3 i0 _ 1 8 Try.underlying30 hi hz0 hz1 hz2 rfl (by decide) (.slice none 0 0) 0 [] (World.ownsRow_nil _ _ _ _) ad l.length c (l.map (Value.int .i64)) (by simp) (fun j u hu => by
      have hj : j < l.length := by
        have := (List.getElem?_eq_some_iff.1 hu).1; simpa using this
      have hu' : u = .int .i64 (l.getD j 0) := by
        have := getD_map (f := Value.int .i64) hj
        rw [hu] at this
        injection this
      rcases hc with h | ⟨b, off, ha, h⟩
      · rw [h] at hj; cases hj
      · injection ha with ha
        subst ha
        rw [add_plain, hu']
        exact h j hj) (fun u hu => by
      obtain ⟨x, _, rfl⟩ := List.mem_map.1 hu; rfl) (by unfold maxLen; omega) (by omega) (Nat.le_refl _)
    refine ⟨v1, w1, h1, by simpa using h2, grown_below h3 (fun g hg => by cases hg) (Nat.le_refl _)⟩
/-- What Copy tells: an object in rows of its own. -/
def RCopy (o : Ob) (w : World) (e : Ending) (w' : World) : Prop :=
  ∃ a1 c1 a2 c2, e = .returned (.agg #[.int .i64 o.c, .int .i64 o.k, .slice a1 o.w.length c1, .slice a2 o.b.length c2]) ∧
    w'.ownsRow w.heap.size 3 1 (.slice a1 o.w.length c1) o.w.length (o.w.map (Value.int .i64)) ∧ w'.ownsRow w.heap.size 5 1 (.slice a2 o.b.length c2) o.b.length (o.b.map (Value.int .u8)) ∧ Below w.heap.size w w'
set_option maxHeartbeats 4000000 in
theorem refcopy_any (v : Value) (o : Ob) (w : World) (h : ObjAt w v o) (h1 : o.w.length ≤ 1000000) (h2 : o.b.length ≤ 1000000) : Calls Try.prog 66 #[v] w (RCopy o w) := by
  obtain ⟨c, k, l, b⟩ := o
  obtain ⟨wv, bv, rfl, hw, hb, hc, hk⟩ := h
  simp only at *
  have W1 := Lib.hid hw
  have Q1 := Lib.hid hb
  obtain ⟨_, _, a1, c1, rfl, _⟩ := hw
  obtain ⟨_, _, a2, c2, rfl, _⟩ := hb
  have X1 := Lib.hid ((box_new w (.int .i64 c) (.int .i64 k) (.slice a1 l.length c1) (.slice a2 b.length c2)).next (w' := (w.alloc (.cells #[.int .i64 c, .int .i64 k, .slice a1 l.length c1, .slice a2 b.length c2] 33)).alloc (.cells #[.int .i64 0, .int .i64 0, .slice none 0 0, .slice none 0 0] 33)) ((Below.refl _ _).alloc (Nat.le_refl _) _))
  have Y1 := Lib.hid (box_new2 w (.cells #[.int .i64 c, .int .i64 k, .slice a1 l.length c1, .slice a2 b.length c2] 33) (.int .i64 0) (.int .i64 0) (.slice none 0 0) (.slice none 0 0))
  have K1 := Lib.hid (bel2 w (.cells #[.int .i64 c, .int .i64 k, .slice a1 l.length c1, .slice a2 b.length c2] 33) (.cells #[.int .i64 0, .int .i64 0, .slice none 0 0, .slice none 0 0] 33))
  have HS : Hid (((w.alloc (.cells #[.int .i64 c, .int .i64 k, .slice a1 l.length c1, .slice a2 b.length c2] 33)).alloc (.cells #[.int .i64 0, .int .i64 0, .slice none 0 0, .slice none 0 0] 33)).heap.size = w.heap.size + 2) := Lib.hid (by simp)
  clear hc hk
  go_enter Try.func66, Try.ntmps66
  go_upto_region 2 with fail
  generalize (w.alloc (.cells #[.int .i64 c, .int .i64 k, .slice a1 l.length c1, .slice a2 b.length c2] 33)).alloc (.cells #[.int .i64 0, .int .i64 0, .slice none 0 0, .slice none 0 0] 33) = w1 at *
  obtain ⟨v2, w2, happ, own2, b2⟩ := append_nil_ints w1 a1 c1 l (W1.out.1.kept K1.out) h1 30
  have HAPP := Lib.hid happ
  have Z2 : Hid (w.heap.size + 2 ≤ w2.heap.size) := Lib.hid (by have := b2.size; have := HS.out; omega)
  have X2 := Lib.hid (X1.out.next b2)
  have Y2 := Lib.hid (Y1.out.next b2)
  have K2 : Hid (Below w.heap.size w w2) := K1.out.trans (b2.mono (by have := HS.out; omega))
  obtain ⟨a3, c3, rfl, _⟩ := own_room own2
  have O3 := Lib.hid (own_set (q := w.heap.size) (j := 2) (u := .slice a3 l.length c3) own2 (by have := HS.out; omega))
  have X3 := Lib.hid (X2.out.put2 (.slice a3 l.length c3))
  have Y3 := Lib.hid (Y2.out.other (g := w.heap.size) (by omega) 2 (.slice a3 l.length c3))
  have K3 := Lib.hid (K2.out.setCell (p := ⟨w.heap.size, 2, none⟩) (Nat.le_refl _) (.slice a3 l.length c3))
  have Z3 : Hid (w.heap.size + 2 ≤ (w2.setCell ⟨w.heap.size, 2, none⟩ (.slice a3 l.length c3)).heap.size) := Lib.hid (by have := Z2.out; simpa [World.setCell] using this)
  obtain ⟨⟨y0, y1, y2, y3⟩, _, _⟩ := X1.out
  obtain ⟨⟨x0, x1, x2, x3⟩, xf, _⟩ := X2.out
  have xf2 := xf 2
  clear xf own2 b2 happ
  go_upto_region 4 with (at_builtin; refine wpList_append_eq _ rfl _ _ 30 rfl _ _ _ _ rfl rfl HAPP.out ?_)
  clear x0 x1 x2 x3 xf2 y0 y1 y2 y3
  have hw2 : w.heap.size + 2 = w1.heap.size := HS.out.symm
  generalize w2.setCell ⟨w.heap.size, 2, none⟩ (.slice a3 l.length c3) = w3 at *
  obtain ⟨⟨x0, x1, x2, x3⟩, _, _⟩ := X3.out
  have HC := Lib.hid (copy_any _ b w3 (Q1.out.1.kept K3.out) h2)
  go_upto_region 4 with fail
  go_wp2_with fail
  refine HC.out.mono ?_
  rintro e w4 ⟨v4, rfl, own4, b4⟩
  have X4 := Lib.hid (X3.out.next b4)
  have Y4 := Lib.hid (Y3.out.next b4)
  have K4 : Hid (Below w.heap.size w w4) := K3.out.trans (b4.mono K3.out.size)
  have O4 := Lib.hid (own_kept (own_down (base' := w.heap.size + 2) O3.out (by omega)) b4)
  have Q4 : Hid (w4.ownsRow (w.heap.size + 2) 5 1 v4 b.length (b.map (Value.int .u8))) := own_down own4 Z3.out
  obtain ⟨a4, c4, rfl, _⟩ := own_room own4
  clear x0 x1 x2 x3 own4 b4
  have X5 := Lib.hid (X4.out.put3 (.slice a4 b.length c4))
  obtain ⟨⟨y0, y1, y2, y3⟩, yf, _⟩ := Y4.out
  obtain ⟨⟨x0, x1, x2, x3⟩, xf, _⟩ := X4.out
  have xf3 := xf 3
  have yf0 := yf 0
  have yf1 := yf 1
  have yf2 := yf 2
  have yf3 := yf 3
  clear xf yf
  go_wp2_with fail
  have Y6 := ((Y4.out.other (g := w.heap.size) (by omega) 3 (.slice a4 b.length c4)).put (.int .i64 c) (.int .i64 k) (.slice a3 l.length c3) (.slice a4 b.length c4))
  have K6 := put_below (x := .int .i64 c) (y := .int .i64 k) (z := .slice a3 l.length c3) (u := .slice a4 b.length c4) (K4.out.setCell (p := ⟨w.heap.size, 3, none⟩) (Nat.le_refl _) (.slice a4 b.length c4)) (p := w.heap.size + 1) (by omega)
  exact bodyPost_ret (res_box rfl rfl Y6) rfl ⟨a3, c3, a4, c4, rfl, own_down (own_set4 (q := w.heap.size + 1) (own_set (q := w.heap.size) O4.out (by omega)) (by omega)) (by omega), own_down (own_set4 (q := w.heap.size + 1) (own_set (q := w.heap.size) Q4.out (by omega)) (by omega)) (by omega), K6⟩
end Go.Proofs.Ytmaeoefimkppoaa.Fl
