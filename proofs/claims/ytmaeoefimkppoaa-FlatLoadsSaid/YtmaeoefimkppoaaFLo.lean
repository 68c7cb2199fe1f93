/- 'Load' of package flat, and the walk of FlatLoads. -/
import Derived.Test.YtmaeoefimkppoaaFLd
namespace Go.Proofs.Ytmaeoefimkppoaa.Fl
set_option maxRecDepth 1000000
open Go.ChangeShapes Go.WideShapes Go.ChangeAt Go.RowKit
open Go.Proofs.Ytmaeoefimkppoaa.Wd

set_option maxHeartbeats 1000000 in
theorem refused_any {w : World} (x : Ob) (a1 : Option Addr) (n1 c1 : Nat) (a2 : Option Addr) (n2 c2 : Nat) (h : ObjAt w (.agg #[.int .i64 x.c, .int .i64 x.k, .slice a1 n1 c1, .slice a2 n2 c2]) x) :
    Calls Try.prog 53 #[.agg #[.int .i64 x.c, .int .i64 x.k, .slice a1 n1 c1, .slice a2 n2 c2]] w fun e w' => e = .returned (.bool (!okO x)) ∧ Below w.heap.size w w' := by
  have HC : Hid (Calls Try.prog 54 #[.agg #[.int .i64 x.c, .int .i64 x.k, .slice a1 n1 c1, .slice a2 n2 c2]] (w.alloc (.cells #[.int .i64 x.c, .int .i64 x.k, .slice a1 n1 c1, .slice a2 n2 c2] 33)) fun e w' => e = .returned (.int .i64 (chk x)) ∧ Below w.heap.size w w') := Lib.hid ((check_all _ x _ (h.kept (below_new _ _))).mono fun e w' ⟨he, hb⟩ => ⟨he, (below_new _ _).trans (hb.mono (by simp))⟩)
  unfold chk at HC
  clear h
  cases hk : okO x with
  | true =>
    rw [hk, if_pos rfl] at HC
    clear hk
    go_enter Try.func53, Try.ntmps53
    go_wp2_with (go_at_call 54; refine HC.out.mono ?_; rintro e w2 ⟨rfl, hb⟩; have B2 := Lib.hid hb; clear hb)
    go_ret
    exact ⟨rfl, B2.out⟩
  | false =>
    rw [hk, if_neg Bool.false_ne_true] at HC
    clear hk
    go_enter Try.func53, Try.ntmps53
    go_wp2_with (go_at_call 54; refine HC.out.mono ?_; rintro e w2 ⟨rfl, hb⟩; have B2 := Lib.hid hb; clear hb)
    go_ret
    exact ⟨rfl, B2.out⟩
theorem any_none {L : List Ob} (h : ∀ j (hj : j < L.length), okO L[j] = true) : L.any (fun x => !okO x) = false := by
  rw [List.any_eq_false]
  intro x hx
  obtain ⟨j, hj, rfl⟩ := List.mem_iff_getElem.1 hx
  simp [h j hj]
theorem any_some {L : List Ob} {j : Nat} (hj : j < L.length) (h : okO L[j] = false) : L.any (fun x => !okO x) = true := by
  rw [List.any_eq_true]
  exact ⟨L[j], List.getElem_mem _, by simp [h]⟩
/-- The closure that Load hands on. -/
abbrev fn53 : Value := .func (.func 53) #[] #[]
set_option maxHeartbeats 1000000 in
theorem index_any {W w : World} (v : Value) (L : List Ob) (h : Objs W v L) (hb : Below W.heap.size W w) :
    Calls Try.prog 72 #[v, fn53] w fun e w' => (∃ r : Int, e = .returned (.int .i64 r) ∧ decide (0 ≤ r) = L.any (fun x => !okO x)) ∧ Below w.heap.size w w' := by
  have HB := Lib.hid hb
  have HO := Lib.hid h
  obtain ⟨a, c, rfl, hmax, _⟩ := h
  have hml : L.length ≤ 9223372036854775807 := hmax
  obtain ⟨n, hn⟩ : ∃ n, L.length = n := ⟨_, rfl⟩
  have HN := Lib.hid hn
  rw [hn] at hml ⊢
  clear hb hmax hn
  go_enter Try.func72, Try.ntmps72
  go_wp2
  go_loopw [8] (fun s wr => ∃ i : Nat, i ≤ n ∧ s = .int .i64 i ∧ Hid (∀ j (hj : j < L.length), j < i → okO L[j] = true) ∧ Below w.heap.size w wr) (fun s _ => n - (RowKit.intOf s).toNat)
  case atStart => exact ⟨0, Nat.zero_le _, rfl, fun j hj h => absurd h (Nat.not_lt_zero _), Below.refl _ _⟩
  case round =>
    obtain ⟨i, hi, rfl, HG, hb⟩ := hrel
    have B1 := Lib.hid hb
    clear hb
    by_cases hlt : i < n
    · have hiL : i < L.length := by rw [HN.out]; exact hlt
      obtain ⟨b, off, c', he, a1, c1, a2, c2, hat, _⟩ := HO.out.at_ hiL
      injection he with e1 e2 e3
      subst e1 e3
      obtain ⟨x0, x1, x2, x3, hob⟩ := hat wr (HB.out.trans (B1.out.mono HB.out.size))
      have HC := Lib.hid (refused_any L[i] a1 _ c1 a2 _ c2 hob)
      obtain ⟨ok, hok⟩ : ∃ b, okO L[i] = b := ⟨_, rfl⟩
      have HOK := Lib.hid hok
      rw [hok] at HC
      have d1 : decide ((i : Int) < n) = true := by simpa using hlt
      have d2 : decide (i < n) = true := by simpa using hlt
      have hw2 : IntKind.i64.wrap ((i : Int) + 1) = (i : Int) + 1 := by rw [IntKind.wrap_i64]; omega
      clear e2 hat hob hok
      generalize L[i].c = oc at *
      generalize L[i].k = okk at *
      generalize L[i].w.length = n1 at *
      generalize L[i].b.length = n2 at *
      cases ok with
      | true =>
        go_wp2_with (go_at_call 53; refine HC.out.mono ?_; rintro e w2 ⟨rfl, hb2⟩; have B2 := Lib.hid (B1.out.trans (hb2.mono B1.out.size)); clear hb2)
        refine ⟨⟨i + 1, by omega, by go_num, fun j hj hji => ?_, B2.out⟩, by simp [RowKit.intOf]; omega⟩
        by_cases e : j = i
        · subst e; exact HOK.out
        · exact HG.out j hj (by omega)
      | false =>
        go_wp2_with (go_at_call 53; refine HC.out.mono ?_; rintro e w2 ⟨rfl, hb2⟩; have B2 := Lib.hid (B1.out.trans (hb2.mono B1.out.size)); clear hb2)
        go_ret
        refine ⟨⟨i, rfl, ?_⟩, B2.out⟩
        rw [any_some hiL HOK.out]
        simp
    · obtain rfl : n = i := by omega
      have d1 : decide ((n : Int) < n) = false := by simp
      have d2 : decide (n < n) = false := by simp
      go_wp2
      go_ret
      refine ⟨⟨-1, rfl, ?_⟩, B1.out⟩
      rw [any_none fun j hj => HG.out j hj (by rw [← HN.out]; exact hj)]
      rfl
set_option maxHeartbeats 1000000 in
theorem contains_any {W w : World} (v : Value) (L : List Ob) (h : Objs W v L) (hb : Below W.heap.size W w) :
    Calls Try.prog 55 #[v, fn53] w fun e w' => e = .returned (.bool (L.any (fun x => !okO x))) ∧ Below w.heap.size w w' := by
  have HI := Lib.hid (index_any v L h hb)
  generalize L.any (fun x => !okO x) = t at *
  clear h hb
  go_enter Try.func55, Try.ntmps55
  go_wp2_with fail
  refine HI.out.mono ?_
  rintro e w2 ⟨⟨r, rfl, hr⟩, hb⟩
  have HR := Lib.hid hr
  have B2 := Lib.hid hb
  clear hr hb
  go_wp2
  go_ret
  exact ⟨by rw [← HR.out]; rfl, B2.out⟩
/-- What Load leaves: nothing, or all. -/
def LoadE (E : Mem) (L : List Ob) : Int := if E.length = 0 ∧ L.any (fun x => !okO x) = false then 0 else 2
def LoadF (E : Mem) (L : List Ob) : Mem := if E.length = 0 ∧ L.any (fun x => !okO x) = false then L.map some else E
theorem take_map {L : List Ob} {i : Nat} (hi : i < L.length) : (L.take (i + 1)).map some = (L.take i).map some ++ [some L[i]] := by
  rw [List.take_succ_eq_append_getElem hi, List.map_append]; rfl
set_option maxHeartbeats 2000000 in
theorem loads_any {W w : World} {K : Nat → Prop} {m : Nat} {E : Mem} (hm : MemB K w m E) (hK : ∀ g, g < W.heap.size → K g) (v : Value) (L : List Ob) (h : Objs W v L) (hb : Below W.heap.size W w) (hl : L.length ≤ 1000) :
    Calls Try.prog 27 #[ifM m, v] w fun e w' => e = .returned (.int .i64 (LoadE E L)) ∧ MemB K w' m (LoadF E L) ∧ Keeps K w w' := by
  have HM := Lib.hid hm
  have HB := Lib.hid hb
  have HO := Lib.hid h
  have HK := Lib.hid hK
  have HC := Lib.hid (fun w' (b : Below w.heap.size w w') => contains_any v L h (hb.trans (b.mono hb.size)))
  have HMd : Hid (Calls Try.prog 18 #[.pointer (some ⟨m, 0, none⟩)] w fun e w' => e = .returned (.int .i64 (E.length : Nat)) ∧ w = w') := Lib.hid (made_any hm)
  obtain ⟨q, hq⟩ : ∃ q, E.length = q := ⟨_, rfl⟩
  have HQ := Lib.hid hq
  rw [hq] at HMd
  obtain ⟨a, c, rfl, _, _⟩ := h
  clear hm hb hK hq
  by_cases h0 : q = 0
  · subst h0
    obtain ⟨t, ht⟩ : ∃ t, L.any (fun x => !okO x) = t := ⟨_, rfl⟩
    have HT := Lib.hid ht
    rw [ht] at HC
    have hE : E = [] := List.eq_nil_of_length_eq_zero HQ.out
    cases t with
    | true =>
      have r1 : LoadE E L = 2 := by unfold LoadE; rw [if_neg fun e => by rw [ht] at e; cases e.2]
      have r2 : LoadF E L = E := by unfold LoadF; rw [if_neg fun e => by rw [ht] at e; cases e.2]
      rw [r1, r2]
      clear r1 r2 ht hE
      go_enter Try.func27, Try.ntmps27
      go_wp2_with (first | (go_at_call 47; refine (some_any _ _).mono ?_; rintro e' w1 ⟨rfl, rfl⟩) | (go_at_call 18; refine HMd.out.mono ?_; rintro e w1 ⟨rfl, rfl⟩) | (go_at_call 55; refine (HC.out _ (Below.refl _ _)).mono ?_; rintro e w2 ⟨rfl, hb2⟩; have B2 := Lib.hid hb2; clear hb2))
      go_ret
      exact ⟨rfl, HM.out.fresh B2.out, Keeps.of_below B2.out⟩
    | false =>
      have r1 : LoadE E L = 0 := by unfold LoadE; rw [if_pos ⟨HQ.out, ht⟩]
      have r2 : LoadF E L = L.map some := by unfold LoadF; rw [if_pos ⟨HQ.out, ht⟩]
      have HG : Hid (∀ j (hj : j < L.length), okO L[j] = true) := Lib.hid fun j hj => by
        cases e : okO L[j] with
        | true => rfl
        | false => rw [any_some hj e] at ht; cases ht
      rw [r1, r2]
      obtain ⟨n, hn⟩ : ∃ n, L.length = n := ⟨_, rfl⟩
      have HN := Lib.hid hn
      rw [hn] at hl HC ⊢
      clear r1 r2 ht hn
      go_enter Try.func27, Try.ntmps27
      go_wp2_with (first | (go_at_call 47; refine (some_any _ _).mono ?_; rintro e' w1 ⟨rfl, rfl⟩) | (go_at_call 18; refine HMd.out.mono ?_; rintro e w1 ⟨rfl, rfl⟩) | (go_at_call 55; refine (HC.out _ (Below.refl _ _)).mono ?_; rintro e w2 ⟨rfl, hb2⟩; have B2 := Lib.hid hb2; clear hb2))
      have HM2 : Hid (MemB K w2 m []) := Lib.hid (by rw [← hE]; exact HM.out.fresh B2.out)
      clear hE HM HC HMd
      go_loopw [21] (fun s wr => ∃ i : Nat, i ≤ n ∧ s = .int .i64 i ∧ MemB K wr m ((L.take i).map some) ∧ Keeps K w wr) (fun s _ => n - (RowKit.intOf s).toNat)
      case atStart => exact ⟨0, Nat.zero_le _, rfl, HM2.out, Keeps.of_below B2.out⟩
      case round =>
        obtain ⟨i, hi, rfl, hm, hk⟩ := hrel
        have M1 := Lib.hid hm
        have K1 := Lib.hid hk
        clear hm hk
        by_cases hlt : i < n
        · have hiL : i < L.length := by rw [HN.out]; exact hlt
          obtain ⟨b, off, c', he, a1, c1, a2, c2, hat, _⟩ := HO.out.at_ hiL
          injection he with e1 e2 e3
          subst e1 e3
          have HBW : Hid (∀ w', Keeps K w w' → Below W.heap.size W w') := Lib.hid fun w' k => HB.out.trans (k.below HK.out HB.out.size)
          obtain ⟨x0, x1, x2, x3, _⟩ := hat wr (HBW.out _ K1.out)
          have HL1 : Hid (∀ w', Below wr.heap.size wr w' → Calls Try.prog 56 #[ifM m, .agg #[.int .i64 L[i].c, .int .i64 L[i].k, .slice a1 L[i].w.length c1, .slice a2 L[i].b.length c2]] w' fun e w'' => e = .returned (.int .i64 0) ∧ Hid (MemB K w'' m ((L.take (i + 1)).map some)) ∧ Hid (Keeps K w w'')) := Lib.hid fun w' hb' => by
            refine (load_one (M1.out.fresh hb') (by simp; omega) L[i] a1 c1 a2 c2 (HG.out i hiL) fun w'' k => (hat w'' (HBW.out _ (K1.out.trans ((Keeps.of_below hb').trans k)))).2.2.2.2).mono ?_
            rintro e w'' ⟨rfl, hm, hk⟩
            rw [← take_map hiL] at hm
            exact ⟨rfl, hm, K1.out.trans ((Keeps.of_below hb').trans hk)⟩
          have d1 : decide ((i : Int) < n) = true := by simpa using hlt
          have d2 : decide (i < n) = true := by simpa using hlt
          have hw2 : IntKind.i64.wrap ((i : Int) + 1) = (i : Int) + 1 := by rw [IntKind.wrap_i64]; omega
          clear e2 hat HBW
          generalize L[i].c = oc at *
          generalize L[i].k = okk at *
          generalize L[i].w.length = n1 at *
          generalize L[i].b.length = n2 at *
          go_wp2_with (go_at_call 56; refine (HL1.out _ (below_new _ _)).mono ?_; rintro e w4 ⟨rfl, M4, K4⟩)
          exact ⟨⟨i + 1, by omega, by go_num, M4.out, K4.out⟩, by simp [RowKit.intOf]; omega⟩
        · obtain rfl : n = i := by omega
          have d1 : decide ((n : Int) < n) = false := by simp
          have d2 : decide (n < n) = false := by simp
          go_wp2
          go_ret
          refine ⟨rfl, ?_, K1.out⟩
          have := M1.out
          rw [← HN.out, List.take_length] at this
          exact this
  · have r1 : LoadE E L = 2 := by unfold LoadE; rw [if_neg fun e => h0 (by rw [← HQ.out]; exact e.1)]
    have r2 : LoadF E L = E := by unfold LoadF; rw [if_neg fun e => h0 (by rw [← HQ.out]; exact e.1)]
    rw [r1, r2]
    have d1 : ((q : Int) == 0) = false := by simp; omega
    have d2 : ((q : Int) != 0) = true := by simp; omega
    clear r1 r2
    go_enter Try.func27, Try.ntmps27
    go_wp2_with (first | (go_at_call 47; refine (some_any _ _).mono ?_; rintro e' w1 ⟨rfl, rfl⟩) | (go_at_call 18; refine HMd.out.mono ?_; rintro e w1 ⟨rfl, rfl⟩))
    go_ret
    exact ⟨rfl, HM.out, Keeps.refl _ _⟩
end Go.Proofs.Ytmaeoefimkppoaa.Fl
