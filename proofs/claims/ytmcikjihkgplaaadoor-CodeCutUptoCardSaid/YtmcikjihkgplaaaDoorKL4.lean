/- The walk of CodeCut. -/
import Derived.Test.YtmcikjihkgplaaaDoorKL1
import Derived.Test.YtmcikjihkgplaaaDoorKCh
import Derived.Maps.AppendAt
import Derived.Deep.AppendSrc
namespace Go.Proofs.YtmcikjihkgplaaaDoor
set_option maxRecDepth 1000000
open Go.ChangeShapes Go.WideShapes Go.ChangeAt Go.RowKit

theorem wpList_append_eq {P : Program} (w : World) {ops : Array Oper} {rest : List Oper} {o : Oper} {a : Act} {Q : Exit → Act → World → Prop} (hg : o.guard = none) (s x : Operand) (t : TypeId)
    (hop : o.op = Op.call { callee := Callee.builtin Builtin.append, args := #[s, x], argTypes := #[t, t] }) (vs vx v' : Value) (w' : World) (hs : a.eval s = vs) (hx : a.eval x = vx)
    (hrun : (Builtin.append_ #[t, t] o.type #[vs, vx]).run P w = .ok v' w') (hK : wpList P ops Q rest (a.put o.dst v') w') : wpList P ops Q (o :: rest) a w := by
  refine wpList_plain hg fun K hK' => ?_
  unfold Oper.wp
  simp [execOp, hop, resolve, invoke, builtin, hs, hx, hrun, Result.andThen]
  exact hK' _ _ hK

/-- 'append(u, v...)' where u is one's own. -/
theorem append_bts {N : Nat → Prop} {B : Nat} {w : World} {u v : Value} {xs ys : List Int} (h : OwnB B w u xs) (hv : Bts N w v ys) (hl : xs.length + ys.length ≤ 3000000000000) (hB : B ≤ w.heap.size) (ty : TypeId) :
    ∃ v1 w1, (Builtin.append_ #[22, 22] ty #[u, v]).run Tryd.prog w = .ok v1 w1 ∧ OwnB B w1 v1 (xs ++ ys) ∧ w.grownBy w1 u.ownBlock := by
  obtain ⟨i0, hi, hz0, hz1, hz2⟩ := info_parts Tryd.info5
  obtain ⟨a, c, rfl, hc, hcell⟩ := hv
  rw [List.length_map] at hc ⊢
  rcases a with _ | ad
  · have h0 : ys = [] := by
      rcases hcell with h | ⟨b, off, ha, _⟩
      · exact List.map_eq_nil_iff.1 h
      · cases ha
    subst h0
    refine ⟨u, w, ?_, by rw [List.append_nil]; exact h, ⟨rfl, rfl, rfl, Nat.le_refl _, fun _ _ _ => rfl⟩⟩
    rcases h.2 with ⟨rfl, h0⟩ | ⟨g, cap, cur, rfl, hb2, hg, hn, _⟩
    · simp [Builtin.append_, run_underlying Tryd.underlying22, sizeOf, typeInfo, hi, Builtin.lenOf, Builtin.firstCells]
    · have := run_append_room_src (P := Tryd.prog) (w := w) 22 22 ty 5 i0 Tryd.underlying22 hi g 0 xs.length cap (.slice none 0 c) 0 [] (Src.ofNil _ Tryd.underlying22 c) (by omega) (by simp) (by simp)
      simpa [World.setCells] using this
  · obtain ⟨v1, w1, h1, h2, h3, _, h5⟩ := run_append_own_at (P := Tryd.prog) w B 22 ty 5 i0 _ 1 1 Tryd.underlying22 hi hz0 hz1 hz2 rfl (by decide) u xs.length (xs.map (Value.int .u8)) h ad ys.length c (ys.map (Value.int .u8)) (by simp) (fun j u hu => by
      rcases hcell with h | ⟨b, off, ha, _, h⟩
      · rw [h] at hu; simp at hu
      · cases ha
        rw [add_plain]
        exact h j u hu) (fun u hu => by obtain ⟨n, _, rfl⟩ := List.mem_map.1 hu; rfl) (by unfold maxLen; omega) (by omega) hB
    exact ⟨v1, w1, h1, by unfold OwnB; rw [List.map_append, List.length_append]; exact h2, h3⟩
theorem ops_take {N : Nat → Prop} {w : World} {g n cap c : Nat} {L M : List OpT} (h : OpsAt N w (.slice (some ⟨g, 0, none⟩) n cap) (L ++ M)) : OpsAt N w (.slice (some ⟨g, 0, none⟩) L.length c) L := by
  obtain ⟨a, c', he, h⟩ := h
  injection he with e1 e2 e3
  subst e1
  refine ⟨_, c, rfl, ?_⟩
  rcases h with h | ⟨b, off, ha, hb, h⟩
  · exact .inl (List.append_eq_nil_iff.1 h).1
  · exact .inr ⟨b, off, ha, hb, fun j o hj => h j o (by rw [List.getElem?_append_left (List.getElem?_eq_some_iff.1 hj).1]; exact hj)⟩
theorem ops_drop {N : Nat → Prop} {w : World} {g n cap c k : Nat} {L M : List OpT} (h : OpsAt N w (.slice (some ⟨g, 0, none⟩) n cap) (L ++ M)) (hk : k = L.length * 4 ∨ M = []) : OpsAt N w (.slice (some ⟨g, k, none⟩) M.length c) M := by
  obtain ⟨a, c', he, h⟩ := h
  injection he with e1 e2 e3
  subst e1
  refine ⟨_, c, rfl, ?_⟩
  by_cases h0 : M = []
  · exact .inl h0
  · obtain rfl : k = L.length * 4 := hk.resolve_right h0
    rcases h with h | ⟨b, off, ha, hb, h⟩
    · exact .inl (List.append_eq_nil_iff.1 h).2
    · injection ha with ha
      injection ha with e1 e2 _
      subst e1 e2
      refine .inr ⟨g, _, rfl, hb, fun j o hj => ?_⟩
      have := h (L.length + j) o (by rw [List.getElem?_append_right (by omega), show L.length + j - L.length = j by omega]; exact hj)
      rwa [show 0 + (L.length + j) * 4 = L.length * 4 + j * 4 by omega] at this
theorem drew_then2 {W w w' : World} {a : Nat} (h : Below W.heap.size W w) (k : Below (w.drewN a).heap.size (w.drewN a) w') : Below W.heap.size W w' :=
  Below.trans (b := w.drewN a) ⟨h.os, h.tape, h.output, h.size, h.block⟩ (k.mono h.size)
theorem ch_both (A B : List Int) (h : (allO A).2 = 0) : allO (A ++ B) = (if (allO B).2 = 0 then (allO A).1 ++ (allO B).1 else [], (allO B).2) := by
  obtain ⟨R, hR, r1, _⟩ := allO_ch A
  obtain ⟨M, hM, m1, m2⟩ := allO_ch B
  rw [ch_allO (ch_append hR h hM), r1 h]
  by_cases e : (allO B).2 = 0
  · rw [if_pos e, if_pos e, m1 e]
  · rw [if_neg e, if_neg e]
set_option maxHeartbeats 8000000 in
theorem codeCut_walk {N M : Nat → Prop} (W : World) (hT : Tabs W) (v1 v2 : Value) (A B : List Int) (h1 : Bts N W v1 A) (b1 : Bytes A) (l1 : A.length ≤ 1000000000000) (h2 : Bts M W v2 B) (b2 : Bytes B) (l2 : B.length ≤ 1000000000000) :
    Calls Tryd.prog 9 #[v1, v2] W fun e W' => e = .returned (.bool true) ∧ Below W.heap.size W W' := by
  have HT := Lib.hid hT
  have HK := Lib.hid (fun w' (h : Below W.heap.size W w') => known_any w' (hT.next h))
  clear hT
  have A1 := Lib.hid (all_code v1 A W HT.out h1 b1 l1)
  have A2 := Lib.hid (fun (w' : World) (h : Below W.heap.size W w') => all_code v2 B w' (HT.out.next h) (h2.next h) b2 l2)
  have A3 := Lib.hid (fun (w' : World) (v : Value) (K : Nat → Prop) (hw : Below W.heap.size W w') (h : Bts K w' v (A ++ B)) => all_code v (A ++ B) w' (HT.out.next hw) h (fun n hn => by rcases List.mem_append.1 hn with h | h; exact b1 n h; exact b2 n h))
  have LA := Lib.hid (allO_len A)
  have LB := Lib.hid (allO_len B)
  obtain ⟨na, hna⟩ : ∃ n, A.length = n := ⟨_, rfl⟩
  obtain ⟨nb, hnb⟩ : ∃ n, B.length = n := ⟨_, rfl⟩
  have HNA := Lib.hid hna
  have HNB := Lib.hid hnb
  have H1 := Lib.hid h1
  have H2 := Lib.hid h2
  have HB2 := Lib.hid (ch_both A B)
  unfold AllPost at A1 A2 A3
  obtain ⟨a1, c1, rfl, _⟩ := Bts.form h1
  obtain ⟨a2, c2, rfl, _⟩ := Bts.form h2
  rw [hna] at l1 H1 A1 LA ⊢
  rw [hnb] at l2 H2 A2 LB ⊢
  generalize (allO A).1 = L at *
  generalize (allO A).2 = ea at *
  generalize (allO B).1 = Q at *
  generalize (allO B).2 = eb at *
  clear h1 h2 b1 b2 hna hnb
  go_enter Tryd.func9, Tryd.ntmps9
  go_upto_region 2 with (go_at_call 14; refine A1.out.mono ?_; rintro e w1 ⟨v5, rfl, o5, hb1⟩)
  have K1 := Lib.hid hb1
  go_upto_region 3 with (go_at_call 14; refine (A2.out _ K1.out).mono ?_; rintro e w2 ⟨v7, rfl, o7, hb2⟩)
  have K2 := Lib.hid (K1.out.trans (hb2.mono K1.out.size))
  have O5 := Lib.hid (OwnL.next o5 hb2)
  have O7 := Lib.hid o7
  obtain ⟨x5, c5, rfl⟩ : ∃ x c, v5 = .slice x L.length c := own_form o5
  obtain ⟨x7, c7, rfl⟩ : ∃ x c, v7 = .slice x Q.length c := own_form o7
  clear o5 o7 hb1 hb2 A1 A2
  obtain ⟨nl, hnl⟩ : ∃ n, L.length = n := ⟨_, rfl⟩
  obtain ⟨nq, hnq⟩ : ∃ n, Q.length = n := ⟨_, rfl⟩
  have HNL := Lib.hid hnl
  have HNQ := Lib.hid hnq
  rw [hnl] at LA ⊢
  rw [hnq] at LB ⊢
  clear hnl hnq
  have hla := LA.out
  have hlb := LB.out
  by_cases hlt : 2000 < na + nb
  · have d1 : decide ((2000 : Int) < (na : Int) + nb) = true := by simpa using (by omega : (2000 : Int) < (na : Int) + nb)
    go_wp2_with (go_at_call 11; refine (HK.out _ (K2.out)).mono ?_; rintro e w3 ⟨rfl, hb3⟩)
    all_goals go_ret
    all_goals exact ⟨rfl, K2.out.trans (hb3.mono K2.out.size)⟩
  · have d1 : decide ((2000 : Int) < (na : Int) + nb) = false := by simpa using (by omega : ¬ (2000 : Int) < (na : Int) + nb)
    by_cases he : ea = 0
    · subst he
      obtain ⟨v3, w3, hap3, ow3, hg3⟩ := append_bts (B := w2.heap.size) (u := .slice none 0 0) (xs := []) (World.ownsRow_nil _ _ _ _) (H1.out.next K2.out) (by rw [HNA.out]; simp; omega) (Nat.le_refl _) 22
      have K3 : Hid (Below w2.heap.size w2 w3) := Lib.hid ((Below.refl w2.heap.size w2).grown hg3 (Nat.le_refl _) fun g hg => by cases hg)
      obtain ⟨v4, w4, hap4, ow4, hg4⟩ := append_bts (B := w2.heap.size) ow3 (H2.out.next (K2.out.trans (K3.out.mono K2.out.size))) (by rw [HNB.out]; simp [HNA.out]; omega) K3.out.size 22
      have K4 : Hid (Below w2.heap.size w2 w4) := Lib.hid (K3.out.grown hg4 K3.out.size fun g hg => (World.ownsRow.lt ow3 g hg).1)
      have HA := Lib.hid (A3.out w4 v4 _ (K2.out.trans (K4.out.mono K2.out.size)) (OwnB.bts (by simpa using ow4)) (by rw [List.length_append, HNA.out, HNB.out]; omega))
      rw [HB2.out rfl] at HA
      obtain ⟨z3, d3, rfl⟩ : ∃ x c, v3 = .slice x _ c := own_form ow3
      obtain ⟨z4, d4, rfl⟩ : ∃ x c, v4 = .slice x _ c := own_form ow4
      clear ow3 ow4 hg3 hg4 A3 HB2 H1 H2
      have q3 : (([] : List Int) ++ A).length = na := HNA.out
      have q4 : (([] : List Int) ++ A ++ B).length = na + nb := by rw [List.length_append, HNB.out]; show A.length + nb = _; rw [HNA.out]
      rw [q3] at hap3 hap4
      rw [q4] at hap4 HA
      clear q3 q4
      have HAP3 := Lib.hid hap3
      have HAP4 := Lib.hid hap4
      clear hap3 hap4
      by_cases heb : eb = 0
      · subst heb
        simp only [if_true] at HA
        go_upto_region 6 with fail
        go_upto_region 7 with (at_builtin; refine wpList_append_eq _ rfl _ _ 22 rfl _ _ _ _ rfl rfl HAP3.out ?_)
        clear HAP3
        go_upto_region 8 with (at_builtin; refine wpList_append_eq _ rfl _ _ 22 rfl _ _ _ _ rfl rfl HAP4.out ?_)
        clear HAP4
        go_upto_region 9 with (go_at_call 14; refine HA.out.mono ?_; rintro e w5 ⟨v8, rfl, o8, hb5⟩)
        have K5 := Lib.hid (K4.out.trans (hb5.mono K4.out.size))
        have S1 := Lib.hid (OwnL.ops (OwnL.next O5.out K5.out))
        have S2 := Lib.hid (OwnL.ops (OwnL.next O7.out K5.out))
        have S8 := Lib.hid (OwnL.ops o8)
        have KW := Lib.hid (K2.out.trans (K5.out.mono K2.out.size))
        have hlen : (L ++ Q).length = nl + nq := by rw [List.length_append, HNL.out, HNQ.out]
        have hl1 : Hid (L.length ≤ 1000000000000) := Lib.hid (by rw [HNL.out]; omega)
        have hl2 : Hid (Q.length ≤ 1000000000000) := Lib.hid (by rw [HNQ.out]; omega)
        rcases o8.2 with ⟨rfl, h0⟩ | ⟨g, cap, cur, rfl, _, _, hcap, _⟩
        · rw [hlen] at h0
          obtain ⟨rfl, rfl⟩ : nl = 0 ∧ nq = 0 := by omega
          have e1 : L = [] := List.eq_nil_of_length_eq_zero HNL.out
          have e2 : Q = [] := List.eq_nil_of_length_eq_zero HNQ.out
          subst e1 e2
          have R1 : Hid (∀ w', Below w5.heap.size w5 w' → Calls Tryd.prog 16 #[.slice none 0 0, .slice x5 0 c5] w' fun e w'' => e = .returned (.bool true) ∧ ∃ d, w'' = w'.drewN d) := Lib.hid fun w' h => by
            have := sameL_ref (N := fun _ => True) (.slice none 0 0) (.slice x5 0 c5) [] [] w' ⟨none, 0, rfl, .inl rfl⟩ (S1.out.next h) (by simp) (by simp)
            simpa using this
          have R2 : Hid (∀ w', Below w5.heap.size w5 w' → Calls Tryd.prog 16 #[.slice none 0 0, .slice x7 0 c7] w' fun e w'' => e = .returned (.bool true) ∧ ∃ d, w'' = w'.drewN d) := Lib.hid fun w' h => by
            have := sameL_ref (N := fun _ => True) (.slice none 0 0) (.slice x7 0 c7) [] [] w' ⟨none, 0, rfl, .inl rfl⟩ (S2.out.next h) (by simp) (by simp)
            simpa using this
          clear o8 h0 hlen hb5 S1 S2 S8
          go_wp2_with (first | (go_at_call 16; (with_reducible refine (R1.out w5 (Below.refl _ _)).mono ?_); rintro e w6 ⟨rfl, d, rfl⟩) | (go_at_call 16; (with_reducible refine (R2.out (w5.drewN d) (below_drewN _ _ _)).mono ?_); rintro e w7 ⟨rfl, d2, rfl⟩) | (go_at_call 11; refine (HK.out _ (KW.out.trans (below_drewN _ _ _))).mono ?_; rintro e w8 ⟨rfl, hb8⟩))
          all_goals go_ret
          all_goals exact ⟨rfl, drew_then2 KW.out hb8⟩
        · rw [hlen] at hcap ⊢
          have R1 : Hid (∀ w', Below w5.heap.size w5 w' → Calls Tryd.prog 16 #[.slice (some ⟨g, 0, none⟩) nl cap, .slice x5 nl c5] w' fun e w'' => e = .returned (.bool true) ∧ ∃ d, w'' = w'.drewN d) := Lib.hid fun w' h => by
            have h8 := S8.out.next h
            have := sameL_ref _ _ L L w' (ops_take (c := cap) h8) (S1.out.next h) hl1.out hl1.out
            rw [HNL.out] at this
            simpa using this
          have R2 : Hid (∀ w' k c', Below w5.heap.size w5 w' → k = nl * 4 ∨ nq = 0 → Calls Tryd.prog 16 #[.slice (some ⟨g, k, none⟩) nq c', .slice x7 nq c7] w' fun e w'' => e = .returned (.bool true) ∧ ∃ d, w'' = w'.drewN d) := Lib.hid fun w' k c' h hk => by
            have h8 := S8.out.next h
            have := sameL_ref _ _ Q Q w' (ops_drop (c := c') (k := k) h8 (hk.imp (fun e => by rw [HNL.out]; exact e) (fun e => List.eq_nil_of_length_eq_zero (HNQ.out.trans e)))) (S2.out.next h) hl2.out hl2.out
            rw [HNQ.out] at this
            simpa using this
          clear o8 hlen hb5 S1 S2 S8
          by_cases hcn : cap = nl
          · obtain rfl : nq = 0 := by omega
            subst hcn
            go_wp2_with (first | (go_at_call 16; (with_reducible refine (R1.out w5 (Below.refl _ _)).mono ?_); rintro e w6 ⟨rfl, d, rfl⟩) | (go_at_call 16; (with_reducible refine (R2.out (w5.drewN d) 0 0 (below_drewN _ _ _) (by simp)).mono ?_); rintro e w7 ⟨rfl, d2, rfl⟩) | (go_at_call 11; refine (HK.out _ (KW.out.trans (below_drewN _ _ _))).mono ?_; rintro e w8 ⟨rfl, hb8⟩))
            all_goals go_ret
            all_goals exact ⟨rfl, drew_then2 KW.out hb8⟩
          · go_wp2_with (first | (go_at_call 16; (with_reducible refine (R1.out w5 (Below.refl _ _)).mono ?_); rintro e w6 ⟨rfl, d, rfl⟩) | (go_at_call 16; (with_reducible refine (R2.out (w5.drewN d) (nl * 4) (cap - nl) (below_drewN _ _ _) (.inl rfl)).mono ?_); rintro e w7 ⟨rfl, d2, rfl⟩) | (go_at_call 11; refine (HK.out _ (KW.out.trans (below_drewN _ _ _))).mono ?_; rintro e w8 ⟨rfl, hb8⟩))
            all_goals go_ret
            all_goals exact ⟨rfl, drew_then2 KW.out hb8⟩
      · have f1 : (eb == 0) = false := by simpa using heb
        have f2 : (eb == eb) = true := by simp
        rw [if_neg heb] at HA
        go_upto_region 6 with fail
        go_upto_region 7 with (at_builtin; refine wpList_append_eq _ rfl _ _ 22 rfl _ _ _ _ rfl rfl HAP3.out ?_)
        clear HAP3
        go_upto_region 8 with (at_builtin; refine wpList_append_eq _ rfl _ _ 22 rfl _ _ _ _ rfl rfl HAP4.out ?_)
        clear HAP4
        go_upto_region 9 with (go_at_call 14; refine HA.out.mono ?_; rintro e w5 ⟨v8, rfl, o8, hb5⟩)
        obtain ⟨x8, c8, rfl⟩ : ∃ x c, v8 = .slice x _ c := own_form o8
        have KW := Lib.hid (K2.out.trans ((K4.out.trans (hb5.mono K4.out.size)).mono K2.out.size))
        clear o8 hb5 HA heb
        simp only [List.length_nil]
        go_wp2_with (go_at_call 11; refine (HK.out _ (KW.out)).mono ?_; rintro e w8 ⟨rfl, hb8⟩)
        all_goals go_ret
        all_goals exact ⟨rfl, KW.out.trans (hb8.mono KW.out.size)⟩
    · have f1 : (ea == 0) = false := by simpa using he
      go_wp2_with (go_at_call 11; refine (HK.out _ (K2.out)).mono ?_; rintro e w3 ⟨rfl, hb3⟩)
      all_goals go_ret
      all_goals exact ⟨rfl, K2.out.trans (hb3.mono K2.out.size)⟩
end Go.Proofs.YtmcikjihkgplaaaDoor
