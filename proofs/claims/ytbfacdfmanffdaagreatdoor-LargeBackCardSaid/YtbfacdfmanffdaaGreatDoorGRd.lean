/- The document's Read. -/
import Derived.Test.YtbfacdfmanffdaaGreatDoorGTx
namespace Go.Proofs.YtbfacdfmanffdaaGreatDoor
set_option maxRecDepth 1000000
open Go.ChangeShapes Go.WideShapes Go.ChangeAt Go.RowKit

instance (xs : List Int) : Decidable (Dec xs) := by unfold Dec; infer_instance
def formB (cs : List Int) : Bool := decide (Dec cs ∧ cs ≠ [] ∧ ¬ (dgt cs 0 = 48 ∧ 1 < cs.length))
def readE (cs : List Int) : Int := if formB cs = true then toldE (dig (dval cs).toNat) else 5
def readO (cs : List Int) : List Int := if formB cs = true then toldO (dig (dval cs).toNat) else []
theorem dval_mono : ∀ (n : Nat) (xs ys : List Int), ys.length = n → Dec (xs ++ ys) → dval xs ≤ dval (xs ++ ys)
  | 0, xs, ys, h, _ => by rw [List.eq_nil_of_length_eq_zero h, List.append_nil]; exact Int.le_refl _
  | n + 1, xs, ys, h, hd => by
    have hne : ys ≠ [] := fun e => by rw [e] at h; cases h
    have e := List.dropLast_concat_getLast hne
    have hd2 : Dec (xs ++ ys.dropLast) := fun c hc => hd c (by
      rcases List.mem_append.1 hc with h' | h'
      · exact List.mem_append.2 (.inl h')
      · exact List.mem_append.2 (.inr (List.dropLast_subset _ h')))
    have h1 := dval_mono n xs ys.dropLast (by rw [List.length_dropLast]; omega) hd2
    have h2 : dval (xs ++ ys) = 10 * dval (xs ++ ys.dropLast) + (ys.getLast hne - 48) := by rw [← dval_snoc, List.append_assoc, e]
    have h3 := hd (ys.getLast hne) (List.mem_append.2 (.inr (List.getLast_mem hne)))
    have h4 := dval_nonneg hd2
    omega
theorem told_full {a b : Int} (h0 : 0 ≤ a) (h : a ≤ b) (hl : ¬ (dig a.toNat).length ≤ 400) : toldE (dig a.toNat) = toldE (dig b.toNat) ∧ toldO (dig a.toNat) = toldO (dig b.toNat) := by
  have hb : ¬ (dig b.toNat).length ≤ 400 := fun hb => hl (by
    rw [dig_len, Int.toNat_of_nonneg (by omega)] at hb
    rw [dig_len, Int.toNat_of_nonneg h0]
    exact Int.lt_of_le_of_lt h hb)
  unfold toldE toldO
  rw [if_neg hl, if_neg hl, if_neg hb, if_neg hb]
  exact ⟨rfl, rfl⟩
theorem str_index (cs : List Int) (hb : Bytes cs) (i : Nat) (hi : i < cs.length) (w : World) : (Instr.index 9 (.string (strOfNums cs)) (.int .i64 i)).run Tryz.prog w = .ok (.int .u8 (dgt cs i)) w := by
  have h := run_index_string (P := Tryz.prog) (w := w) 9 (strOfNums cs) .i64 i Tryz.underlying9
  rw [h, dif_pos ⟨by omega, by rw [strOfNums_size]; omega⟩]
  have hg : ∀ k (hk : k < (strOfNums cs).size), k = i → (((strOfNums cs)[k]'hk).toNat : Int) = dgt cs i := fun k hk e => by
    subst e
    have hr := hb cs[k] (List.getElem_mem hi)
    have e1 : (strOfNums cs)[k]'hk = UInt8.ofNat (cs[k]).toNat := by
      show (strOfNums cs).data[k]'hk = _
      simp [strOfNums]
    rw [e1, UInt8.toNat_ofNat']
    have e2 : dgt cs k = cs[k] := by unfold dgt; rw [List.getD, List.getElem?_eq_getElem hi]; rfl
    rw [e2]
    omega
  rw [hg _ _ (by simp)]
set_option maxHeartbeats 8000000 in
theorem read_ref (cs : List Int) (w : World) (hb : Bytes cs) (hl : cs.length ≤ 1000000) :
    Calls Tryz.prog 12 #[.string (strOfNums cs)] w (NumPost (readE cs) (readO cs) w) := by
  have HIx : Hid (∀ i, i < cs.length → ∀ w, (Instr.index 9 (.string (strOfNums cs)) (.int .i64 i)).run Tryz.prog w = .ok (.int .u8 (dgt cs i)) w) := Lib.hid fun i hi w => str_index cs hb i hi w
  have hsz : (strOfNums cs).size = cs.length := strOfNums_size cs
  have HE1 : Hid ((strOfNums cs).toList = [] ↔ cs = []) := Lib.hid (by rw [str_list]; simp)
  have HBy := Lib.hid hb
  have HRE : Hid ((formB cs = false → readE cs = 5 ∧ readO cs = []) ∧ (formB cs = true → readE cs = toldE (dig (dval cs).toNat) ∧ readO cs = toldO (dig (dval cs).toNat))) := Lib.hid ⟨fun h => ⟨by unfold readE; rw [h]; rfl, by unfold readO; rw [h]; rfl⟩, fun h => ⟨by unfold readE; rw [if_pos h], by unfold readO; rw [if_pos h]⟩⟩
  have HFo : Hid (formB cs = true ↔ (Dec cs ∧ cs ≠ [] ∧ ¬ (dgt cs 0 = 48 ∧ 1 < cs.length))) := Lib.hid (by unfold formB; rw [decide_eq_true_eq])
  have HGet : Hid (∀ i (h : i < cs.length), cs[i] = dgt cs i) := Lib.hid fun i h => by unfold dgt; rw [List.getD, List.getElem?_eq_getElem h]; rfl
  obtain ⟨n, hn⟩ : ∃ n, cs.length = n := ⟨_, rfl⟩
  have HN := Lib.hid hn
  unfold NumPost
  generalize readE cs = re at *
  generalize readO cs = ro at *
  generalize strOfNums cs = st at *
  rw [hn] at hsz HIx hl
  clear hb hn
  go_enter Tryz.func12, Tryz.ntmps12
  go_wp2_with fail
  go_loopw [4] (fun s4 wr => ∃ i : Nat, i ≤ n ∧ s4 = .int .i64 i ∧ Hid (∀ j, j < i → 48 ≤ dgt cs j ∧ dgt cs j ≤ 57) ∧ wr = w) (fun s4 _ => n - (RowKit.intOf s4).toNat)
  case atStart => exact ⟨0, Nat.zero_le _, rfl, Lib.hid (fun j h => by omega), rfl⟩
  case round =>
    obtain ⟨i, hi, rfl, HD, hwr⟩ := hrel
    have hw2 := hwr.symm
    clear hwr
    subst hw2
    by_cases hlt : i < n
    · have d1 : decide ((i : Int) < n) = true := by simpa using hlt
      have d2 : decide (i < n) = true := by simpa using hlt
      have hix := HIx.out i hlt
      have hrc := dgt_rng HBy.out i
      have HNx : Hid (48 ≤ dgt cs i ∧ dgt cs i ≤ 57 → ∀ j, j < i + 1 → 48 ≤ dgt cs j ∧ dgt cs j ≤ 57) := Lib.hid fun h j hj => by
        by_cases e : j = i
        · rw [e]; exact h
        · exact HD.out j (by omega)
      have HBad : Hid (¬ (48 ≤ dgt cs i ∧ dgt cs i ≤ 57) → re = 5 ∧ ro = []) := Lib.hid fun h => HRE.out.1 (by
        rw [Bool.eq_false_iff]
        intro hf
        exact h (by
          have := (HFo.out.1 hf).1 (cs[i]'(by rw [HN.out]; exact hlt)) (List.getElem_mem _)
          rwa [HGet.out i (by rw [HN.out]; exact hlt)] at this))
      generalize dgt cs i = c at *
      have hi0 : (0 : Int) ≤ i := by omega
      have hin : (i : Int) < n := by omega
      by_cases h48 : c < 48
      · have f1 : decide (c < 48) = true := by simpa using h48
        obtain ⟨rfl, rfl⟩ := HBad.out (by omega)
        clear HIx HD HNx HBad HRE HFo h48
        go_wp2_with fail
        go_ret2
        exact ⟨_, rfl, World.ownsRow_nil _ _ _ _, Below.refl _ _⟩
      · have f1 : decide (c < 48) = false := by simpa using h48
        by_cases h57 : 57 < c
        · have f2 : decide (57 < c) = true := by simpa using h57
          obtain ⟨rfl, rfl⟩ := HBad.out (by omega)
          clear HIx HD HNx HBad HRE HFo h48 h57
          go_wp2_with fail
          go_ret2
          exact ⟨_, rfl, World.ownsRow_nil _ _ _ _, Below.refl _ _⟩
        · have f2 : decide (57 < c) = false := by simpa using h57
          have HN' := Lib.hid (HNx.out ⟨by omega, by omega⟩)
          clear HIx HD HNx HBad HRE HFo h48 h57
          go_wp2_with fail
          exact ⟨⟨i + 1, by omega, by go_num, HN', by trivial⟩, by simp [RowKit.intOf]; omega⟩
    · have hi' : i = n := by omega
      have d1 : decide ((i : Int) < n) = false := by simp [hi']
      have d2 : decide (i < n) = false := by simp [hi']
      have HDec : Hid (Dec cs) := Lib.hid fun c hc => by
        obtain ⟨j, hj, rfl⟩ := List.mem_iff_getElem.1 hc
        rw [HGet.out j hj]
        exact HD.out j (by rw [hi', ← HN.out]; exact hj)
      clear HD
      by_cases h0 : n = 0
      · have t1 : st.toList = [] := HE1.out.2 (List.eq_nil_of_length_eq_zero (by rw [HN.out]; exact h0))
        obtain ⟨rfl, rfl⟩ := HRE.out.1 (by
          rw [Bool.eq_false_iff]
          intro hf
          exact (HFo.out.1 hf).2.1 (List.eq_nil_of_length_eq_zero (by rw [HN.out]; exact h0)))
        clear HRE HFo HE1 hi' hlt hi h0 HIx
        go_wp2_with fail
        go_ret2
        exact ⟨_, rfl, World.ownsRow_nil _ _ _ _, Below.refl _ _⟩
      · have hne : cs ≠ [] := fun e => h0 (by rw [← HN.out, e]; rfl)
        have t1 : ¬ st.toList = [] := fun e => hne (HE1.out.1 e)
        have t2 : st.toList.isEmpty = false := by rw [List.isEmpty_eq_false_iff]; exact t1
        have hix0 := HIx.out 0 (by omega)
        simp only [Int.natCast_zero] at hix0
        have HB48 : Hid (dgt cs 0 = 48 ∧ 1 < n → re = 5 ∧ ro = []) := Lib.hid fun h => HRE.out.1 (by
          rw [Bool.eq_false_iff]
          intro hf
          exact (HFo.out.1 hf).2.2 (by rw [HN.out]; exact h))
        have HG48 : Hid (¬ (dgt cs 0 = 48 ∧ 1 < n) → re = toldE (dig (dval cs).toNat) ∧ ro = toldO (dig (dval cs).toNat)) := Lib.hid fun h => HRE.out.2 (HFo.out.2 ⟨HDec.out, hne, by rw [HN.out]; exact h⟩)
        obtain ⟨c0, hc0⟩ : ∃ c, dgt cs 0 = c := ⟨_, rfl⟩
        rw [hc0] at hix0 HB48 HG48
        have h0n : (0 : Int) < n := by omega
        clear HRE HFo HE1 hi' hlt hi hc0 hne
        by_cases hbad : c0 = 48 ∧ 1 < n
        · obtain ⟨rfl, rfl⟩ := HB48.out hbad
          obtain ⟨rfl, h1⟩ := hbad
          have f1 : decide ((1 : Int) < n) = true := by simp; omega
          have f2 : decide (1 < n) = true := by simpa using h1
          clear HB48 HG48 HIx
          go_wp2_with fail
          go_ret2
          exact ⟨_, rfl, World.ownsRow_nil _ _ _ _, Below.refl _ _⟩
        · have HR := Lib.hid (HG48.out hbad)
          have HV0 : Hid (∀ i, 0 ≤ dval (cs.take i)) := Lib.hid fun i => dval_nonneg fun c hc => HDec.out c (List.mem_of_mem_take hc)
          have HMo : Hid (∀ i, dval (cs.take i) ≤ dval cs) := Lib.hid fun i => by
            have h := dval_mono _ (cs.take i) (cs.drop i) rfl (by rw [List.take_append_drop]; exact HDec.out)
            rwa [List.take_append_drop] at h
          have HEn : Hid (∀ i, i = n → cs.take i = cs) := Lib.hid fun i h => by rw [h, ← HN.out, List.take_length]
          have HCh : Hid (∀ i, i < n → 48 ≤ dgt cs i ∧ dgt cs i ≤ 57) := Lib.hid fun i h => by
            have h2 := HDec.out (cs[i]'(by rw [HN.out]; exact h)) (List.getElem_mem _)
            rwa [HGet.out i (by rw [HN.out]; exact h)] at h2
          have hcc : c0 ≠ 48 ∨ (c0 = 48 ∧ n = 1) := by omega
          clear HB48 HG48 HDec hbad
          rcases hcc with hcc | ⟨rfl, hcc⟩
          · have f1 : (c0 == 48) = false := by simpa using hcc
            clear hcc
            go_upto_region 8 with fail
            clear hix0 t1 t2
            have hmark := True.intro
            go_wp2_with fail
            go_loopw [5, 6] (fun s5 s6 wr => ∃ i : Nat, i ≤ n ∧ s6 = .int .i64 i ∧ Hid (OwnB w.heap.size wr s5 (dig (dval (cs.take i)).toNat)) ∧ Hid (Below w.heap.size w wr)) (fun _ s6 _ => n - (RowKit.intOf s6).toNat)
            case atStart => exact ⟨0, Nat.zero_le _, rfl, Lib.hid (by show OwnB _ _ _ (dig 0); rw [dig_zero]; exact World.ownsRow_nil _ _ _ _), Lib.hid (Below.refl _ _)⟩
            case round =>
              obtain ⟨i, hi, rfl, HO, HB⟩ := hrel
              have hV0 := HV0.out i
              obtain ⟨V, hV⟩ : ∃ V, dval (cs.take i) = V := ⟨_, rfl⟩
              rw [hV] at hV0 HO
              have HVV := Lib.hid hV
              obtain ⟨xo, co, rfl⟩ := own_form HO.out
              obtain ⟨lo, hlo⟩ : ∃ l, (dig V.toNat).length = l := ⟨_, rfl⟩
              have HLO := Lib.hid hlo
              have HTold := Lib.hid (told_ref wr wr w.heap.size _ (dig V.toNat) HO.out)
              rw [hlo] at HTold ⊢
              by_cases hlt : i < n
              · have e1 : decide ((i : Int) < n) = true := by simpa using hlt
                have e2 : decide (i < n) = true := by simpa using hlt
                by_cases hle : lo ≤ 400
                · have e3 : decide ((lo : Int) ≤ 400) = true := by simp; omega
                  have e4 : decide (lo ≤ 400) = true := by simpa using hle
                  have hV4 : V < 256 ^ 400 := by
                    have := dig_len.1 (show (dig V.toNat).length ≤ 400 by omega)
                    rwa [Int.toNat_of_nonneg hV0] at this
                  have hix := HIx.out i hlt
                  have hrc := HCh.out i hlt
                  have HNx : Hid (dval (cs.take (i + 1)) = 10 * V + (dgt cs i - 48)) := Lib.hid (by
                    have hi2 : i < cs.length := by rw [HN.out]; exact hlt
                    have e : cs[i]? = some (dgt cs i) := by rw [List.getElem?_eq_getElem hi2, HGet.out i hi2]
                    rw [take_snoc e, dval_snoc, hV])
                  have hl10 : (dig (V * 10).toNat).length ≤ 401 := by
                    rw [dig_len, Int.toNat_of_nonneg (by omega), Int.pow_succ]
                    omega
                  have HPr : Hid (Calls Tryz.prog 28 #[.slice xo lo co, .slice (some ⟨wr.heap.size, 0, none⟩) 1 1] (wr.alloc (.cells #[.int .u8 10] 5)) (DigPost (V * 10) (wr.alloc (.cells #[.int .u8 10] 5)))) := Lib.hid (by
                    have h := product_ref (.slice xo (dig V.toNat).length co) (.slice (some ⟨wr.heap.size, 0, none⟩) 1 1) (dig V.toNat) [10] (wr.alloc (.cells #[.int .u8 10] 5)) ((HO.out.bts).next (below_new wr _)) (dig_bytes _) (by omega) (ownB1 wr 10).bts (fun x hx => by simp at hx; omega) (by simp)
                    rw [val_dig, Int.toNat_of_nonneg hV0, show val [10] = 10 by decide, hlo] at h
                    exact h)
                  have HRw : Hid (∀ (w' : World) (u : Value) (B : Nat), OwnB B w' u (dig (V * 10).toNat) → Calls Tryz.prog 27 #[u, .int .i64 1] w' (RowPost (dig (V * 10).toNat) 1 w')) := Lib.hid fun w' u B h => row_ref u (dig (V * 10).toNat) 1 w' h.bts (dig_bytes _) (by omega) (by omega)
                  have hf0 := dgt_rng (dig_bytes (V * 10).toNat) 0
                  have HRng : Hid (∀ j, 0 ≤ dgt (dig (V * 10).toNat) j ∧ dgt (dig (V * 10).toNat) j ≤ 255) := Lib.hid fun j => dgt_rng (dig_bytes _) j
                  have HSum : Hid (∀ m, (dig (V * 10).toNat).length ≤ m → sumV (dgt (dig (V * 10).toNat)) m = 10 * V) := Lib.hid fun m h => by rw [← val_sum _ m h, val_dig, Int.toNat_of_nonneg (by omega), Int.mul_comm]
                  unfold DigPost at HPr
                  unfold RowPost at HRw
                  obtain ⟨c, hc⟩ : ∃ c, dgt cs i = c := ⟨_, rfl⟩
                  rw [hc] at hix hrc HNx
                  have K1 := Lib.hid (HB.out.alloc HB.out.size (.cells #[.int .u8 10] 5))
                  generalize dig (V * 10).toNat = Y at *
                  have hi0 : (0 : Int) ≤ i := by omega
                  have hin : (i : Int) < n := by omega
                  clear hV4 hV hlo HVV HLO HTold HO HIx hc
                  go_upto_region 13 with (first | (go_at_call 28; refine HPr.out.mono ?_; rintro e w2 ⟨vp, rfl, hop, hb2⟩; have OP := Lib.hid hop; have K2 := Lib.hid (K1.out.trans (hb2.mono K1.out.size)); clear hop hb2) | (go_at_call 27; refine (HRw.out w2 vp _ OP.out).mono ?_; rintro e w3 ⟨g, m, rfl, hrow, hm1, hm2, hm3, hg, hb3⟩))
                  have HR3 := Lib.hid hrow
                  have K3 := Lib.hid (K2.out.trans (hb3.mono K2.out.size))
                  have hgw : w.heap.size ≤ g := Nat.le_trans K2.out.size hg
                  have hm401 : m ≤ 401 := by omega
                  have y := HR3.out.1 0 (by omega)
                  have yf := HR3.out.2.1
                  obtain ⟨f0, hfe⟩ : ∃ x, dgt Y 0 = x := ⟨_, rfl⟩
                  rw [hfe] at y hf0
                  have HS3 : Hid (∀ w', w'.heap = (w3.setCell ⟨g, 0, none⟩ (.int .i64 (f0 + c - 48))).heap → RowF w' g m (fun j => if j = 0 then dgt Y 0 + (c - 48) else dgt Y j)) := Lib.hid fun w' e => by
                    have h := (HR3.out.set (p := 0) (by omega) (f0 + c - 48)).heap e
                    exact h.as fun j hj => by rw [hfe, show f0 + c - 48 = f0 + (c - 48) by omega]
                  have KS := Lib.hid (K3.out.setCell (p := ⟨g, 0, none⟩) hgw (.int .i64 (f0 + c - 48)))
                  have HVal : Hid (val (rowL (fun j => if j = 0 then dgt Y 0 + (c - 48) else dgt Y j) m) = 10 * V + (c - 48)) := Lib.hid (by
                    rw [rowL_val, sumV_upd (dgt Y) 0 (c - 48) m (by omega), HSum.out m hm2]; simp)
                  have hw1 : IntKind.i64.wrap (f0 + c) = f0 + c := by rw [IntKind.wrap_i64]; omega
                  have hw2 : IntKind.i64.wrap (f0 + c - 48) = f0 + c - 48 := by rw [IntKind.wrap_i64]; omega
                  have y' : w3.drew.cell? ⟨g, 0, none⟩ = some (.int .i64 f0) := y
                  have yf' : ∀ j, w3.drew.frozen? ⟨g, j, none⟩ = false := yf
                  have hm0 : (0 : Int) < m := by omega
                  have hm00 : 0 < m := by omega
                  clear hrow hb3 HPr HRw HSum OP hm1 hm2 hm3 hfe hg HR3
                  go_region
                  have HSe : Hid (∀ w', w'.heap = (w3.setCell ⟨g, 0, none⟩ (.int .i64 (f0 + c - 48))).heap → Calls Tryz.prog 29 #[.slice (some ⟨g, 0, none⟩) m m] w' (DigPost (10 * V + (c - 48)) w')) := Lib.hid fun w' e => by
                    have h := settle_ref _ _ w' (HS3.out w' e).ints (fun j => by
                      rw [rowL_dgt]
                      have h1 := HRng.out j
                      have h2 := HRng.out 0
                      split
                      · split <;> omega
                      · omega) (by rw [rowL_len]; omega) (by rw [HVal.out]; omega)
                    rwa [HVal.out] at h
                  unfold DigPost at HSe
                  have KS2 : Hid (Below w.heap.size w (w3.setCell ⟨g, 0, none⟩ (.int .i64 (f0 + c - 48))).drew) := Lib.hid ⟨KS.out.os, KS.out.tape, KS.out.output, KS.out.size, KS.out.block⟩
                  clear y y' yf yf'
                  go_wp2_with (go_at_call 29; refine (HSe.out ((w3.setCell ⟨g, 0, none⟩ (.int .i64 (f0 + c - 48))).drew) rfl).mono ?_; rintro e w4 ⟨v4, rfl, ho4, hb4⟩)
                  exact ⟨⟨i + 1, by omega, by go_num, Lib.hid (by rw [HNx.out]; exact own_down ho4 KS2.out.size), Lib.hid (KS2.out.trans (hb4.mono KS2.out.size))⟩, by simp [RowKit.intOf]; omega⟩
                · have e3 : decide ((lo : Int) ≤ 400) = false := by simp; omega
                  have e4 : decide (lo ≤ 400) = false := by simpa using hle
                  have HF : Hid (re = toldE (dig V.toNat) ∧ ro = toldO (dig V.toNat)) := Lib.hid (by
                    have h1 := HR.out
                    have h2 := told_full hV0 (by rw [← hV]; exact HMo.out i) (by rw [hlo]; exact hle)
                    exact ⟨h1.1.trans h2.1.symm, h1.2.trans h2.2.symm⟩)
                  clear HO HIx hV hlo HVV HLO hle hlt hi
                  go_wp2_with (go_at_call 30; refine HTold.out.mono ?_; rintro e w3 ⟨⟨u, rfl, hu⟩, rfl⟩)
                  go_ret2
                  exact ⟨u, by rw [HF.out.1]; rfl, by rw [HF.out.2]; exact hu, HB.out⟩
              · have hi' : i = n := by omega
                have e1 : decide ((i : Int) < n) = false := by simp [hi']
                have e2 : decide (i < n) = false := by simp [hi']
                have HF : Hid (re = toldE (dig V.toNat) ∧ ro = toldO (dig V.toNat)) := Lib.hid (by
                  rw [← hV, HEn.out i hi']
                  exact HR.out)
                clear HO HIx hV hlo HVV HLO hi' hlt hi
                go_wp2_with (go_at_call 30; refine HTold.out.mono ?_; rintro e w3 ⟨⟨u, rfl, hu⟩, rfl⟩)
                go_ret2
                exact ⟨u, by rw [HF.out.1]; rfl, by rw [HF.out.2]; exact hu, HB.out⟩
          · have f1 : decide ((1 : Int) < n) = false := by simp; omega
            have f2 : decide (1 < n) = false := by simp; omega
            clear hcc
            go_upto_region 8 with fail
            clear hix0 t1 t2
            have hmark := True.intro
            go_wp2_with fail
            go_loopw [5, 6] (fun s5 s6 wr => ∃ i : Nat, i ≤ n ∧ s6 = .int .i64 i ∧ Hid (OwnB w.heap.size wr s5 (dig (dval (cs.take i)).toNat)) ∧ Hid (Below w.heap.size w wr)) (fun _ s6 _ => n - (RowKit.intOf s6).toNat)
            case atStart => exact ⟨0, Nat.zero_le _, rfl, Lib.hid (by show OwnB _ _ _ (dig 0); rw [dig_zero]; exact World.ownsRow_nil _ _ _ _), Lib.hid (Below.refl _ _)⟩
            case round =>
              obtain ⟨i, hi, rfl, HO, HB⟩ := hrel
              have hV0 := HV0.out i
              obtain ⟨V, hV⟩ : ∃ V, dval (cs.take i) = V := ⟨_, rfl⟩
              rw [hV] at hV0 HO
              have HVV := Lib.hid hV
              obtain ⟨xo, co, rfl⟩ := own_form HO.out
              obtain ⟨lo, hlo⟩ : ∃ l, (dig V.toNat).length = l := ⟨_, rfl⟩
              have HLO := Lib.hid hlo
              have HTold := Lib.hid (told_ref wr wr w.heap.size _ (dig V.toNat) HO.out)
              rw [hlo] at HTold ⊢
              by_cases hlt : i < n
              · have e1 : decide ((i : Int) < n) = true := by simpa using hlt
                have e2 : decide (i < n) = true := by simpa using hlt
                by_cases hle : lo ≤ 400
                · have e3 : decide ((lo : Int) ≤ 400) = true := by simp; omega
                  have e4 : decide (lo ≤ 400) = true := by simpa using hle
                  have hV4 : V < 256 ^ 400 := by
                    have := dig_len.1 (show (dig V.toNat).length ≤ 400 by omega)
                    rwa [Int.toNat_of_nonneg hV0] at this
                  have hix := HIx.out i hlt
                  have hrc := HCh.out i hlt
                  have HNx : Hid (dval (cs.take (i + 1)) = 10 * V + (dgt cs i - 48)) := Lib.hid (by
                    have hi2 : i < cs.length := by rw [HN.out]; exact hlt
                    have e : cs[i]? = some (dgt cs i) := by rw [List.getElem?_eq_getElem hi2, HGet.out i hi2]
                    rw [take_snoc e, dval_snoc, hV])
                  have hl10 : (dig (V * 10).toNat).length ≤ 401 := by
                    rw [dig_len, Int.toNat_of_nonneg (by omega), Int.pow_succ]
                    omega
                  have HPr : Hid (Calls Tryz.prog 28 #[.slice xo lo co, .slice (some ⟨wr.heap.size, 0, none⟩) 1 1] (wr.alloc (.cells #[.int .u8 10] 5)) (DigPost (V * 10) (wr.alloc (.cells #[.int .u8 10] 5)))) := Lib.hid (by
                    have h := product_ref (.slice xo (dig V.toNat).length co) (.slice (some ⟨wr.heap.size, 0, none⟩) 1 1) (dig V.toNat) [10] (wr.alloc (.cells #[.int .u8 10] 5)) ((HO.out.bts).next (below_new wr _)) (dig_bytes _) (by omega) (ownB1 wr 10).bts (fun x hx => by simp at hx; omega) (by simp)
                    rw [val_dig, Int.toNat_of_nonneg hV0, show val [10] = 10 by decide, hlo] at h
                    exact h)
                  have HRw : Hid (∀ (w' : World) (u : Value) (B : Nat), OwnB B w' u (dig (V * 10).toNat) → Calls Tryz.prog 27 #[u, .int .i64 1] w' (RowPost (dig (V * 10).toNat) 1 w')) := Lib.hid fun w' u B h => row_ref u (dig (V * 10).toNat) 1 w' h.bts (dig_bytes _) (by omega) (by omega)
                  have hf0 := dgt_rng (dig_bytes (V * 10).toNat) 0
                  have HRng : Hid (∀ j, 0 ≤ dgt (dig (V * 10).toNat) j ∧ dgt (dig (V * 10).toNat) j ≤ 255) := Lib.hid fun j => dgt_rng (dig_bytes _) j
                  have HSum : Hid (∀ m, (dig (V * 10).toNat).length ≤ m → sumV (dgt (dig (V * 10).toNat)) m = 10 * V) := Lib.hid fun m h => by rw [← val_sum _ m h, val_dig, Int.toNat_of_nonneg (by omega), Int.mul_comm]
                  unfold DigPost at HPr
                  unfold RowPost at HRw
                  obtain ⟨c, hc⟩ : ∃ c, dgt cs i = c := ⟨_, rfl⟩
                  rw [hc] at hix hrc HNx
                  have K1 := Lib.hid (HB.out.alloc HB.out.size (.cells #[.int .u8 10] 5))
                  generalize dig (V * 10).toNat = Y at *
                  have hi0 : (0 : Int) ≤ i := by omega
                  have hin : (i : Int) < n := by omega
                  clear hV4 hV hlo HVV HLO HTold HO HIx hc
                  go_upto_region 13 with (first | (go_at_call 28; refine HPr.out.mono ?_; rintro e w2 ⟨vp, rfl, hop, hb2⟩; have OP := Lib.hid hop; have K2 := Lib.hid (K1.out.trans (hb2.mono K1.out.size)); clear hop hb2) | (go_at_call 27; refine (HRw.out w2 vp _ OP.out).mono ?_; rintro e w3 ⟨g, m, rfl, hrow, hm1, hm2, hm3, hg, hb3⟩))
                  have HR3 := Lib.hid hrow
                  have K3 := Lib.hid (K2.out.trans (hb3.mono K2.out.size))
                  have hgw : w.heap.size ≤ g := Nat.le_trans K2.out.size hg
                  have hm401 : m ≤ 401 := by omega
                  have y := HR3.out.1 0 (by omega)
                  have yf := HR3.out.2.1
                  obtain ⟨f0, hfe⟩ : ∃ x, dgt Y 0 = x := ⟨_, rfl⟩
                  rw [hfe] at y hf0
                  have HS3 : Hid (∀ w', w'.heap = (w3.setCell ⟨g, 0, none⟩ (.int .i64 (f0 + c - 48))).heap → RowF w' g m (fun j => if j = 0 then dgt Y 0 + (c - 48) else dgt Y j)) := Lib.hid fun w' e => by
                    have h := (HR3.out.set (p := 0) (by omega) (f0 + c - 48)).heap e
                    exact h.as fun j hj => by rw [hfe, show f0 + c - 48 = f0 + (c - 48) by omega]
                  have KS := Lib.hid (K3.out.setCell (p := ⟨g, 0, none⟩) hgw (.int .i64 (f0 + c - 48)))
                  have HVal : Hid (val (rowL (fun j => if j = 0 then dgt Y 0 + (c - 48) else dgt Y j) m) = 10 * V + (c - 48)) := Lib.hid (by
                    rw [rowL_val, sumV_upd (dgt Y) 0 (c - 48) m (by omega), HSum.out m hm2]; simp)
                  have hw1 : IntKind.i64.wrap (f0 + c) = f0 + c := by rw [IntKind.wrap_i64]; omega
                  have hw2 : IntKind.i64.wrap (f0 + c - 48) = f0 + c - 48 := by rw [IntKind.wrap_i64]; omega
                  have y' : w3.drew.cell? ⟨g, 0, none⟩ = some (.int .i64 f0) := y
                  have yf' : ∀ j, w3.drew.frozen? ⟨g, j, none⟩ = false := yf
                  have hm0 : (0 : Int) < m := by omega
                  have hm00 : 0 < m := by omega
                  clear hrow hb3 HPr HRw HSum OP hm1 hm2 hm3 hfe hg HR3
                  go_region
                  have HSe : Hid (∀ w', w'.heap = (w3.setCell ⟨g, 0, none⟩ (.int .i64 (f0 + c - 48))).heap → Calls Tryz.prog 29 #[.slice (some ⟨g, 0, none⟩) m m] w' (DigPost (10 * V + (c - 48)) w')) := Lib.hid fun w' e => by
                    have h := settle_ref _ _ w' (HS3.out w' e).ints (fun j => by
                      rw [rowL_dgt]
                      have h1 := HRng.out j
                      have h2 := HRng.out 0
                      split
                      · split <;> omega
                      · omega) (by rw [rowL_len]; omega) (by rw [HVal.out]; omega)
                    rwa [HVal.out] at h
                  unfold DigPost at HSe
                  have KS2 : Hid (Below w.heap.size w (w3.setCell ⟨g, 0, none⟩ (.int .i64 (f0 + c - 48))).drew) := Lib.hid ⟨KS.out.os, KS.out.tape, KS.out.output, KS.out.size, KS.out.block⟩
                  clear y y' yf yf'
                  go_wp2_with (go_at_call 29; refine (HSe.out ((w3.setCell ⟨g, 0, none⟩ (.int .i64 (f0 + c - 48))).drew) rfl).mono ?_; rintro e w4 ⟨v4, rfl, ho4, hb4⟩)
                  exact ⟨⟨i + 1, by omega, by go_num, Lib.hid (by rw [HNx.out]; exact own_down ho4 KS2.out.size), Lib.hid (KS2.out.trans (hb4.mono KS2.out.size))⟩, by simp [RowKit.intOf]; omega⟩
                · have e3 : decide ((lo : Int) ≤ 400) = false := by simp; omega
                  have e4 : decide (lo ≤ 400) = false := by simpa using hle
                  have HF : Hid (re = toldE (dig V.toNat) ∧ ro = toldO (dig V.toNat)) := Lib.hid (by
                    have h1 := HR.out
                    have h2 := told_full hV0 (by rw [← hV]; exact HMo.out i) (by rw [hlo]; exact hle)
                    exact ⟨h1.1.trans h2.1.symm, h1.2.trans h2.2.symm⟩)
                  clear HO HIx hV hlo HVV HLO hle hlt hi
                  go_wp2_with (go_at_call 30; refine HTold.out.mono ?_; rintro e w3 ⟨⟨u, rfl, hu⟩, rfl⟩)
                  go_ret2
                  exact ⟨u, by rw [HF.out.1]; rfl, by rw [HF.out.2]; exact hu, HB.out⟩
              · have hi' : i = n := by omega
                have e1 : decide ((i : Int) < n) = false := by simp [hi']
                have e2 : decide (i < n) = false := by simp [hi']
                have HF : Hid (re = toldE (dig V.toNat) ∧ ro = toldO (dig V.toNat)) := Lib.hid (by
                  rw [← hV, HEn.out i hi']
                  exact HR.out)
                clear HO HIx hV hlo HVV HLO hi' hlt hi
                go_wp2_with (go_at_call 30; refine HTold.out.mono ?_; rintro e w3 ⟨⟨u, rfl, hu⟩, rfl⟩)
                go_ret2
                exact ⟨u, by rw [HF.out.1]; rfl, by rw [HF.out.2]; exact hu, HB.out⟩
end Go.Proofs.YtbfacdfmanffdaaGreatDoor
