/- The document's Add. -/
import Derived.Test.YtbfacdfmanffdaaDoorGPr
namespace Go.Proofs.YtbfacdfmanffdaaDoor
set_option maxRecDepth 1000000
open Go.ChangeShapes Go.WideShapes Go.ChangeAt Go.RowKit

theorem Bts.next {N : Nat → Prop} {w w' : World} {v : Value} {xs : List Int} (h : Bts N w v xs) (hb : Below w.heap.size w w') : Bts N w' v xs := Bts.only h (F := fun _ => False) (Only.of_below hb) (fun _ _ h => h)
/-- The slice value v has the rows of bytes Ls. -/
def BssAt (w : World) (v : Value) (Ls : List (List Int)) : Prop :=
  ∃ a c, v = .slice a Ls.length c ∧ Ls.length ≤ c ∧ (Ls = [] ∨ ∃ b off, a = some ⟨b, off, none⟩ ∧ ∀ (j : Nat) (xs : List Int), Ls[j]? = some xs → ∃ u, w.cell? ⟨b, off + j, none⟩ = some u ∧ Bts (fun _ => True) w u xs)
theorem BssAt.next {w w' : World} {v : Value} {Ls : List (List Int)} (h : BssAt w v Ls) (hb : Below w.heap.size w w') : BssAt w' v Ls := by
  obtain ⟨a, c, rfl, hc, h⟩ := h
  refine ⟨a, c, rfl, hc, h.imp id fun ⟨b, off, ha, h⟩ => ⟨b, off, ha, fun j xs hx => ?_⟩⟩
  obtain ⟨u, h1, h2⟩ := h j xs hx
  exact ⟨u, (hb.cell (p := ⟨b, off + j, none⟩) (World.block_lt_of_cell? _ _ h1)).trans h1, h2.next hb⟩
theorem BssAt.at_ {w : World} {v : Value} {Ls : List (List Int)} (h : BssAt w v Ls) {j : Nat} (hj : j < Ls.length) :
    ∃ b off c a2 c2, v = .slice (some ⟨b, off, none⟩) Ls.length c ∧ w.cell? ⟨b, off + j, none⟩ = some (.slice a2 Ls[j].length c2) ∧ Bts (fun _ => True) w (.slice a2 Ls[j].length c2) Ls[j] := by
  obtain ⟨a, c, rfl, hc, h⟩ := h
  rcases h with rfl | ⟨b, off, rfl, h⟩
  · cases hj
  · obtain ⟨u, h1, h2⟩ := h j _ (List.getElem?_eq_getElem hj)
    obtain ⟨a2, c2, rfl, _⟩ := Bts.form h2
    exact ⟨b, off, c, a2, c2, rfl, h1, h2⟩
def sumL (Ls : List (List Int)) : Int := (Ls.map val).sum
theorem sumL_snoc (Ls : List (List Int)) (x : List Int) : sumL (Ls ++ [x]) = sumL Ls + val x := by simp [sumL]
theorem sumL_nonneg : ∀ {Ls : List (List Int)}, (∀ x ∈ Ls, Bytes x) → 0 ≤ sumL Ls
  | [], _ => by simp [sumL]
  | x :: r, h => by
    have h1 := val_nonneg (h x (by simp))
    have h2 := sumL_nonneg (Ls := r) fun y hy => h y (by simp [hy])
    simp only [sumL, List.map_cons, List.sum_cons] at *
    omega
def allR (A : List Int) (Ls : List (List Int)) : Prop := rightB A = true ∧ ∀ x ∈ Ls, rightB x = true
instance (A : List Int) (Ls : List (List Int)) : Decidable (allR A Ls) := by unfold allR; infer_instance
def addE (A : List Int) (Ls : List (List Int)) : Int := if ¬ allR A Ls then 2 else toldE (dig (val A + sumL Ls).toNat)
def addO (A : List Int) (Ls : List (List Int)) : List Int := if ¬ allR A Ls then [] else toldO (dig (val A + sumL Ls).toNat)
theorem add_not {A : List Int} {Ls : List (List Int)} (h : ¬ allR A Ls) : addE A Ls = 2 ∧ addO A Ls = [] := ⟨by unfold addE; rw [if_pos h], by unfold addO; rw [if_pos h]⟩
theorem add_yes {A : List Int} {Ls : List (List Int)} (h : allR A Ls) : addE A Ls = toldE (dig (val A + sumL Ls).toNat) ∧ addO A Ls = toldO (dig (val A + sumL Ls).toNat) := ⟨by unfold addE; rw [if_neg (fun h2 => h2 h)], by unfold addO; rw [if_neg (fun h2 => h2 h)]⟩
theorem take_snoc {α : Type} {L : List α} {i : Nat} {x : α} (h : L[i]? = some x) : L.take (i + 1) = L.take i ++ [x] := by rw [List.take_add_one, h]; rfl
set_option maxHeartbeats 8000000 in
theorem add_ref {N : Nat → Prop} (v1 v2 : Value) (A : List Int) (Ls : List (List Int)) (w : World) (h1 : Bts N w v1 A) (b1 : Bytes A) (l1 : A.length ≤ 1000000000000) (h2 : BssAt w v2 Ls) (b2 : ∀ x ∈ Ls, Bytes x ∧ x.length ≤ 1000000000000) (l2 : Ls.length ≤ 1000000) :
    Calls Tryd.prog 13 #[v1, v2] w (NumPost (addE A Ls) (addO A Ls) w) := by
  have R1 := Lib.hid (right_ref v1 A w h1 l1)
  have HN1 := Lib.hid (fun h => @add_not A Ls h)
  have HY1 := Lib.hid (fun h => @add_yes A Ls h)
  have H1 := Lib.hid h1
  have H2 := Lib.hid h2
  have B1 := Lib.hid b1
  have B2 := Lib.hid b2
  obtain ⟨a1, c1, rfl, hc1⟩ := Bts.form h1
  obtain ⟨a2, c2, rfl, hc2, _⟩ := h2
  unfold NumPost
  obtain ⟨ra, hra⟩ : ∃ r, rightB A = r := ⟨_, rfl⟩
  have HRA := Lib.hid hra
  rw [hra] at R1
  generalize addE A Ls = se at *
  generalize addO A Ls = so at *
  clear h1 b1 b2 hra
  cases ra with
  | false =>
    obtain ⟨rfl, rfl⟩ := HN1.out (fun h => by have := h.1; rw [HRA.out] at this; cases this)
    go_enter Tryd.func13, Tryd.ntmps13
    go_wp2_with (go_at_call 24; refine R1.out.mono ?_; rintro e w1 ⟨rfl, rfl⟩)
    go_ret2
    exact ⟨_, rfl, World.ownsRow_nil _ _ _ _, Below.refl _ _⟩
  | true =>
    have la := (right_len HRA.out).1
    have HRow := Lib.hid (row_ref (.slice a1 A.length c1) A 402 w H1.out B1.out (by omega) (by omega))
    unfold RowPost at HRow
    have HVA : Hid (∀ m, A.length ≤ m → sumV (dgt A) m = val A) := Lib.hid fun m h => (val_sum A m h).symm
    have HL : Hid (∀ i, i < Ls.length → ∃ b off x a3 c3, a2 = some ⟨b, off, none⟩ ∧ Ls[i]? = some x ∧ Bytes x ∧ x.length ≤ 1000000000000 ∧ ∀ w', Below w.heap.size w w' → w'.cell? ⟨b, off + i, none⟩ = some (.slice a3 x.length c3) ∧ Bts (fun _ => True) w' (.slice a3 x.length c3) x) := Lib.hid fun i hi => by
      obtain ⟨b, off, c, a3, c3, he, h3, h4⟩ := H2.out.at_ hi
      injection he with e1 _ _
      have hm := B2.out _ (List.getElem_mem hi)
      exact ⟨b, off, Ls[i], a3, c3, e1, List.getElem?_eq_getElem hi, hm.1, hm.2, fun w' hb => ⟨(hb.cell (p := ⟨b, off + i, none⟩) (World.block_lt_of_cell? _ _ h3)).trans h3, h4.next hb⟩⟩
    have HTL : Hid (∀ k, k = Ls.length → Ls.take k = Ls) := Lib.hid fun k h => by rw [h, List.take_length]
    generalize hll : Ls.length = ll at *
    have HLL := Lib.hid hll
    generalize hla : A.length = na at *
    clear H1 H2 hll hla
    go_enter Tryd.func13, Tryd.ntmps13
    go_upto_region 4 with (first | (go_at_call 24; (with_reducible refine R1.out.mono ?_); rintro e w1 ⟨rfl, rfl⟩) | (go_at_call 31; refine HRow.out.mono ?_; rintro e w1 ⟨g, m, rfl, hrow, hm1, hm2, hm3, hg, hbw⟩))
    have hm : m = 402 := by omega
    have HR0 := Lib.hid hrow
    have HB0 := Lib.hid hbw
    clear hrow hbw HRow R1 hm1 hm2 hm3
    subst hm
    have HS0 : Hid (sumV (dgt A) 402 = val A + sumL (Ls.take 0)) := Lib.hid (by rw [HVA.out 402 (by omega)]; simp [sumL])
    clear HVA
    go_wp2_with fail
    go_loopw [7] (fun s7 wr => ∃ (i : Nat) (f : Nat → Int), i ≤ ll ∧ s7 = .int .i64 i ∧ Hid (RowF wr g 402 f) ∧ Hid (sumV f 402 = val A + sumL (Ls.take i)) ∧ Hid (∀ j, 0 ≤ f j ∧ f j ≤ 255 * (i + 1)) ∧ Hid (∀ x ∈ Ls.take i, rightB x = true) ∧ Hid (Below w.heap.size w wr)) (fun s7 _ => ll - (RowKit.intOf s7).toNat)
    case atStart => exact ⟨0, _, Nat.zero_le _, rfl, HR0, HS0, Lib.hid (fun j => by have := dgt_rng B1.out j; omega), Lib.hid (fun x hx => by simp at hx), HB0⟩
    case round =>
      clear HR0 HS0 HB0
      obtain ⟨i, f, hi, rfl, HR, HV, HBd, HAll, HB⟩ := hrel
      by_cases hlt : i < ll
      · have d1 : decide ((i : Int) < ll) = true := by simpa using hlt
        have d2 : decide (i < ll) = true := by simpa using hlt
        have hi0 : (0 : Int) ≤ i := by omega
        have hil : (i : Int) < ll := by omega
        obtain ⟨b, off, x, a3, c3, rfl, hx, hbx, hxl, hww⟩ := HL.out i hlt
        obtain ⟨q, hbt⟩ := hww wr HB.out
        have HRx := Lib.hid (right_ref _ x wr hbt hxl)
        obtain ⟨rx, hrx⟩ : ∃ r, rightB x = r := ⟨_, rfl⟩
        rw [hrx] at HRx
        have HX := Lib.hid hx
        have HRX := Lib.hid hrx
        have HBX := Lib.hid hbx
        cases rx with
        | false =>
          obtain ⟨rfl, rfl⟩ := HN1.out (fun h => by have := h.2 x (List.mem_of_getElem? HX.out); rw [HRX.out] at this; cases this)
          clear HL HR HV HBd HAll hbt hrx hx hbx
          go_wp2_with (go_at_call 24; refine HRx.out.mono ?_; rintro e w1 ⟨rfl, rfl⟩)
          go_ret2
          exact ⟨_, rfl, World.ownsRow_nil _ _ _ _, HB.out⟩
        | true =>
          have lx := (right_len HRX.out).1
          obtain ⟨nx, hnx⟩ : ∃ n, x.length = n := ⟨_, rfl⟩
          have HC : Hid (∀ w', Below w.heap.size w w' → w'.cell? ⟨b, off + i, none⟩ = some (.slice a3 nx c3) ∧ ∀ k, k < nx → ∃ b' off', a3 = some ⟨b', off', none⟩ ∧ nx ≤ c3 ∧ w'.cell? ⟨b', off' + k, none⟩ = some (.int .u8 (dgt x k))) := Lib.hid fun w' hb => by
            obtain ⟨h5, h6⟩ := hww w' hb
            rw [hnx] at h5
            refine ⟨h5, fun k hk => ?_⟩
            obtain ⟨b', off', c', he, hcc, _, _, h'⟩ := bts_cells h6 (by omega)
            injection he with e1 _ e3
            exact ⟨b', off', e1, by omega, h' k (by omega)⟩
          have HTx : Hid (∀ k, k < nx → val (x.take (k + 1)) = val (x.take k) + dgt x k * 256 ^ k) := Lib.hid fun k h => take_val k (by omega)
          have HEx : Hid (∀ k, k = nx → val (x.take k) = val x) := Lib.hid fun k h => by rw [h, ← hnx, List.take_length]
          have HSn : Hid (sumL (Ls.take (i + 1)) = sumL (Ls.take i) + val x) := Lib.hid (by rw [take_snoc HX.out, sumL_snoc])
          have HAll2 : Hid (∀ y ∈ Ls.take (i + 1), rightB y = true) := Lib.hid fun y hy => by
            rw [take_snoc HX.out] at hy
            rcases List.mem_append.1 hy with h | h
            · exact HAll.out y h
            · rw [List.mem_singleton] at h; rw [h]; exact HRX.out
          rw [hnx] at HRx q lx
          clear hww hbt hrx hx hbx hxl HAll HL hnx
          go_upto_region 9 with (go_at_call 24; refine HRx.out.mono ?_; rintro e w1 ⟨rfl, rfl⟩)
          clear q HRx
          have hmark := True.intro
          go_wp2_with fail
          go_loopw [8] (fun s8 wx => ∃ (k : Nat) (f : Nat → Int), k ≤ nx ∧ s8 = .int .i64 k ∧ Hid (RowF wx g 402 f) ∧ Hid (sumV f 402 = val A + sumL (Ls.take i) + val (x.take k)) ∧ Hid (∀ j, 0 ≤ f j ∧ f j ≤ 255 * (i + 2)) ∧ Hid (∀ j, k ≤ j → f j ≤ 255 * (i + 1)) ∧ Hid (Below w.heap.size w wx)) (fun s8 _ => nx - (RowKit.intOf s8).toNat)
          case atStart => exact ⟨0, f, Nat.zero_le _, rfl, HR, Lib.hid (by rw [HV.out]; simp [val]), Lib.hid (fun j => by have := HBd.out j; omega), Lib.hid (fun j _ => (HBd.out j).2), HB⟩
          case round =>
            clear HR HV HBd HB
            obtain ⟨k, f, hk, rfl, HR, HV, HBd, HBe, HB⟩ := hrel
            obtain ⟨q, hq⟩ := HC.out wr HB.out
            have HQ := Lib.hid hq
            clear hq
            by_cases hlk : k < nx
            · obtain ⟨b', off', rfl, hcc, q2⟩ := HQ.out k hlk
              have e3 : decide ((k : Int) < nx) = true := by simpa using hlk
              have e4 : decide (k < nx) = true := by simpa using hlk
              have hkm : k < 402 := by omega
              have hr2 := dgt_rng HBX.out k
              have hfp := HBd.out k
              have hfe := HBe.out k (Nat.le_refl _)
              have y := HR.out.1 k hkm
              have yf := HR.out.2.1
              obtain ⟨fp, hfpe⟩ : ∃ z, f k = z := ⟨_, rfl⟩
              obtain ⟨db, hdb⟩ : ∃ z, dgt x k = z := ⟨_, rfl⟩
              have HXX : Hid (∃ f' : Nat → Int, (∀ w', w'.heap = (wr.setCell ⟨g, k, none⟩ (.int .i64 (fp + db))).heap → RowF w' g 402 f') ∧ sumV f' 402 = val A + sumL (Ls.take i) + val (x.take (k + 1)) ∧ (∀ j, 0 ≤ f' j ∧ f' j ≤ 255 * (i + 2)) ∧ (∀ j, k + 1 ≤ j → f' j ≤ 255 * (i + 1))) := Lib.hid (by
                rw [hdb] at hr2
                refine ⟨fun j => if j = k then f k + db else f j, fun w' e => ?_, ?_, fun j => ?_, fun j hj => ?_⟩
                · rw [← hfpe] at e
                  exact (HR.out.set hkm (f k + db)).heap e
                · rw [sumV_upd f k db 402 hkm, HTx.out k hlk, hdb, HV.out]; omega
                · show 0 ≤ (if j = k then f k + db else f j) ∧ (if j = k then f k + db else f j) ≤ _
                  split
                  · rw [hfpe]; omega
                  · exact HBd.out j
                · show (if j = k then f k + db else f j) ≤ _
                  rw [if_neg (by omega)]
                  exact HBe.out j (by omega))
              have KS := Lib.hid (HB.out.setCell (p := ⟨g, k, none⟩) hg (.int .i64 (fp + db)))
              rw [hdb] at hr2 q2
              rw [hfpe] at hfp hfe y
              have hw2 : IntKind.i64.wrap (fp + db) = fp + db := by rw [IntKind.wrap_i64]; omega
              have hk0 : (0 : Int) ≤ k := by omega
              have hkn : (k : Int) < nx := by omega
              have hkm2 : (k : Int) < 402 := by omega
              have q' : wr.drew.cell? ⟨b, off + i, none⟩ = some (.slice (some ⟨b', off', none⟩) nx c3) := q
              have q2' : wr.drew.cell? ⟨b', off' + k, none⟩ = some (.int .u8 db) := q2
              have y' : wr.drew.cell? ⟨g, k, none⟩ = some (.int .i64 fp) := y
              have yf' : ∀ j, wr.drew.frozen? ⟨g, j, none⟩ = false := yf
              clear HC HR HV HBd HBe hdb hfpe hk HTx HEx HQ
              go_upto_region 12 with fail
              go_region
              go_wp2_with fail
              obtain ⟨f', z1, z2, z3, z4⟩ := HXX.out
              exact ⟨⟨k + 1, f', by omega, by go_num, Lib.hid (z1 _ rfl), Lib.hid z2, Lib.hid z3, Lib.hid z4, Lib.hid ⟨KS.out.os, KS.out.tape, KS.out.output, KS.out.size, KS.out.block⟩⟩, by simp [RowKit.intOf]; omega⟩
            · have hk' : k = nx := by omega
              have e3 : decide ((k : Int) < nx) = false := by simp [hk']
              have e4 : decide (k < nx) = false := by simp [hk']
              have HV2 : Hid (sumV f 402 = val A + sumL (Ls.take (i + 1))) := Lib.hid (by rw [HV.out, HEx.out k hk', HSn.out]; omega)
              have HBd2 : Hid (∀ j, 0 ≤ f j ∧ f j ≤ 255 * (((i + 1 : Nat) : Int) + 1)) := Lib.hid fun j => by have := HBd.out j; omega
              clear HV HBe HBd hk' hlk hk HQ
              go_wp2_with fail
              exact ⟨⟨i + 1, f, by omega, by go_num, HR, HV2, HBd2, HAll2, HB⟩, by simp [RowKit.intOf]; omega⟩
      · have hi' : i = ll := by omega
        have d1 : decide ((i : Int) < ll) = false := by simp [hi']
        have d2 : decide (i < ll) = false := by simp [hi']
        have htl := HTL.out i hi'
        have HAR : Hid (allR A Ls) := Lib.hid ⟨HRA.out, by rw [← htl]; exact HAll.out⟩
        obtain ⟨rfl, rfl⟩ := HY1.out HAR.out
        have HVV : Hid (val (rowL f 402) = val A + sumL Ls) := Lib.hid (by rw [rowL_val, HV.out, htl])
        have hnn : 0 ≤ val A + sumL Ls := by
          have h1 := val_nonneg B1.out
          have h2 := sumL_nonneg fun y hy => (B2.out y hy).1
          omega
        have HSe := Lib.hid (settle_ref _ _ wr HR.out.ints (fun j => by
          rw [rowL_dgt]
          have := HBd.out j
          split <;> omega) (by rw [rowL_len]; omega) (by rw [HVV.out]; exact hnn))
        unfold DigPost at HSe
        rw [HVV.out] at HSe
        obtain ⟨X, hX⟩ : ∃ X, dig (val A + sumL Ls).toNat = X := ⟨_, rfl⟩
        have HXY := Lib.hid hX
        rw [hX] at HSe
        clear hX
        clear htl HAR HV HVV HR HBd hi' hlt hi HL HAll hnn
        go_wp2_with (first | (go_at_call 33; refine HSe.out.mono ?_; rintro e w2 ⟨v2, rfl, ho2, hb2⟩; have O2 := Lib.hid ho2; have K2 := Lib.hid hb2; clear ho2 hb2) | (go_at_call 32; refine (told_ref w w2 wr.heap.size v2 X O2.out).mono ?_; rintro e w3 ⟨⟨u, rfl, hu⟩, rfl⟩; have U := Lib.hid hu; clear hu))
        go_ret2
        exact ⟨u, by rw [HXY.out]; rfl, by rw [HXY.out]; exact own_down U.out HB.out.size, HB.out.trans (K2.out.mono HB.out.size)⟩
end Go.Proofs.YtbfacdfmanffdaaDoor
