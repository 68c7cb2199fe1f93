/- Package large's Text. -/
import Derived.Test.YtbfacdfmanffdaaGreatDoorJLo
import Derived.Lib.AppendIntMem
import Derived.Lib.SmallJoins
namespace Go.Proofs.YtbfacdfmanffdaaGreatDoor
set_option maxRecDepth 1000000
open Go.ChangeShapes Go.WideShapes Go.ChangeAt Go.RowKit Go.Shelf
attribute [local go_sem] Oper.semAt_some

/-- The library's table of ten's powers lies as the program's text lays it. -/
def Tabs (w : World) : Prop := Lib.TabIs Tryz.prog w "internal/strconv.uint64pow10" .u64 Lib.pow10Tab
theorem Tabs.next {w w' : World} (h : Tabs w) (hb : Below w.heap.size w w') : Tabs w' := by
  have h1 : (Tryz.prog.globalNamed "internal/strconv.uint64pow10").isSome = true := by kernel_rfl
  obtain ⟨g, hg⟩ := Option.isSome_iff_exists.1 h1
  unfold Tabs at *
  exact Go.Joins.tab_stays (w := w) (w' := w') (B := w.heap.size) hg h hb (Nat.le_refl _)
theorem or_code (s1 : ByteArray) (W : World) : Calls Tryz.prog 34 #[.slice (some ⟨W.heap.size, 0, none⟩) 2 2] (W.alloc (.cells #[.string s1, .string ⟨#[48]⟩] 9)) fun e w' => e = .returned (.string (if s1 = ⟨#[]⟩ then ⟨#[48]⟩ else s1)) ∧ W.alloc (.cells #[.string s1, .string ⟨#[48]⟩] 9) = w' := by
  obtain ⟨W1, hW1⟩ : ∃ W1, W.alloc (.cells #[.string s1, .string ⟨#[48]⟩] 9) = W1 := ⟨_, rfl⟩
  have c0 : W1.cell? ⟨W.heap.size, 0, none⟩ = some (.string s1) := by rw [← hW1, World.cell?_alloc_new]; rfl
  have c1 : W1.cell? ⟨W.heap.size, 1, none⟩ = some (.string ⟨#[48]⟩) := by rw [← hW1, World.cell?_alloc_new]; rfl
  rw [hW1]
  obtain ⟨z, hz⟩ : ∃ z, W.heap.size = z := ⟨_, rfl⟩
  rw [hz] at c0 c1 ⊢
  clear hW1 hz
  by_cases hs : s1 = ⟨#[]⟩
  · subst hs
    rw [if_pos rfl]
    go_enter Tryz.func34, Tryz.ntmps34
    go_wp2_with fail
    go_loop [8] (fun s8 => s8 = .int .i64 0 ∨ s8 = .int .i64 1) (fun s8 => (2 - intOf s8).toNat)
    case atStart => exact .inl rfl
    case round =>
      rcases hrel with rfl | rfl
      · go_wp2_with fail
        go_round
        case rel => exact .inr rfl
        case measure => simp [intOf]
      · go_wp2_with fail
        go_ret
        exact ⟨rfl, rfl⟩
  · rw [if_neg hs]
    have hs2 : (s1.toList == (⟨#[]⟩ : ByteArray).toList) = false := by
      rw [beq_eq_false_iff_ne]
      intro h
      rw [ByteArray.toList_eq, ByteArray.toList_eq] at h
      refine hs ?_
      cases s1 with
      | mk d =>
        have : d = #[] := by simpa using h
        rw [this]
    have hs3 : s1.toList.isEmpty = false := by
      cases h : s1.toList with
      | nil => rw [h] at hs2; simp at hs2
      | cons x r => rfl
    go_enter Tryz.func34, Tryz.ntmps34
    go_wp2_with fail
    go_loop [8] (fun s8 => s8 = .int .i64 0) (fun s8 => (2 - intOf s8).toNat)
    case atStart => rfl
    case round =>
      subst hrel
      go_wp2_with fail
      go_ret
      exact ⟨rfl, rfl⟩
/-- Between two parts: what is written so far. -/
structure TxI (z : Nat) (w : World) (a : Option Addr) (c : Nat) (A : List Int) (L N0 : Nat) (k : Nat) (W : World) : Prop where
  below : Below z w W
  s : Boxed W z 9 (.string (strOfNums (pad (16 * k) N0)))
  rd : BackRd (z + 1) a c A L 0 W
theorem TxI.own {w : World} {z : Nat} {a : Option Addr} {c : Nat} {A : List Int} {L N0 B : Nat} (hz : z = w.heap.size) (hB : z ≤ B) : OwnFrom B (TxI z w a c A L N0) := fun _ _ _ _ h hg hr =>
  have hc := fun r e => (hr r e).2
  ⟨below_grown h.below (Nat.le_of_eq hz) hg fun r e => Nat.le_trans hB (hr r e).1, box_grown h.s hg hc, h.rd.grown hg hc⟩
theorem BackRd.nextB {Bs : Nat} {a : Option Addr} {c : Nat} {A : List Int} {L k : Nat} {W W' : World} {M : Nat} (h : BackRd Bs a c A L k W) (hb : Below M W W') (h1 : Bs < M) (h2 : ∀ b off, a = some ⟨b, off, none⟩ → 0 < L → b < M) : BackRd Bs a c A L k W' :=
  ⟨(hb.cell (p := ⟨Bs, 0, none⟩) h1).trans h.1, fun i hi => by
    obtain ⟨b, off, e, hc⟩ := h.2 i hi
    exact ⟨b, off, e, (hb.cell (p := ⟨b, off + i, none⟩) (h2 b off e (by omega))).trans hc⟩⟩
theorem TxI.nextB {w : World} {z : Nat} {a : Option Addr} {c : Nat} {A : List Int} {L N0 k M : Nat} {W W' : World} (h : TxI z w a c A L N0 k W) (hM : z + 1 < M) (ha : ∀ b off, a = some ⟨b, off, none⟩ → 0 < L → b < z) (hb : Below M W W') : TxI z w a c A L N0 k W' :=
  ⟨h.below.trans (hb.mono (by omega)), box_next h.s hb (by omega), h.rd.nextB hb hM fun b off e h0 => by have := ha b off e h0; omega⟩
theorem rep_is (c : Nat) : (⟨(Lib.repeatL (⟨#[48]⟩ : ByteArray).data.toList c).toArray⟩ : ByteArray) = strOfNums (List.replicate c 48) := by
  have h : Lib.repeatL (⟨#[48]⟩ : ByteArray).data.toList c = List.replicate c 48 := by
    induction c with
    | zero => rfl
    | succ c ih =>
      show [48] ++ Lib.repeatL _ c = _
      rw [ih]; rfl
  rw [h, ← str_of, List.map_replicate]
  rfl
theorem str_size (xs : List Int) : (strOfNums xs).size = xs.length := by
  show (strOfNums xs).data.size = _
  rw [← Array.length_toList, str_data, List.length_map]
theorem parts_short (n : Nat) : (parts n).length ≤ (dig n).length := by
  induction n using Nat.strongRecOn with
  | ind n ih =>
    by_cases h0 : n = 0
    · rw [h0, parts_zero]; exact Nat.zero_le _
    · have h1 := ih (n / UU) (Nat.div_lt_self (by omega) (by decide))
      have h2 := dig_fewer h0
      rw [parts_pos h0, List.length_cons]
      omega
set_option maxHeartbeats 8000000 in
theorem text_in {N : Nat → Prop} (v : Value) (A : List Int) (w : World) (hT : Tabs w) (h1 : Bts N w v A) (b1 : Bytes A) (l1 : A.length ≤ 1000000000000) :
    CallsIn Fence.wide 6 Tryz.prog 14 #[v] w (ValB (.string (strOfNums (textO A))) w) := by
  have fr : Fence.wide.fn 16 := trivial
  have fl : Fence.wide.fn 31 := trivial
  have fi : Fence.wide.fn 32 := trivial
  have fe : Fence.wide.fn 33 := trivial
  have ft : Fence.wide.fn 35 := trivial
  have fo : Fence.wide.fn 34 := trivial
  have C1 := Lib.hid (right_is v A w h1 l1)
  have HV1 : Hid (Bts (· < w.heap.size) w v A) := Lib.hid (Bts.kind h1 fun b h _ => h)
  have HB1 := Lib.hid b1
  obtain ⟨L, hL⟩ : ∃ k, A.length = k := ⟨_, rfl⟩
  have HL := Lib.hid hL
  obtain ⟨a, c, rfl, hc⟩ := Bts.form h1
  rw [hL] at hc HV1 C1 l1 ⊢
  unfold ValB
  cases hr : rightB A with
  | false =>
    have e1 : textO A = [] := by unfold textO; rw [if_neg (by rw [hr]; decide)]
    rw [hr] at C1
    rw [e1]
    clear hL h1 b1 hr e1
    refine callsIn_wide.2 ?_
    go_enter Tryz.func14, Tryz.ntmps14
    go_wp2_with (go_at_call 16; refine C1.out.mono ?_; rintro e w2 ⟨rfl, rfl⟩)
    go_ret
    exact ⟨rfl, Below.refl _ _⟩
  | true =>
    rw [hr] at C1
    have hbare := right_ends hr
    have hl400 := (right_len hr).1
    rw [hL] at hl400
    have e1 : textO A = dec (val A).toNat := by unfold textO; rw [if_pos hr]
    have e2 : dig (val A).toNat = A := dig_val b1 hbare
    rw [e1]
    obtain ⟨N0, hN0⟩ : ∃ n, (val A).toNat = n := ⟨_, rfl⟩
    rw [hN0] at e2 ⊢
    have HAe : Hid (dig N0 = A) := Lib.hid e2
    have HT := Lib.hid hT
    have K1 : Hid (Below w.heap.size w (w.alloc (.cells #[.string ⟨#[]⟩] 9))) := Lib.hid (below_new w _)
    clear h1 b1 hr hbare e1 hT hN0 hL
    refine callsIn_of_wp_marks Tryz.func14 rfl trivial ?_ rfl
    simp only [Tryz.ntmps14, List.size_toArray, List.length_cons, List.length_nil, Nat.reduceAdd, Nat.reduceSub, Array.replicate_succ, Array.replicate_zero, List.push_toArray, List.append_toArray, List.nil_append, List.cons_append]
    gi_wp2_with (first | (gi_at_call 16; refine (callsIn_wide.2 C1.out).mono ?_; rintro e w2 ⟨rfl, rfl⟩) | (gi_at_call 31; refine (callsIn_wide.2 (low_any _ _ _ _)).mono ?_; rintro e w2 ⟨rfl, rfl⟩))
    obtain ⟨z, hz⟩ : ∃ z, w.heap.size = z := ⟨_, rfl⟩
    obtain ⟨W0, hW0⟩ : ∃ W0, (w.alloc (.cells #[.string ⟨#[]⟩] 9)).alloc (.cells #[.slice a L c] 22) = W0 := ⟨_, rfl⟩
    have HI0 : Hid (TxI z w a c A L N0 0 W0) := Lib.hid (by
      have x1 := Boxed.new w 9 (.string ⟨#[]⟩)
      have x2 := Boxed.new (w.alloc (.cells #[.string ⟨#[]⟩] 9)) 22 (.slice a L c)
      simp only [World.size_alloc, hz] at x1 x2
      have hb : Below w.heap.size w W0 := by rw [← hW0]; exact ((Below.refl _ w).alloc (Nat.le_refl _) _).alloc (by simp) _
      refine ⟨by rw [← hz]; exact hb, ?_, ⟨?_, fun i hi => ?_⟩⟩
      · rw [← hW0]; exact x1.alloc _
      · rw [← hW0]; exact x2.cell
      · obtain ⟨b, o, c', he, _, hlt, _, h⟩ := bts_cells HV1.out (by rw [HL.out]; omega)
        injection he with e _ _
        exact ⟨b, o, e, (hb.cell (p := ⟨b, o + i, none⟩) hlt).trans (h i (by rw [HL.out]; omega))⟩)
    rw [hW0]
    have hs0 : W0.heap.size = z + 1 + 1 := by rw [← hW0]; simp [hz]
    have HZ := Lib.hid hz.symm
    rw [hz]
    have HPL : Hid ((parts N0).length ≤ 400) := Lib.hid (by have := parts_short N0; rw [HAe.out, HL.out] at this; omega)
    have HA1 : Hid (∀ b off, a = some ⟨b, off, none⟩ → 0 < L → b < z) := Lib.hid fun b off e h0 => by
      obtain ⟨b', off', c', he, _, hlt, _, _⟩ := bts_cells HV1.out (by rw [HL.out]; exact h0)
      injection he with e1 _ _
      rw [e] at e1
      injection e1 with e1
      injection e1 with e1 _
      rw [hz] at hlt
      omega
    clear hW0 K1 C1 fr fl
    refine rangeFunc_t rfl (by decide) (gf := 46) (lb := #[.pointer (some ⟨z + 1, 0, none⟩)]) rfl trivial eg_low (by have := low_gives 5 (by decide) (z + 1) a c N0 L (by rw [HAe.out]; exact HL.out) l1; rw [HAe.out] at this; exact this) abOwn_kept kpOwn_trans kpOwn_put (fun _ => rfl)
      (TxI z w a c A L N0) (TxI.own HZ.out (by omega)) (fun k A h => h.rd) (fun k A B h hab => h.nextB (by omega) HA1.out hab) HI0.out ?round ?done
    case round =>
      rintro l k x W hx
      have hk : k < (parts N0).length := (List.getElem?_eq_some_iff.1 hx).1
      have hxv := parts_get k N0 x hx
      obtain ⟨p, hp⟩ : ∃ p, N0 / UU ^ k % UU = p := ⟨_, rfl⟩
      rw [hp] at hxv
      subst hxv
      have hp1 : p < 10000000000000000 := by rw [← hp]; exact Nat.mod_lt _ (by decide)
      have HP := Lib.hid hp
      have hk4 : k ≤ 400 := by
        have := HPL.out
        omega
      clear hx hk hp HI0
      simp only [encP]
      gi_wp2
      refine Asg.mk ?_
      intro W1 hI hsz
      have HI := Lib.hid hI
      have hTW : Tabs W1 := HT.out.next (by rw [← HZ.out]; exact hI.below)
      have CI := Tryz.strconv_Itoa (p : Int) (by omega) (by omega) W1 hTW
      rw [itoa_is (by omega), Int.toNat_natCast] at CI
      have CIH := Lib.hid CI
      obtain ⟨n1, hn1⟩ : ∃ n, (dec p).length = n := ⟨_, rfl⟩
      have hn1b : n1 ≤ 16 := by rw [← hn1]; exact dec_short 15 p hp1
      obtain ⟨Ds, hDs⟩ : ∃ D, strOfNums (dec p) = D := ⟨_, rfl⟩
      have hDz : Ds.size = n1 := by rw [← hDs, ← hn1, str_size]
      obtain ⟨zn, hzn⟩ : ∃ n, 16 - n1 = n := ⟨_, rfl⟩
      have hzn2 : (16 : Int) - n1 = (zn : Int) := by omega
      have hzn3 : IntKind.i64.wrap (zn : Int) = (zn : Int) := by rw [IntKind.wrap_i64]; omega
      have hzs1 : zn + n1 ≤ 9223372036854775807 := by omega
      have hzs2 : zn + n1 + 16 * k ≤ 9223372036854775807 := by omega
      obtain ⟨Zs, hZs⟩ : ∃ Z, strOfNums (List.replicate zn 48) = Z := ⟨_, rfl⟩
      have hZz : Zs.size = zn := by rw [← hZs, str_size, List.length_replicate]
      obtain ⟨Ss, hSs⟩ : ∃ S, strOfNums (pad (16 * k) N0) = S := ⟨_, rfl⟩
      have hSz : Ss.size = 16 * k := by rw [← hSs, str_size, pad_len]
      have HRP : Hid (∀ w', Calls Tryz.prog 33 #[.string ⟨#[48]⟩, .int .i64 (zn : Nat)] w' fun e w'' => e = .returned (.string Zs) ∧ Below w'.heap.size w' w'') := Lib.hid fun w' => by
        have h := Tryz.strings_Repeat ⟨#[48]⟩ zn w' (by omega) (by show 1 * zn ≤ _; omega)
        rw [rep_is, hZs] at h
        exact h
      have HEQ : Hid (Zs ++ Ds ++ Ss = strOfNums (pad (16 * (k + 1)) N0)) := Lib.hid (by
        rw [← hZs, ← hDs, ← hSs, str_app, str_app, show 16 * (k + 1) = 16 + 16 * k by omega, pad_add]
        have h1 : List.replicate zn 48 ++ dec p = pad 16 p := by rw [← hzn, ← hn1]; exact pad_dec 15 p hp1
        rw [h1, ← HP.out, show UU = 10 ^ 16 by decide, pad_mod, ← Nat.pow_mul])
      have hbs := hI.s
      rw [hSs] at hbs
      rw [hDs] at CIH
      have HBS := Lib.hid hbs
      clear hI CI hDs hZs hSs hn1 hp1 hTW hbs
      gi_wp2_with (gi_at_call 32; refine (CallsIn.inRound l (callsIn_wide.2 CIH.out)).mono ?_; rintro e w2 ⟨rfl, dn, os, hw2⟩; have HW2 := Lib.hid hw2; clear hw2)
      have hK2 : Below W1.heap.size W1 w2 := by rw [HW2.out]; exact Lib.below_grow _ _ (Nat.le_refl _) _ _
      have HCR : Hid (Calls Tryz.prog 33 #[.string ⟨#[48]⟩, .int .i64 (zn : Nat)] w2.drew fun e w'' => e = .returned (.string Zs) ∧ Below w2.heap.size w2 w'') := Lib.hid ((HRP.out w2.drew).mono fun e w'' h => ⟨h.1, ⟨h.2.os, h.2.tape, h.2.output, h.2.size, h.2.block⟩⟩)
      have hb2 : Boxed w2 z 9 (.string Ss) := box_next HBS.out hK2 HBS.out.lt
      have u3 := hb2.cell
      have g3 := hb2.frozen
      have HW5 : Hid (∀ w5, Below w2.heap.size w2 w5 → w5.cell? ⟨z, 0, none⟩ = some (.string Ss) ∧ w5.frozen? ⟨z, 0, none⟩ = false) := Lib.hid fun w5 hb => ⟨(box_next hb2 hb hb2.lt).cell, (box_next hb2 hb hb2.lt).frozen⟩
      have HL6 : Hid (∀ w5, Below w2.heap.size w2 w5 → KeepsFrom W0.heap.size W1 (w5.setCell ⟨z, 0, none⟩ (.string (Zs ++ Ds ++ Ss))) ∧ KpOwn (W0.heap.size + 2) W1 (w5.setCell ⟨z, 0, none⟩ (.string (Zs ++ Ds ++ Ss))) ∧ TxI z w a c A L N0 (k + 1) (w5.setCell ⟨z, 0, none⟩ (.string (Zs ++ Ds ++ Ss)))) := Lib.hid fun w5 hb => by
        have hb15 : Below W1.heap.size W1 w5 := hK2.trans (hb.mono hK2.size)
        refine ⟨((keeps_below hb15).trans (KeepsOthers.setCell _ _ _)).from _, ⟨by show W1.heap.size ≤ (w5.setCell _ _).heap.size; have := hb15.size; simpa [World.setCell] using this, fun b h1 h2 => ?_⟩, ?_, ?_, ?_⟩
        · exact (Below.heap_setCell w5 ⟨z, 0, none⟩ _ b (by show b ≠ z; omega)).trans (hb15.block b h2)
        · exact (HI.out.below.trans (hb15.mono (Nat.le_trans (by rw [HZ.out]; exact Nat.le_refl _) HI.out.below.size))).setCell (p := ⟨z, 0, none⟩) (Nat.le_refl _) _
        · rw [← HEQ.out]; exact (box_next hb2 hb hb2.lt).set _
        · exact (HI.out.rd.next hb15).set_ (box_next hb2 hb hb2.lt)
      clear HI HW2 hK2 hb2 HRP HEQ HBS HP CIH
      refine region_round (by kernel_rfl) (by kernel_rfl) ?_
      refine wpAnyIn_take (i := 0) (v := .string Ds) rfl rfl (by kernel_rfl) (by kernel_rfl) (by kernel_rfl) (fun _ _ _ h => h) ⟨Or.inl ⟨by rfl, (by intro w; go_simp)⟩, fun _ => rfl⟩ ?_
      refine wpAnyIn_take (i := 1) (v := .int .i64 n1) rfl rfl (by kernel_rfl) (by kernel_rfl) (by kernel_rfl) (fun _ _ _ h => h) ⟨Or.inl ⟨by rfl, (by intro w; go_simp)⟩, fun _ => rfl⟩ ?_
      refine wpAnyIn_take (i := 2) (v := .int .i64 (zn : Nat)) rfl rfl (by kernel_rfl) (by kernel_rfl) (by kernel_rfl) (fun _ _ _ h => h) ⟨Or.inl ⟨by rfl, (by intro w; go_simp)⟩, fun _ => rfl⟩ ?_
      refine wpAnyIn_take (i := 4) (v := .string Ds) rfl rfl (by kernel_rfl) (by kernel_rfl) (by kernel_rfl) (fun _ _ _ h => h) ⟨Or.inl ⟨by rfl, (by intro w; go_simp)⟩, fun _ => rfl⟩ ?_
      refine wpAnyIn_ready (rs := [3, 6]) (by kernel_rfl) (by simp) ?_
      refine AllReadyIn.cons rfl (fun K hK => ?_) ?_
      · go_simp
        gi_wp2_with (gi_at_call 33; refine (callsIn_wide.2 HCR.out).mono ?_; rintro e w5 ⟨rfl, hb5⟩; have K5 := Lib.hid hb5; obtain ⟨t1, t2⟩ := HW5.out w5 hb5; clear hb5)
        refine wpAnyIn_take (i := 5) (v := .string (Zs ++ Ds)) rfl rfl (by kernel_rfl) (by kernel_rfl) (by kernel_rfl) (fun _ _ _ h => h) ⟨Or.inl ⟨by rfl, (by intro w; go_simp)⟩, fun _ => rfl⟩ ?_
        refine wpAnyIn_ready (rs := [6]) (by kernel_rfl) (by simp) ?_
        refine AllReadyIn.cons rfl (fun K hK => ?_) ?_
        · go_simp
          refine hK _ _ ?_
          clear hK K
          refine wpAnyIn_take (i := 7) (v := .string (Zs ++ Ds ++ Ss)) rfl rfl (by kernel_rfl) (by kernel_rfl) (by kernel_rfl) (fun _ _ _ h => h) ⟨Or.inl ⟨by rfl, (by intro w; go_simp)⟩, fun _ => rfl⟩ ?_
          refine wpAnyIn_ready (rs := [8]) (by kernel_rfl) (by simp) ?_
          refine AllReadyIn.cons rfl (fun K hK => ?_) ?_
          · go_simp
            refine hK _ _ ?_
            clear hK K
            refine wpAnyIn_done (by kernel_rfl) ?_ _
            exact HL6.out _ K5.out
          exact AllReadyIn.nil
        exact AllReadyIn.nil
      refine AllReadyIn.cons rfl (fun K hK => ?_) ?_
      · go_simp
        refine hK _ _ ?_
        clear hK K
        refine wpAnyIn_ready (rs := [3]) (by kernel_rfl) (by simp) ?_
        refine AllReadyIn.cons rfl (fun K hK => ?_) ?_
        · go_simp
          gi_wp2_with (gi_at_call 33; refine (callsIn_wide.2 HCR.out).mono ?_; rintro e w5 ⟨rfl, hb5⟩; have K5 := Lib.hid hb5; obtain ⟨t1, t2⟩ := HW5.out w5 hb5; clear hb5)
          refine wpAnyIn_take (i := 5) (v := .string (Zs ++ Ds)) rfl rfl (by kernel_rfl) (by kernel_rfl) (by kernel_rfl) (fun _ _ _ h => h) ⟨Or.inl ⟨by rfl, (by intro w; go_simp)⟩, fun _ => rfl⟩ ?_
          refine wpAnyIn_take (i := 7) (v := .string (Zs ++ Ds ++ Ss)) rfl rfl (by kernel_rfl) (by kernel_rfl) (by kernel_rfl) (fun _ _ _ h => h) ⟨Or.inl ⟨by rfl, (by intro w; go_simp)⟩, fun _ => rfl⟩ ?_
          refine wpAnyIn_ready (rs := [8]) (by kernel_rfl) (by simp) ?_
          refine AllReadyIn.cons rfl (fun K hK => ?_) ?_
          · go_simp
            refine hK _ _ ?_
            clear hK K
            refine wpAnyIn_done (by kernel_rfl) ?_ _
            exact HL6.out _ K5.out
          exact AllReadyIn.nil
        exact AllReadyIn.nil
      exact AllReadyIn.nil
    case done =>
      intro D W hD hI hK
      have HI := Lib.hid hI
      have HKD := Lib.hid hK
      obtain ⟨k, hk⟩ : ∃ k, (parts N0).length = k := ⟨_, rfl⟩
      rw [hk] at HI
      have hbs := HI.out.s
      obtain ⟨Ss, hSs⟩ : ∃ S, strOfNums (pad (16 * k) N0) = S := ⟨_, rfl⟩
      rw [hSs] at hbs
      have HTL : Hid (∀ w' : World, Calls Tryz.prog 35 #[.string Ss, .string ⟨#[48]⟩] w' fun e w'' => e = .returned (.string (strOfNums (dec' N0))) ∧ w' = w'') := Lib.hid fun w' => by
        have h := Tryz.strings_TrimLeft_one Ss 48 (by decide) w'
        have hlt : N0 < 10 ^ (16 * k) := by rw [← hk, Nat.pow_mul]; exact parts_len N0
        rw [← hSs, trim_dec (pad_digits _ _), strip_pad hlt, hSs] at h
        exact h.mono fun e w'' h => ⟨h.1, h.2.symm⟩
      have HOR : Hid (∀ w' : World, Calls Tryz.prog 34 #[.slice (some ⟨w'.heap.size, 0, none⟩) 2 2] (w'.alloc (.cells #[.string (strOfNums (dec' N0)), .string ⟨#[48]⟩] 9)) fun e w'' => e = .returned (.string (strOfNums (dec N0))) ∧ w'.alloc (.cells #[.string (strOfNums (dec' N0)), .string ⟨#[48]⟩] 9) = w'') := Lib.hid fun w' => by
        have h := or_code (strOfNums (dec' N0)) w'
        have e : (if strOfNums (dec' N0) = ⟨#[]⟩ then (⟨#[48]⟩ : ByteArray) else strOfNums (dec' N0)) = strOfNums (dec N0) := by
          by_cases h0 : N0 = 0
          · subst h0
            rw [if_pos (by unfold dec'; rfl), dec_small (by decide)]
            rfl
          · have e1 : dec' N0 = dec N0 := if_neg h0
            rw [e1, if_neg fun h => ?_]
            have h2 := str_size (dec N0)
            rw [h] at h2
            obtain ⟨d, r, h3, _⟩ := dec_head h0
            rw [h3] at h2
            simp [ByteArray.size] at h2
        rw [e] at h
        exact h
      obtain ⟨S1, hS1⟩ : ∃ S, strOfNums (dec' N0) = S := ⟨_, rfl⟩
      rw [hS1] at HTL HOR
      have c1 := hbs.cell
      clear hI hK hSs hS1 hbs HI0
      gi_wp2_with (first | (gi_at_call 35; refine (callsIn_wide.2 (HTL.out _)).mono ?_; rintro e w2 ⟨rfl, rfl⟩) | (gi_at_call 34; refine (callsIn_wide.2 (HOR.out _)).mono ?_; rintro e w2 ⟨rfl, rfl⟩))
      refine ⟨by simp, .inl ⟨_, _, rfl, run_takeDeferred ((below_new W _).block D (Array.getElem?_eq_some_iff.1 HKD.out).1 |>.trans HKD.out), ?_⟩⟩
      refine ⟨.string (strOfNums (dec N0)), ?_, rfl, ?_⟩
      · simp [results, Tryz.f14, go_sem]
      · exact (below_end D _ ((HI.out.below.trans ((below_new W _).mono (Nat.le_trans (Nat.le_of_eq HZ.out) HI.out.below.size)))) (by omega) ((below_new W _).block D (Array.getElem?_eq_some_iff.1 HKD.out).1 |>.trans HKD.out) _).mono (Nat.le_of_eq HZ.out.symm)
theorem text_code {N : Nat → Prop} (v : Value) (A : List Int) (w : World) (hT : Tabs w) (h1 : Bts N w v A) (b1 : Bytes A) (l1 : A.length ≤ 1000000000000) : Calls Tryz.prog 14 #[v] w (ValB (.string (strOfNums (textO A))) w) := callsIn_wide.1 (text_in v A w hT h1 b1 l1)
end Go.Proofs.YtbfacdfmanffdaaGreatDoor
