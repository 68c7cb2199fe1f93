/- Package large's Cmp: how two numbers stand. -/
import Derived.Test.YtbfacdfmanffdaaGreatDoorJIn
import Derived.Test.YtbfacdfmanffdaaGreatDoorJSh
import Derived.StillTailTactics
import Derived.Deep.Cut
import Derived.Deep.CutRange
namespace Go.Proofs.YtbfacdfmanffdaaGreatDoor
set_option maxRecDepth 1000000
open Go.ChangeShapes Go.WideShapes Go.ChangeAt Go.RowKit Go.Shelf
attribute [local go_sem] Oper.semAt_some

/-- How many bytes trim leaves. -/
def trimK (bs : List Int) : Nat := (dig (val bs).toNat).length
theorem trim_is {N : Nat → Prop} (a : Option Addr) (n c : Nat) (bs : List Int) (w : World) (hv : Bts N w (.slice a n c) bs) (hb : Bytes bs) (hl : bs.length ≤ 1000000000000) :
    Calls Tryz.prog 38 #[.slice a n c] w fun e w' => e = .returned (.slice a (trimK bs) c) ∧ w = w' := by
  refine (trim_code _ bs w hv hb hl).mono ?_
  rintro e w' ⟨a', k, c', he, rfl, hk, ht, rfl⟩
  injection he with e1 e2 e3
  subst e1 e3
  refine ⟨?_, rfl⟩
  unfold trimK
  rw [← ht, List.length_take, Nat.min_eq_left hk]
theorem trimK_le {bs : List Int} (hb : Bytes bs) : trimK bs ≤ bs.length := by
  unfold trimK
  have h := val_lt hb
  rw [dig_len, Int.toNat_of_nonneg (val_nonneg hb)]
  exact h
theorem trimK_take : ∀ {bs : List Int}, Bytes bs → bs.take (trimK bs) = dig (val bs).toNat
  | [], _ => by rw [List.take_nil]; show [] = dig (0 : Int).toNat; simp [dig_zero]
  | d :: r, h => by
    have h1 := h d (by simp)
    have hr : Bytes r := fun n hn => h n (by simp [hn])
    have ih := trimK_take hr
    have hn := val_nonneg hr
    unfold trimK at ih ⊢
    have e : val (d :: r) = d + 256 * val r := rfl
    by_cases h0 : (val (d :: r)).toNat = 0
    · rw [h0, dig_zero]; rfl
    · rw [dig_pos h0, e]
      have e1 : (((d + 256 * val r).toNat % 256 : Nat) : Int) = d := by omega
      have e2 : (d + 256 * val r).toNat / 256 = (val r).toNat := by omega
      rw [e1, e2, List.length_cons, List.take_succ_cons, ih]
theorem trimK_val {bs : List Int} (h : Bytes bs) : val (bs.take (trimK bs)) = val bs := by rw [trimK_take h, val_dig, Int.toNat_of_nonneg (val_nonneg h)]
theorem trimK_less {A B : List Int} (hA : Bytes A) (hB : Bytes B) (h : trimK A < trimK B) : val A < val B := by
  refine Int.lt_of_not_ge fun hc => ?_
  have : trimK B ≤ trimK A := by
    unfold trimK
    rw [dig_len, Int.toNat_of_nonneg (val_nonneg hB)]
    have h1 := (dig_len (n := (val A).toNat) (k := (dig (val A).toNat).length)).1 (Nat.le_refl _)
    rw [Int.toNat_of_nonneg (val_nonneg hA)] at h1
    exact Int.lt_of_le_of_lt hc h1
  omega
set_option maxHeartbeats 4000000 in
theorem cmp_byte (x y : Int) (w : World) : Calls Tryz.prog 79 #[.int .u8 x, .int .u8 y] w fun e w' => e = .returned (.int .i64 (cmpV x y)) ∧ w = w' := by
  have hn : ∀ (z : Int) (w : World), Calls Tryz.prog 95 #[.int .u8 z] w fun e w' => e = .returned (.bool false) ∧ w = w' := fun z w => by
    go_enter Tryz.func95, Tryz.ntmps95
    go_wp2_with fail
    go_ret
    exact ⟨by simp, rfl⟩
  have HN := Lib.hid hn
  clear hn
  rcases Int.lt_trichotomy x y with h | h | h
  · rw [cmpV_lt h]
    have d1 : decide (x < y) = true := by simpa using h
    clear h
    go_enter Tryz.func79, Tryz.ntmps79
    go_wp2_with (go_at_call 95; refine (HN.out _ _).mono ?_; rintro e w2 ⟨rfl, rfl⟩)
    go_ret
    exact ⟨rfl, rfl⟩
  · subst h
    rw [cmpV_eq]
    have d1 : decide (x < x) = false := by simp
    go_enter Tryz.func79, Tryz.ntmps79
    go_wp2_with (go_at_call 95; refine (HN.out _ _).mono ?_; rintro e w2 ⟨rfl, rfl⟩)
    go_ret
    exact ⟨rfl, rfl⟩
  · rw [cmpV_gt h]
    have d1 : decide (x < y) = false := by simp; omega
    have d2 : decide (y < x) = true := by simpa using h
    clear h
    go_enter Tryz.func79, Tryz.ntmps79
    go_wp2_with (go_at_call 95; refine (HN.out _ _).mono ?_; rintro e w2 ⟨rfl, rfl⟩)
    go_ret
    exact ⟨rfl, rfl⟩
theorem cmp_int (x y : Int) (w : World) : Calls Tryz.prog 78 #[.int .i64 x, .int .i64 y] w fun e w' => e = .returned (.int .i64 (cmpV x y)) ∧ w = w' := by
  refine (Tryz.cmp_Compare_int x y w).mono ?_
  rintro e w' ⟨rfl, rfl⟩
  refine ⟨?_, rfl⟩
  rcases Int.lt_trichotomy x y with h | h | h
  · rw [cmpV_lt h]; simp [Lib.compareInt, h]
  · subst h; rw [cmpV_eq]; simp [Lib.compareInt]
  · rw [cmpV_gt h]; simp [Lib.compareInt, h, show ¬ x < y by omega]
/-- Cmp's memory: its second argument's box, its result's. -/
structure CmR (w : World) (z : Nat) (v : Value) (W : World) : Prop where
  below : Below w.heap.size w W
  arg : Boxed W z 22 v
  res : Boxed W (z + 1) 3 (.int .i64 0)
  size : W.heap.size = z + 1 + 1
/-- Between two rounds: all that has come is the same. -/
structure CmI (w : World) (z : Nat) (v : Value) (a : Option Addr) (c : Nat) (X Y : List Int) (L : Nat) (k : Nat) (W : World) : Prop where
  below : Below w.heap.size w W
  arg : Boxed W z 22 v
  res : Boxed W (z + 1) 3 (.int .i64 0)
  rd : BackRd (z + 1 + 1) a c X L k W
  same : ∀ i, L - k ≤ i → dgt X i = dgt Y i
theorem CmI.own {w : World} {z : Nat} {v : Value} {a : Option Addr} {c : Nat} {X Y : List Int} {L B : Nat} (hB : w.heap.size ≤ B) : OwnFrom B (CmI w z v a c X Y L) := fun _ _ _ _ h hg hr =>
  have hc := fun r e => (hr r e).2
  ⟨below_grown h.below (Nat.le_refl _) hg fun r e => Nat.le_trans hB (hr r e).1, box_grown h.arg hg hc, box_grown h.res hg hc, h.rd.grown hg hc, h.same⟩
theorem CmI.next {w : World} {z : Nat} {v : Value} {a : Option Addr} {c : Nat} {X Y : List Int} {L k : Nat} {W W' : World} (h : CmI w z v a c X Y L k W) (hb : Below W.heap.size W W') : CmI w z v a c X Y L k W' :=
  ⟨h.below.trans (hb.mono h.below.size), box_next h.arg hb h.arg.lt, box_next h.res hb h.res.lt, h.rd.next hb, h.same⟩
structure CmX (w : World) (z : Nat) (r : Int) (c : Code) (W : World) : Prop where
  ret : c = .ret
  below : Below w.heap.size w W
  res : Boxed W (z + 1) 3 (.int .i64 r)
theorem CmX.own {w : World} {z : Nat} {r : Int} {B : Nat} (hB : w.heap.size ≤ B) : OwnFrom B (CmX w z r) := fun _ _ _ _ h hg hr =>
  have hc := fun r e => (hr r e).2
  ⟨h.ret, below_grown h.below (Nat.le_refl _) hg fun r e => Nat.le_trans hB (hr r e).1, box_grown h.res hg hc⟩
set_option maxHeartbeats 8000000 in
theorem cmp_code {N M : Nat → Prop} (v1 v2 : Value) (A B : List Int) (w : World) (h1 : Bts N w v1 A) (b1 : Bytes A) (l1 : A.length ≤ 1000000000000) (h2 : Bts M w v2 B) (b2 : Bytes B) (l2 : B.length ≤ 1000000000000) : Calls Tryz.prog 62 #[v1, v2] w (ValB (.int .i64 (cmpV (val A) (val B))) w) := by
  have HV1 : Hid (Bts (· < w.heap.size) w v1 A) := Lib.hid (Bts.kind h1 fun b h _ => h)
  have HV2 : Hid (Bts (· < w.heap.size) w v2 B) := Lib.hid (Bts.kind h2 fun b h _ => h)
  have HB1 := Lib.hid b1
  have HB2 := Lib.hid b2
  have HLA := Lib.hid l1
  have HLB := Lib.hid l2
  obtain ⟨a1, c1, rfl, hc1⟩ := Bts.form h1
  obtain ⟨a2, c2, rfl, hc2⟩ := Bts.form h2
  obtain ⟨n1, e1⟩ : ∃ k, A.length = k := ⟨_, rfl⟩
  obtain ⟨n2, e2⟩ : ∃ k, B.length = k := ⟨_, rfl⟩
  rw [e1] at hc1 HV1 l1 ⊢
  rw [e2] at hc2 HV2 l2 ⊢
  have T1 : Hid (∀ u, Below w.heap.size w u → ∀ w', w'.heap = u.heap → Calls Tryz.prog 38 #[.slice a1 n1 c1] w' fun e w'' => e = .returned (.slice a1 (trimK A) c1) ∧ w' = w'') := Lib.hid fun u hb w' hh => trim_is _ _ _ A w' ((HV1.out.next hb).heap hh) HB1.out HLA.out
  have T2 : Hid (∀ u, Below w.heap.size w u → ∀ w', w'.heap = u.heap → Calls Tryz.prog 38 #[.slice a2 n2 c2] w' fun e w'' => e = .returned (.slice a2 (trimK B) c2) ∧ w' = w'') := Lib.hid fun u hb w' hh => trim_is _ _ _ B w' ((HV2.out.next hb).heap hh) HB2.out HLB.out
  obtain ⟨z, hz⟩ : ∃ z, w.heap.size = z := ⟨_, rfl⟩
  unfold ValB
  refine (callsIn_wide (n := 6)).1 (callsIn_of_wp_marks Tryz.func62 rfl trivial ?_ rfl)
  refine wpIn_wide.2 ?_
  simp only [Tryz.ntmps62, List.size_toArray, List.length_cons, List.length_nil, Nat.reduceAdd, Nat.reduceSub, Array.replicate_succ, Array.replicate_zero, List.push_toArray, List.append_toArray, List.nil_append, List.cons_append]
  go_upto_region 1 with fail
  obtain ⟨W1, hW1⟩ : ∃ W1, (w.alloc (.cells #[.slice a2 n2 c2] 22)).alloc (.cells #[.int .i64 0] 3) = W1 := ⟨_, rfl⟩
  have x1 := Boxed.new w 22 (.slice a2 n2 c2)
  have x2 := Boxed.new (w.alloc (.cells #[.slice a2 n2 c2] 22)) 3 (.int .i64 0)
  simp only [World.size_alloc, hz] at x1 x2
  replace x1 := x1.alloc (.cells #[.int .i64 0] 3)
  have K1 : Hid (Below w.heap.size w W1) := by rw [← hW1]; exact Lib.hid (((Below.refl _ w).alloc (Nat.le_refl _) _).alloc (by simp) _)
  rw [hW1] at x1 x2 ⊢
  have hs1 : W1.heap.size = z + 1 + 1 := by rw [← hW1]; simp [hz]
  replace T1 := Lib.hid (T1.out W1 K1.out)
  replace T2 := Lib.hid (T2.out W1 K1.out)
  have q1 := x1.cell
  have g1 := x1.frozen
  have HZ := Lib.hid hz.symm
  have X1 := Lib.hid x1
  have X2 := Lib.hid x2
  have HS1 := Lib.hid hs1
  obtain ⟨k1, hk1⟩ : ∃ k, trimK A = k := ⟨_, rfl⟩
  obtain ⟨k2, hk2⟩ : ∃ k, trimK B = k := ⟨_, rfl⟩
  rw [hk1] at T1
  rw [hk2] at T2
  have HK1 := Lib.hid hk1
  have HK2 := Lib.hid hk2
  have HN1 := Lib.hid e1
  have HN2 := Lib.hid e2
  clear hW1 hz x1 x2 hs1 hk1 hk2 h1 h2 b1 b2 e1 e2
  go_cut [0] from 9 to 12 (fun s0 wx => s0 = .slice a1 k1 c1 ∧ Hid (CmR w z (.slice a2 k2 c2) wx))
  case first =>
    rename_i hJ hM
    have HF : Hid (CmR w z (.slice a2 k2 c2) ((W1.setCell ⟨z, 0, none⟩ (.slice a2 k2 c2)).drew)) := Lib.hid
      ⟨below_drews (K1.out.setCell (p := ⟨z, 0, none⟩) (by show w.heap.size ≤ z; rw [HZ.out]; exact Nat.le_refl _) _) 1, X1.out.set _, X2.out.other (by omega) _, by show (W1.setCell _ _).heap.size = _; simp [World.setCell]; exact HS1.out⟩
    refine then_no ?_
    go_region_with (first | (go_at_call 38; with_reducible refine (T1.out W1.drew rfl).mono ?_; rintro e w5 ⟨rfl, rfl⟩) | (go_at_call 38; with_reducible refine (T2.out W1.drew rfl).mono ?_; rintro e w5 ⟨rfl, rfl⟩))
    all_goals exact hM _ _ (hJ _ _ ⟨_, _, _, _, _, ⟨rfl, HF⟩, rfl⟩)
  case rest =>
    obtain ⟨rfl, HC⟩ := hcut
    obtain ⟨r, hr⟩ : ∃ r, cmpV (val A) (val B) = r := ⟨_, rfl⟩
    have HRr := Lib.hid hr
    have CI := Lib.hid cmp_int
    have CB := Lib.hid cmp_byte
    have qa := HC.out.arg.cell
    have qr := HC.out.res.cell
    have fr := HC.out.res.frozen
    have D1 := Lib.hid (trimK_less HB1.out HB2.out)
    have D2 := Lib.hid (trimK_less HB2.out HB1.out)
    have D3 := Lib.hid (trimK_val HB1.out)
    have D4 := Lib.hid (trimK_val HB2.out)
    have D5 := Lib.hid (trimK_le HB1.out)
    have D6 := Lib.hid (trimK_le HB2.out)
    rw [HK1.out, HK2.out] at D1
    rw [HK1.out, HK2.out] at D2
    rw [HK1.out] at D3 D5
    rw [HK2.out] at D4 D6
    clear T1 T2 X1 X2 K1 HS1 q1 g1 HK1 HK2 hr
    by_cases hk : k1 = k2
    · subst hk
      obtain ⟨W0, hW0⟩ : ∃ W0, wc.alloc (.cells #[.slice a1 k1 c1] 22) = W0 := ⟨_, rfl⟩
      have HX : Hid (Bytes (A.take k1) ∧ (A.take k1).length = k1) := Lib.hid ⟨take_bytes HB1.out _, by rw [List.length_take]; exact Nat.min_eq_left D5.out⟩
      have HY : Hid (Bytes (B.take k1) ∧ (B.take k1).length = k1) := Lib.hid ⟨take_bytes HB2.out _, by rw [List.length_take]; exact Nat.min_eq_left D6.out⟩
      have HI0 : Hid (CmI w z (.slice a2 k1 c2) a1 c1 (A.take k1) (B.take k1) k1 0 W0) := Lib.hid (by
        have hb : Below w.heap.size w W0 := by rw [← hW0]; exact HC.out.below.alloc HC.out.below.size _
        have x3 := Boxed.new wc 22 (.slice a1 k1 c1)
        rw [HC.out.size] at x3
        refine ⟨hb, ?_, ?_, ⟨?_, fun i hi => ?_⟩, fun i hi => ?_⟩
        · rw [← hW0]; exact HC.out.arg.alloc _
        · rw [← hW0]; exact HC.out.res.alloc _
        · rw [← hW0]; exact x3.cell
        · obtain ⟨b, o, c', he, _, hlt, _, h⟩ := bts_cells HV1.out (by have := D5.out; omega)
          injection he with e _ _
          exact ⟨b, o, e, (hb.cell (p := ⟨b, o + i, none⟩) hlt).trans (by rw [dgt_take (by omega)]; exact h i (by have := D5.out; omega))⟩
        · rw [dgt_out (by rw [HX.out.2]; omega), dgt_out (by rw [HY.out.2]; omega)])
      have HCB : Hid (∀ W, Below w.heap.size w W → ∀ i, i < k1 → ∃ b o, a2 = some ⟨b, o, none⟩ ∧ W.cell? ⟨b, o + i, none⟩ = some (.int .u8 (dgt (B.take k1) i))) := Lib.hid fun W hb i hi => by
        obtain ⟨b, o, c', he, _, hlt, _, h⟩ := bts_cells HV2.out (by have := D6.out; omega)
        injection he with e _ _
        exact ⟨b, o, e, (hb.cell (p := ⟨b, o + i, none⟩) hlt).trans (by rw [dgt_take hi]; exact h i (by have := D6.out; omega))⟩
      have hkl : k1 ≤ 1000000000000 := by have := D5.out; have := HLA.out; omega
      have HCC : Hid (k1 ≤ c1) := Lib.hid (by have := D5.out; have := HN1.out; omega)
      have hz2 : wc.heap.size = z + 1 + 1 := HC.out.size
      have hwz : w.heap.size ≤ z + 1 + 1 := by rw [← hz2]; exact HC.out.below.size
      go_upto_region 5 with (go_at_call 78; refine (CI.out _ _ _).mono ?_; rintro e w5 ⟨rfl, rfl⟩; rw [cmpV_eq])
      go_wp2_with (go_at_call 22; refine (back_any _ _ _ _).mono ?_; rintro e w2 ⟨rfl, rfl⟩)
      (try rw [hW0])
      (try rw [hz2])
      have hs0 : W0.heap.size = z + 1 + 1 + 1 := by rw [← hW0]; simp [hz2]
      clear hW0 hz2 HC qa qr fr D1 D2 CI
      refine (wpIn_wide (n := 6)).1 (rangeFunc_x rfl (by decide) (gf := 41) (lb := #[.pointer (some ⟨z + 1 + 1, 0, none⟩)]) rfl trivial eg_back (back_gives (6 - 1) (by decide) _ a1 c1 (A.take k1) k1 hkl HCC.out) abNew_kept (fun _ _ _ _ _ _ => trivial) (fun _ _ _ _ _ _ => trivial) (fun _ => rfl)
        (CmI w z (.slice a2 k1 c2) a1 c1 (A.take k1) (B.take k1) k1) (CmX w z r) (CmI.own (by omega)) (CmX.own (by omega)) (fun k A h => h.rd) (fun k A B h hab => h.next hab) HI0.out ?round ?done ?stop)
      case round =>
        have fcb : Fence.wide.fn 79 := trivial
        rintro l k ⟨i, d⟩ W hx
        obtain ⟨hk, he⟩ := backL_is hx
        injection he with he1 he2
        rw [← he1] at he2
        have hik : k1 - k = i + 1 := by omega
        have hd := dgt_rng HX.out.1 i
        rw [← he2] at hd
        have HIK : Hid (k1 - k = i + 1 ∧ k1 - (k + 1) = i ∧ i < k1) := Lib.hid ⟨hik, by omega, by omega⟩
        have hi : i < k1 := by omega
        have HD := Lib.hid he2
        clear hx he1 he2 hik hk HI0
        simp only [encB]
        gi_wp2
        refine Asg.mk ?_
        intro W1 hI hsz
        have HI := Lib.hid hI
        have ca := hI.arg.cell
        have cr := hI.res.cell
        have gr := hI.res.frozen
        obtain ⟨b, o, rfl, q⟩ := HCB.out W1 hI.below i hi
        obtain ⟨y, hy⟩ : ∃ y, dgt (B.take k1) i = y := ⟨_, rfl⟩
        rw [hy] at q
        have HYY := Lib.hid hy
        have HCMP : Hid ((d < y → r = -1) ∧ (y < d → r = 1) ∧ (d = y → ∀ j, i ≤ j → dgt (A.take k1) j = dgt (B.take k1) j)) := Lib.hid (by
          have h := cmp_at HX.out.1 HY.out.1 (M := k1) (j := i) (by rw [HX.out.2]; exact Nat.le_refl _) (by rw [HY.out.2]; exact Nat.le_refl _) hi (fun j hj => hI.same j (by have := HIK.out.1; omega))
          rw [← HD.out, hy, D3.out, D4.out, HRr.out] at h
          refine ⟨h.1, h.2, fun e j hj => ?_⟩
          by_cases hji : j = i
          · rw [hji, ← HD.out, hy, e]
          · exact hI.same j (by have := HIK.out.1; omega))
        have hi1 : (i : Int) < k1 := by omega
        clear hI hy HCB
        by_cases hdy : d = y
        · subst hdy
          have HN : Hid (CmI w z (.slice (some ⟨b, o, none⟩) k1 c2) a1 c1 (A.take k1) (B.take k1) k1 (k + 1) W1) := Lib.hid ⟨HI.out.below, HI.out.arg, HI.out.res, HI.out.rd.less, fun j hj => HCMP.out.2.2 rfl j (by have := HIK.out.2.1; omega)⟩
          clear HI HCMP HIK
          gi_wp2_with (gi_at_call 79; refine (CallsIn.inRound l (callsIn_wide.2 (CB.out _ _ _))).mono ?_; rintro e w5 ⟨rfl, rfl⟩; rw [cmpV_eq])
          exact ⟨(KeepsOthers.refl _).from _, trivial, HN.out⟩
        · have hr3 : cmpV d y = r ∧ (r != 0) = true := by
            rcases Int.lt_trichotomy d y with h | h | h
            · rw [cmpV_lt h, HCMP.out.1 h]; exact ⟨rfl, by decide⟩
            · exact (hdy h).elim
            · rw [cmpV_gt h, HCMP.out.2.1 h]; exact ⟨rfl, by decide⟩
          obtain ⟨hr3, hr4⟩ := hr3
          have HR3 := Lib.hid hr3
          have HN : Hid (CmX w z r .ret (W1.setCell ⟨z + 1, 0, none⟩ (.int .i64 r))) := Lib.hid ⟨rfl, HI.out.below.setCell (p := ⟨z + 1, 0, none⟩) (by show w.heap.size ≤ z + 1; rw [← HZ.out]; omega) _, HI.out.res.set _⟩
          clear HI HCMP HIK hr3 hdy
          gi_wp2_with (gi_at_call 79; refine (CallsIn.inRound l (callsIn_wide.2 (CB.out _ _ _))).mono ?_; rintro e w5 ⟨rfl, rfl⟩; rw [HR3.out])
          exact ⟨(KeepsOthers.setCell _ _ _).from _, trivial, HN.out⟩
      case done =>
        intro D W hD hI hK
        rw [backL_len] at hI
        have HI := Lib.hid hI
        have cr := hI.res.cell
        have gr := hI.res.frozen
        have HR0 : Hid (r = 0) := Lib.hid (by
          have h := cmp_same (X := A.take k1) (Y := B.take k1) (M := k1) (by rw [HX.out.2]; exact Nat.le_refl _) (by rw [HY.out.2]; exact Nat.le_refl _) (fun i => hI.same i (by omega))
          rwa [D3.out, D4.out, HRr.out] at h)
        clear hI HI0
        go_wp2_with fail
        have hk1 := (KeepsOthers.setCell W ⟨z + 1, 0, none⟩ (.int .i64 0)).same D _ hK rfl
        refine ⟨by simp, .inl ⟨_, _, rfl, run_takeDeferred hk1, ?_⟩⟩
        have y1 := cell_end hk1 rfl (.deferred none) (HI.out.res.set (.int .i64 0)).cell
        refine ⟨.int .i64 0, ?_, by rw [HRr.out, HR0.out], below_end D _ (HI.out.below.setCell (p := ⟨z + 1, 0, none⟩) (by show w.heap.size ≤ z + 1; rw [← HZ.out]; omega) _) (by omega) hk1 _⟩
        simp [results, Tryz.f62, go_sem, y1]
      case stop =>
        rintro D c W hD hX hK
        obtain ⟨rfl, hb, c1⟩ := hX
        have y1 := cell_end hK rfl (.deferred none) c1.cell
        refine (wpIn_wide (n := 6)).2 ?_
        clear HI0
        go_wp2_with fail
        refine ⟨by simp, .inl ⟨_, _, rfl, run_takeDeferred hK, ?_⟩⟩
        refine ⟨.int .i64 r, ?_, by rw [HRr.out], below_end D _ hb (by omega) hK _⟩
        simp [results, Tryz.f62, go_sem, y1]
    · have hr2 : Hid (cmpV (k1 : Int) k2 = r) := Lib.hid (by
        rw [← HRr.out]
        rcases Nat.lt_or_gt_of_ne hk with h | h
        · rw [cmpV_lt (D1.out h), cmpV_lt (by omega)]
        · rw [cmpV_gt (D2.out h), cmpV_gt (by omega)])
      have hr3 : (r != 0) = true := by
        rw [← hr2.out]
        rcases Nat.lt_or_gt_of_ne hk with h | h
        · rw [cmpV_lt (by omega)]; decide
        · rw [cmpV_gt (by omega)]; decide
      clear hk D1 D2 D3 D4 D5 D6
      go_wp2_with (go_at_call 78; refine (CI.out _ _ _).mono ?_; rintro e w5 ⟨rfl, rfl⟩; rw [hr2.out])
      have y1 := (HC.out.res.set (.int .i64 r)).cell
      refine ⟨.int .i64 r, ?_, by rw [HRr.out], HC.out.below.setCell (p := ⟨z + 1, 0, none⟩) (by show w.heap.size ≤ z + 1; rw [← HZ.out]; omega) _⟩
      simp [results, Tryz.f62, go_sem, y1]
end Go.Proofs.YtbfacdfmanffdaaGreatDoor
