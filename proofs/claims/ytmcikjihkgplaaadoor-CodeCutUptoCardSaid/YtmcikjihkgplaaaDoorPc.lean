/- The package's decode and At: what they answer. -/
import Derived.Test.YtmcikjihkgplaaaDoorPb
namespace Go.Proofs.YtmcikjihkgplaaaDoor
set_option maxRecDepth 1000000
open Go.ChangeShapes Go.WideShapes Go.ChangeAt Go.RowKit

theorem long_two {c : Int} (h : longN c = 2) (_h0 : 0 ≤ c) : (128 ≤ c ∧ c ≤ 130) ∨ c = 131 ∨ c = 133 ∨ (160 ≤ c ∧ c ≤ 175) := by
  unfold longN at h
  split at h
  · cases h
  · split at h
    · omega
    · cases h
theorem long_three {c : Int} (h : longN c = 3) : c = 132 ∨ c = 134 := by
  unfold longN at h
  split at h
  · assumption
  · split at h <;> cases h
/-- What the bytes of a whole instruction tell, but for how many there are. -/
def tellS (c n m : Int) : OpT := if longN c = 1 then shortO c else if longN c = 2 then wideO c n 0 else wideO c n m
theorem tellO_S (c n m : Int) : (tellO c n m).k = (tellS c n m).k ∧ (tellO c n m).n = (tellS c n m).n ∧ (tellO c n m).m = (tellS c n m).m ∧ (tellO c n m).l = longN c := ⟨rfl, rfl, rfl, rfl⟩
set_option maxHeartbeats 4000000 in
theorem decode_code (b off L cp : Nat) (c n m : Int) (w : World) (hT : Tabs w) (hbl : b < w.heap.size) (hcp : L ≤ cp) (h0 : w.cell? ⟨b, off, none⟩ = some (.int .u8 c)) (h1 : 1 < L → w.cell? ⟨b, off + 1, none⟩ = some (.int .u8 n)) (h2 : 2 < L → w.cell? ⟨b, off + 2, none⟩ = some (.int .u8 m)) (hl : (L : Int) = longN c)
    (c0 : 0 ≤ c) (c1 : c ≤ 255) (n0 : 0 ≤ n) (n1 : n ≤ 255) (m0 : 0 ≤ m) (m1 : m ≤ 255) :
    Calls Tryd.prog 23 #[.slice (some ⟨b, off, none⟩) L cp] w fun e w' => e = .returned (.agg #[.int .i64 (tellS c n m).k, .int .i64 (tellS c n m).n, .int .i64 (tellS c n m).m, .int .i64 (tellS c n m).l]) ∧ Below w.heap.size w w' := by
  have hlr := longN_rng c
  have HC : Hid (∀ w', Below w.heap.size w w' → w'.cell? ⟨b, off, none⟩ = some (.int .u8 c) ∧ (1 < L → w'.cell? ⟨b, off + 1, none⟩ = some (.int .u8 n)) ∧ (2 < L → w'.cell? ⟨b, off + 2, none⟩ = some (.int .u8 m))) := Lib.hid fun w' hb =>
    ⟨(hb.cell (p := ⟨b, off, none⟩) hbl).trans h0, fun h => (hb.cell (p := ⟨b, off + 1, none⟩) hbl).trans (h1 h), fun h => (hb.cell (p := ⟨b, off + 2, none⟩) hbl).trans (h2 h)⟩
  have B1 := Lib.hid (box_new w (.int .i64 0) (.int .i64 0) (.int .i64 0) (.int .i64 0))
  have K1 := Lib.hid (below_new w (.cells #[.int .i64 0, .int .i64 0, .int .i64 0, .int .i64 0] 25))
  have HT := Lib.hid hT
  have H3 := Lib.hid (@long_three c)
  have H2 := Lib.hid (@long_two c)
  unfold tellS
  clear hT h0 h1 h2
  rcases hlr with e | e | e
  · rw [e] at hl
    have hl1 : L = 1 := by omega
    have q0 := (HC.out _ K1.out).1
    have H1 := Lib.hid (fun w' (h : Below w.heap.size w w') => one_code c w' (HT.out.next h) c0 c1)
    rw [if_pos e, hl1]
    clear hl1 hl HC e H2 H3
    generalize shortO c = o at *
    go_enter Tryd.func23, Tryd.ntmps23
    go_upto_region 1 with fail
    generalize w.alloc (.cells #[.int .i64 0, .int .i64 0, .int .i64 0, .int .i64 0] 25) = w1 at *
    go_wp2_with (go_at_call 30; refine (H1.out _ K1.out).mono ?_; rintro e w2 ⟨rfl, hb2⟩; have B2 := Lib.hid (B1.out.next hb2); have K2 := Lib.hid (K1.out.trans (hb2.mono K1.out.size)); obtain ⟨⟨p0, p1, p2, p3⟩, pf, _⟩ := B2.out)
    refine bodyPost_ret (res_box rfl rfl (B2.out.put _ _ _ _)) rfl ?_
    exact ⟨rfl, put_belowO K2.out (Nat.le_refl _)⟩
  · rw [e] at hl
    have hl1 : L = 2 := by omega
    have q0 := (HC.out _ K1.out).1
    have q1 := (HC.out _ K1.out).2.1 (by omega)
    have H1 := Lib.hid (fun w' (h : Below w.heap.size w w') => two_code c n w' (HT.out.next h) (H2.out e c0) n0 n1)
    rw [if_neg (by omega), if_pos e, hl1]
    clear hl1 hl HC e H2 H3
    generalize wideO c n 0 = o at *
    go_enter Tryd.func23, Tryd.ntmps23
    go_upto_region 1 with fail
    generalize w.alloc (.cells #[.int .i64 0, .int .i64 0, .int .i64 0, .int .i64 0] 25) = w1 at *
    go_wp2_with (go_at_call 31; refine (H1.out _ K1.out).mono ?_; rintro e w2 ⟨rfl, hb2⟩; have B2 := Lib.hid (B1.out.next hb2); have K2 := Lib.hid (K1.out.trans (hb2.mono K1.out.size)); obtain ⟨⟨p0, p1, p2, p3⟩, pf, _⟩ := B2.out)
    refine bodyPost_ret (res_box rfl rfl (B2.out.put _ _ _ _)) rfl ?_
    exact ⟨rfl, put_belowO K2.out (Nat.le_refl _)⟩
  · rw [e] at hl
    have hl1 : L = 3 := by omega
    have q0 := (HC.out _ K1.out).1
    rw [if_neg (by omega), if_neg (by omega), hl1]
    have h3 := H3.out e
    have hw : wideO c n m = if c = 132 then o3 17 m n else o3 18 m n := by
      rcases h3 with rfl | rfl <;> rfl
    rw [hw]
    have hne : b ≠ w.heap.size := by omega
    have HC2 : Hid (∀ w', Below w.heap.size w w' → w'.cell? ⟨b, off + 1, none⟩ = some (.int .u8 n) ∧ w'.cell? ⟨b, off + 2, none⟩ = some (.int .u8 m)) := Lib.hid fun w' h => ⟨(HC.out w' h).2.1 (by omega), (HC.out w' h).2.2 (by omega)⟩
    clear hl1 hl HC e H2 H3 hw HT
    go_enter Tryd.func23, Tryd.ntmps23
    go_upto_region 1 with fail
    generalize w.alloc (.cells #[.int .i64 0, .int .i64 0, .int .i64 0, .int .i64 0] 25) = w1 at *
    go_upto_region 7 with fail
    clear q0
    obtain ⟨q1, q2⟩ := HC2.out (w1.drew) (K1.out.trans (below_drewN _ _ 1))
    obtain ⟨q3, q4⟩ := HC2.out ((w1.alloc (.cells #[.int .i64 0, .int .i64 0, .int .i64 0, .int .i64 0] 25)).drew) ((K1.out.alloc K1.out.size _).trans (below_drewN _ _ 1))
    go_region
    all_goals
      clear q1 q2 q3 q4
      have B4 := Lib.hid ((box_new w1 (.int .i64 17) (.int .i64 m) (.int .i64 n) (.int .i64 0)).next (below_drewN _ _ 1))
      have B2 := Lib.hid ((B1.out.next (below_new w1 (.cells #[.int .i64 17, .int .i64 m, .int .i64 n, .int .i64 0] 25))).next (below_drewN _ _ 1))
      have K2 := Lib.hid ((K1.out.alloc K1.out.size (.cells #[.int .i64 17, .int .i64 m, .int .i64 n, .int .i64 0] 25)).trans (below_drewN _ _ 1))
      change Hid (Box _ _ _ _ _ (w1.alloc (.cells #[.int .i64 17, .int .i64 m, .int .i64 n, .int .i64 0] 25)).drew) at B4
      change Hid (Box _ _ _ _ _ (w1.alloc (.cells #[.int .i64 17, .int .i64 m, .int .i64 n, .int .i64 0] 25)).drew) at B2
      change Hid (Below _ _ (w1.alloc (.cells #[.int .i64 17, .int .i64 m, .int .i64 n, .int .i64 0] 25)).drew) at K2
      have hne2 : w.heap.size ≠ w1.heap.size := Nat.ne_of_lt B1.out.2.2
      have hle : w.heap.size ≤ w1.heap.size := K1.out.size
      generalize (w1.alloc (.cells #[.int .i64 17, .int .i64 m, .int .i64 n, .int .i64 0] 25)).drew = w2 at *
      generalize w1.heap.size = g at *
      obtain ⟨⟨p0, p1, p2, p3⟩, pf, _⟩ := B2.out
      obtain ⟨⟨g0, g1, g2, g3⟩, gf, _⟩ := B4.out
      clear B1 K1
      rcases h3 with rfl | rfl
      · go_wp2_with fail
        refine bodyPost_ret (res_box rfl rfl (B2.out.put _ _ _ _)) rfl ?_
        exact ⟨rfl, put_belowO K2.out (Nat.le_refl _)⟩
      · go_wp2_with fail
        refine bodyPost_ret (res_box rfl rfl ((B2.out.other hne2 0 _).put _ _ _ _)) rfl ?_
        exact ⟨rfl, put_belowO (K2.out.setCell hle _) (Nat.le_refl _)⟩
theorem byt_at2 {N : Nat → Prop} {w : World} {v : Value} {bs : List Int} (h : Bts N w v bs) (h0 : 0 < bs.length) :
    ∃ b off c, v = .slice (some ⟨b, off, none⟩) bs.length c ∧ bs.length ≤ c ∧ b < w.heap.size ∧ ∀ i, i < bs.length → w.cell? ⟨b, off + i, none⟩ = some (.int .u8 (byt bs i)) := by
  obtain ⟨b, off, c, e, hb, hc⟩ := h.byt_at h0
  obtain ⟨a, c', e2, hle⟩ := h.form
  rw [e] at e2
  injection e2 with _ _ e3
  exact ⟨b, off, c, e, by omega, hb, hc⟩
set_option maxHeartbeats 4000000 in
theorem at_code {N : Nat → Prop} (v : Value) (bs : List Int) (a : Int) (w : World) (hT : Tabs w) (hv : Bts N w v bs) (hb : Bytes bs) (hl : bs.length ≤ 1000000000000000) (ha : -9223372036854775808 ≤ a ∧ a ≤ 9223372036854775807) :
    Calls Tryd.prog 12 #[v, .int .i64 a] w (AtPost bs a w) := by
  unfold AtPost
  obtain ⟨ln, hln⟩ : ∃ n, bs.length = n := ⟨_, rfl⟩
  by_cases hout : a < 0 ∨ (bs.length : Int) ≤ a
  · rw [(at_out hout).1, (at_out hout).2]
    obtain ⟨va, c, rfl, _⟩ := Bts.form hv
    rw [hln] at hout ⊢
    clear hv hln hl hb
    obtain ⟨ha1, ha2⟩ := ha
    have d : a < 0 ∨ (¬ a < 0 ∧ (ln : Int) ≤ a) := by omega
    clear hout
    have B1 := Lib.hid (box_new w (.int .i64 0) (.int .i64 0) (.int .i64 0) (.int .i64 0))
    have K1 := Lib.hid (below_new w (.cells #[.int .i64 0, .int .i64 0, .int .i64 0, .int .i64 0] 25))
    rcases d with d | ⟨d, d'⟩
    all_goals
      go_enter Tryd.func12, Tryd.ntmps12
      go_upto_region 1 with fail
      generalize w.alloc (.cells #[.int .i64 0, .int .i64 0, .int .i64 0, .int .i64 0] 25) = w1 at *
      obtain ⟨⟨p0, p1, p2, p3⟩, pf, _⟩ := B1.out
      go_wp2_with fail
      refine bodyPost_ret (res_box2 rfl rfl (B1.out.put _ _ _ _)) rfl ?_
      exact ⟨rfl, put_belowO K1.out (Nat.le_refl _)⟩
  · obtain ⟨i, rfl⟩ := Int.eq_ofNat_of_zero_le (show 0 ≤ a by omega)
    have hi : i < bs.length := by omega
    have HV := Lib.hid hv
    have HBy := Lib.hid hb
    obtain ⟨b, off, cp, rfl, hcp, hbl, hc⟩ := byt_at2 hv (by omega)
    have HC : Hid (∀ w', Below w.heap.size w w' → w'.cell? ⟨b, off + i, none⟩ = some (.int .u8 (byt bs i))) := Lib.hid fun w' hb => (hb.cell (p := ⟨b, off + i, none⟩) hbl).trans (hc i hi)
    obtain ⟨c0, c1⟩ := byt_rng hb i
    have HS := Lib.hid (fun w' => size_code (byt bs i) w' c0 c1)
    have B1 := Lib.hid (box_new w (.int .i64 0) (.int .i64 0) (.int .i64 0) (.int .i64 0))
    have K1 := Lib.hid (below_new w (.cells #[.int .i64 0, .int .i64 0, .int .i64 0, .int .i64 0] 25))
    by_cases hs : (bs.length : Int) - i < longN (byt bs i)
    · rw [(at_short hi hs).1, (at_short hi hs).2]
      rw [hln] at hi hs hl ⊢
      have hk := longN_rng (byt bs i)
      have hil : (i : Int) < ln := by omega
      have hi0 : (0 : Int) ≤ i := by omega
      have q0 := HC.out _ K1.out
      generalize longN (byt bs i) = k at *
      generalize byt bs i = c at *
      clear hv hc hb ha hout hln HC HV HBy
      go_enter Tryd.func12, Tryd.ntmps12
      go_upto_region 1 with fail
      generalize w.alloc (.cells #[.int .i64 0, .int .i64 0, .int .i64 0, .int .i64 0] 25) = w1 at *
      obtain ⟨⟨p0, p1, p2, p3⟩, pf, _⟩ := B1.out
      go_wp2_with (go_at_call 22; refine (HS.out _).mono ?_; rintro e w2 ⟨rfl, rfl⟩)
      refine bodyPost_ret (res_box2 rfl rfl (B1.out.put _ _ _ _)) rfl ?_
      exact ⟨rfl, put_belowO K1.out (Nat.le_refl _)⟩
    · rw [(at_in hi hs).1, (at_in hi hs).2]
      have hk := longN_rng (byt bs i)
      obtain ⟨k, hkk⟩ : ∃ k : Nat, longN (byt bs i) = (k : Int) := Int.eq_ofNat_of_zero_le (by omega)
      have e4 := tellO_S (byt bs i) (byt bs (i + 1)) (byt bs (i + 2))
      obtain ⟨e4, e5, e6, e7⟩ := e4
      rw [e4, e5, e6, e7]
      have hD : Hid (∀ w' cp', Below w.heap.size w w' → k ≤ cp' → Calls Tryd.prog 23 #[.slice (some ⟨b, off + i, none⟩) k cp'] w' fun e w'' => e = .returned (.agg #[.int .i64 (tellS (byt bs i) (byt bs (i + 1)) (byt bs (i + 2))).k, .int .i64 (tellS (byt bs i) (byt bs (i + 1)) (byt bs (i + 2))).n, .int .i64 (tellS (byt bs i) (byt bs (i + 1)) (byt bs (i + 2))).m, .int .i64 (tellS (byt bs i) (byt bs (i + 1)) (byt bs (i + 2))).l]) ∧ Below w'.heap.size w' w'') := Lib.hid fun w' cp' h hcp => by
        have hx : ∀ j, j < bs.length → w'.cell? ⟨b, off + j, none⟩ = some (.int .u8 (byt bs j)) := fun j hj => (h.cell (p := ⟨b, off + j, none⟩) hbl).trans (hc j hj)
        obtain ⟨n0, n1⟩ := byt_rng hb (i + 1)
        obtain ⟨m0, m1⟩ := byt_rng hb (i + 2)
        exact decode_code b (off + i) k cp' _ _ _ w' (hT.next h) (Nat.lt_of_lt_of_le hbl h.size) hcp (hx i hi) (fun h => hx (i + 1) (by omega)) (fun h => hx (i + 2) (by omega)) hkk.symm c0 c1 n0 n1 m0 m1
      have hcap : bs.length ≤ cp := hcp
      rw [hln] at hi hs hl hcap ⊢
      rw [hkk] at hs HS hk ⊢
      have q0 := HC.out _ K1.out
      generalize tellS (byt bs i) (byt bs (i + 1)) (byt bs (i + 2)) = o at *
      generalize byt bs i = c at *
      clear hc hb ha hout hln HC HV HBy hkk e4 e5 e6 e7 hT hcp
      have hil : (i : Int) < ln := by omega
      have hi0 : (0 : Int) ≤ i := by omega
      have d1 : (k : Int) ≤ ln - i := by omega
      have d2 : (i : Int) + k ≤ cp := by omega
      have d3 : ((i : Int) < cp) := by omega
      have d4 : ¬ cp = i := by omega
      go_enter Tryd.func12, Tryd.ntmps12
      go_upto_region 1 with fail
      generalize w.alloc (.cells #[.int .i64 0, .int .i64 0, .int .i64 0, .int .i64 0] 25) = w1 at *
      go_upto_region 6 with (go_at_call 22; refine (HS.out _).mono ?_; rintro e w2 ⟨rfl, rfl⟩)
      clear q0 HS
      go_upto_region 7 with (go_at_call 23; refine (hD.out _ _ K1.out (by omega)).mono ?_; rintro e w2 ⟨rfl, hb2⟩)
      have B3 := Lib.hid (box_new w2 (.int .i64 o.k) (.int .i64 o.n) (.int .i64 o.m) (.int .i64 o.l))
      have B2 := Lib.hid ((B1.out.next hb2).next (below_new w2 (.cells #[.int .i64 o.k, .int .i64 o.n, .int .i64 o.m, .int .i64 o.l] 25)))
      have K2 := Lib.hid ((K1.out.trans (hb2.mono K1.out.size)).alloc (Nat.le_trans K1.out.size hb2.size) (.cells #[.int .i64 o.k, .int .i64 o.n, .int .i64 o.m, .int .i64 o.l] 25))
      have hne : w.heap.size ≠ w2.heap.size := Nat.ne_of_lt (Nat.lt_of_lt_of_le B1.out.2.2 hb2.size)
      generalize w2.alloc (.cells #[.int .i64 o.k, .int .i64 o.n, .int .i64 o.m, .int .i64 o.l] 25) = w3 at *
      have hle : w.heap.size ≤ w2.heap.size := Nat.le_trans K1.out.size hb2.size
      generalize w2.heap.size = g at *
      clear hb2 B1 K1 hD
      obtain ⟨⟨p0, p1, p2, p3⟩, pf, _⟩ := B2.out
      obtain ⟨⟨g0, g1, g2, g3⟩, gf, _⟩ := B3.out
      go_wp2_with fail
      refine bodyPost_ret (res_box2 rfl rfl ((B2.out.other hne 3 _).put _ _ _ _)) rfl ?_
      exact ⟨rfl, put_belowO (K2.out.setCell hle _) (Nat.le_refl _)⟩
end Go.Proofs.YtmcikjihkgplaaaDoor
