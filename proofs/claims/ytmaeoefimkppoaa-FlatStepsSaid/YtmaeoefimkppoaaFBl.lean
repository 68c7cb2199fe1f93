/- What Blank and Ref of package flat return. -/
import Derived.Test.YtmaeoefimkppoaaFRe
namespace Go.Proofs.Ytmaeoefimkppoaa.Fl
set_option maxRecDepth 1000000
open Go.ChangeShapes Go.WideShapes Go.ChangeAt Go.RowKit
open Go.Proofs.Ytmaeoefimkppoaa.Wd

theorem repeat_any (b c : Nat) (n : Nat) (hn : n ≤ 1000) (w : World) (hb : w.cell? ⟨b, 0, none⟩ = some (.int .i64 2)) :
    Calls Try.prog 63 #[.slice (some ⟨b, 0, none⟩) 1 c, .int .i64 n] w (GaveI (List.replicate n 2) w) := by
  cases n with
  | zero => exact repeat_zero b c w
  | succ n => exact repeat_more b c n hn w hb
def BlankNo (w : World) (e : Ending) (w' : World) : Prop := e = .returned (.tuple #[zObj, .bool false]) ∧ Below w.heap.size w w'
def BlankYes (c k : Int) (n : Nat) (w : World) (e : Ending) (w' : World) : Prop :=
  ∃ rv, e = .returned (.tuple #[En.val ⟨blk c k n, rv⟩, .bool true]) ∧ En.Row w' ⟨blk c k n, rv⟩ ∧ (∀ g, rv.ownBlock = some g → w.heap.size ≤ g) ∧ Below w.heap.size w w'
def BlankPost (c k n : Int) (w : World) (e : Ending) (w' : World) : Prop := (okN c k n = true ∧ BlankYes c k n.toNat w e w') ∨ (okN c k n = false ∧ BlankNo w e w')

theorem two_new (w : World) (x y : Value) : Box w.heap.size (.int .i64 0) (.int .i64 0) (.slice none 0 0) (.slice none 0 0) ((w.alloc (.cells #[.int .i64 0, .int .i64 0, .slice none 0 0, .slice none 0 0] 33)).alloc (.cells #[x, y, .slice none 0 0, .slice none 0 0] 33)) ∧
    Box (w.heap.size + 1) x y (.slice none 0 0) (.slice none 0 0) ((w.alloc (.cells #[.int .i64 0, .int .i64 0, .slice none 0 0, .slice none 0 0] 33)).alloc (.cells #[x, y, .slice none 0 0, .slice none 0 0] 33)) := two_boxes w _ _ _ _ _ _ _ _

set_option maxHeartbeats 1000000 in
theorem blank_bad (c k n : Int) (w : World) (hn : n < 0 ∨ 1000 < n) : Calls Try.prog 39 #[.int .i64 c, .int .i64 k, .int .i64 n] w (BlankPost c k n w) := by
  have hk : okN c k n = false := by
    unfold okN
    rw [Bool.and_eq_false_iff]
    right
    rw [decide_eq_false_iff_not]; omega
  have HK := Lib.hid hk
  clear hk
  by_cases h0 : n < 0
  · go_enter Try.func39, Try.ntmps39
    go_wp2
    refine bodyPost_ret (res_box2 rfl rfl (box_new w _ _ _ _)) rfl (.inr ⟨HK.out, rfl, (Below.refl _ _).alloc (Nat.le_refl _) _⟩)
  · have h1 : 1000 < n := by omega
    go_enter Try.func39, Try.ntmps39
    go_wp2
    refine bodyPost_ret (res_box2 rfl rfl (box_new w _ _ _ _)) rfl (.inr ⟨HK.out, rfl, (Below.refl _ _).alloc (Nat.le_refl _) _⟩)

theorem mk_bytes (w : World) (n : Nat) (hn : n ≤ 1000000) : (Instr.makeSlice 31 (.int .i64 n) (.int .i64 n)).run Try.prog w = .ok (.slice (some ⟨w.heap.size, 0, none⟩) n n) (w.alloc (.cells (madeCells #[Value.int .u8 0] n) 5)) := by
  obtain ⟨i0, hi, hz0, hz1, hz2⟩ := info_parts Try.info5
  have h := run_make (P := Try.prog) w 31 5 i0 (.int .u8 0) Try.underlying31 hi hz0 .i64 .i64 (n : Int) (n : Int) (by omega) (by omega) (by rw [hz2]; omega) (by omega)
  rw [hz1] at h
  simpa [Value.cells] using h
theorem own_of_is {w : World} {g n : Nat} {t : TypeId} {v : Value} (h : w.rowIs g t n fun _ => v) (hn : n ≤ 1000000) : w.ownsRow g t 1 (.slice (some ⟨g, 0, none⟩) n n) n (List.replicate n v) := by
  obtain ⟨c, h1, h2, h3⟩ := h
  refine ⟨by simp, .inr ⟨_, _, c, rfl, Nat.le_refl _, h1, Nat.le_refl _, by unfold maxLen; omega, by omega, ?_⟩⟩
  apply List.ext_getElem?
  intro j
  by_cases hj : j < n
  · rw [List.getElem?_take, if_pos (by omega), Array.getElem?_toList, h3 j hj, List.getElem?_replicate, if_pos hj]
  · rw [List.getElem?_eq_none (by simp; omega), List.getElem?_eq_none (by simp; omega)]
theorem objAt_blk {w : World} {c k : Int} (hc : In64 c) (hk : In64 k) {n : Nat} {wv bv : Value} (h1 : w.ownsRow 0 3 1 wv (blk c k n).w.length ((blk c k n).w.map (Value.int .i64))) (h2 : w.ownsRow 0 5 1 bv (blk c k n).b.length ((blk c k n).b.map (Value.int .u8))) :
    ObjAt w (.agg #[.int .i64 c, .int .i64 k, wv, bv]) (blk c k n) := by
  refine ⟨wv, bv, rfl, .own h1 ?_, .own h2 (blk_byL c k n), hc, hk⟩
  intro v hv
  unfold blk at hv
  dsimp only at hv
  split at hv
  · simp at hv; omega
  · cases hv
theorem chk_okN {c k : Int} {n : Nat} (hn : n ≤ 1000) : (chk (blk c k n) != 0) = !okN c k n := by
  unfold chk
  rw [okO_blk hn]
  cases okN c k n <;> rfl
def Bx2 (w : World) (c k : Int) (wv bv : Value) (w' : World) : Prop :=
  Box w.heap.size (.int .i64 0) (.int .i64 0) (.slice none 0 0) (.slice none 0 0) w' ∧ Box (w.heap.size + 1) (.int .i64 c) (.int .i64 k) wv bv w' ∧ Below w.heap.size w w'
theorem Bx2.kept {w w' w'' : World} {c k : Int} {wv bv : Value} (h : Bx2 w c k wv bv w') (hb : Below w'.heap.size w' w'') : Bx2 w c k wv bv w'' :=
  ⟨h.1.next hb, h.2.1.next hb, h.2.2.trans (hb.mono h.2.2.size)⟩

set_option maxHeartbeats 1000000 in
theorem blank_other (c k : Int) (n : Nat) (w : World) (hc : In64 c) (hk : In64 k) (hn : n ≤ 1000) (h1 : k ≠ 1) (h2 : k ≠ 2) : Calls Try.prog 39 #[.int .i64 c, .int .i64 k, .int .i64 n] w (BlankPost c k n w) := by
  have hN : okN c k n = false := by
    unfold okN
    rw [Bool.and_eq_false_iff]
    left
    rw [Bool.and_eq_false_iff]
    right
    rw [decide_eq_false_iff_not]; omega
  have HK := Lib.hid hN
  have HC : Hid (∀ w', Calls Try.prog 54 #[.agg #[.int .i64 c, .int .i64 k, .slice none 0 0, .slice none 0 0]] w' fun e w'' => ∃ t : Int, e = .returned (.int .i64 t) ∧ (t != 0) = true ∧ Below w'.heap.size w' w'') := fun w' => by
    have hb : blk c k n = ⟨c, k, [], []⟩ := by simp [blk, h1, h2]
    refine (check_all _ (blk c k n) w' (objAt_blk hc hk (by rw [hb]; exact World.ownsRow_nil _ _ _ _) (by rw [hb]; exact World.ownsRow_nil _ _ _ _))).mono fun e w'' ⟨he, hb⟩ => ⟨_, he, by rw [chk_okN hn, hN]; rfl, hb⟩
  have h0 : Hid (Bx2 w c k (.slice none 0 0) (.slice none 0 0) ((w.alloc (.cells #[.int .i64 0, .int .i64 0, .slice none 0 0, .slice none 0 0] 33)).alloc (.cells #[.int .i64 c, .int .i64 k, .slice none 0 0, .slice none 0 0] 33))) := ⟨(two_new w _ _).1, (two_new w _ _).2, bel2 w _ _⟩
  clear hN
  have hn1 : decide ((1000 : Int) < (n : Int)) = false := decide_eq_false (by omega)
  have hn2 : decide ((n : Int) < 0) = false := by simp
  go_enter Try.func39, Try.ntmps39
  go_wp2_with (go_at_call 54; refine (HC.out _).mono ?_; rintro e w1 ⟨t, rfl, ht, hb⟩; have S1 := Lib.hid (h0.out.kept hb); obtain ⟨⟨⟨p0, p1, p2, p3⟩, pf, _⟩, ⟨⟨q0, q1, q2, q3⟩, qf, _⟩, _⟩ := S1.out)
  refine bodyPost_ret (res_box2 rfl rfl (S1.out.1.put _ _ _ _)) rfl (.inr ⟨HK.out, rfl, put_below S1.out.2.2 (Nat.le_refl _)⟩)

theorem Bx2.put2 {w w' : World} {c k : Int} {wv bv : Value} (h : Bx2 w c k wv bv w') (u : Value) : Bx2 w c k u bv (w'.setCell ⟨w.heap.size + 1, 2, none⟩ u) :=
  ⟨h.1.other (by omega) _ _, h.2.1.put2 u, h.2.2.setCell (by simp) _⟩
theorem Bx2.put3 {w w' : World} {c k : Int} {wv bv : Value} (h : Bx2 w c k wv bv w') (u : Value) : Bx2 w c k wv u (w'.setCell ⟨w.heap.size + 1, 3, none⟩ u) :=
  ⟨h.1.other (by omega) _ _, h.2.1.put3 u, h.2.2.setCell (by simp) _⟩
theorem bx2_new (w : World) (c k : Int) : Bx2 w c k (.slice none 0 0) (.slice none 0 0) ((w.alloc (.cells #[.int .i64 0, .int .i64 0, .slice none 0 0, .slice none 0 0] 33)).alloc (.cells #[.int .i64 c, .int .i64 k, .slice none 0 0, .slice none 0 0] 33)) := ⟨(two_new w _ _).1, (two_new w _ _).2, bel2 w _ _⟩
theorem bx2_of (w : World) (c k : Int) (z u : Value) : Bx2 w c k z u ((w.alloc (.cells #[.int .i64 0, .int .i64 0, .slice none 0 0, .slice none 0 0] 33)).alloc (.cells #[.int .i64 c, .int .i64 k, z, u] 33)) := by
  obtain ⟨h1, h2⟩ := two_boxes w (.int .i64 0) (.int .i64 0) (.slice none 0 0) (.slice none 0 0) (.int .i64 c) (.int .i64 k) z u
  exact ⟨h1, h2, bel2 w _ _⟩
/-- The row of a new object, where its block lies. -/
theorem row_w1 {w : World} {base : Nat} {c : Int} {n : Nat} {v : Value} (h : w.ownsRow base 3 1 v n ((List.replicate n (2 : Int)).map (Value.int .i64))) : w.ownsRow base 3 1 v (blk c 1 n).w.length ((blk c 1 n).w.map (Value.int .i64)) := by
  unfold blk
  simpa using h
theorem row_b2 {w : World} {base : Nat} {c : Int} {n : Nat} {v : Value} (h : w.ownsRow base 5 1 v n (List.replicate n (Value.int .u8 0))) : w.ownsRow base 5 1 v (blk c 2 n).b.length ((blk c 2 n).b.map (Value.int .u8)) := by
  unfold blk
  simpa using h
theorem own_set2 {w : World} {base n q j : Nat} {e : TypeId} {v u : Value} {xs : List Value} (h : w.ownsRow base e 1 v n xs) (hq : q < base) : (w.setCell ⟨q, j, none⟩ u).ownsRow base e 1 v n xs := own_set h hq
theorem own_set4 {w : World} {base n q : Nat} {e : TypeId} {v x y z u : Value} {xs : List Value} (h : w.ownsRow base e 1 v n xs) (hq : q < base) : ((((w.setCell ⟨q, 0, none⟩ x).setCell ⟨q, 1, none⟩ y).setCell ⟨q, 2, none⟩ z).setCell ⟨q, 3, none⟩ u).ownsRow base e 1 v n xs :=
  own_set (own_set (own_set (own_set h hq) hq) hq) hq
/-- How it ends. -/
theorem blank_end {w w' : World} {c : Int} {n : Nat} (hn : n ≤ 1000) {rv : Value} {k : Int} (hN : okN c k n = true) (hr : (k = 1 ∧ w'.ownsRow (w.heap.size + 2) 3 1 rv (blk c k n).w.length ((blk c k n).w.map (Value.int .i64))) ∨ (k = 2 ∧ w'.ownsRow (w.heap.size + 2) 5 1 rv (blk c k n).b.length ((blk c k n).b.map (Value.int .u8))))
    (hb : Below w.heap.size w w') {e : Ending} (he : e = .returned (.tuple #[En.val ⟨blk c k n, rv⟩, .bool true])) : BlankPost c k n w e w' := by
  refine .inl ⟨hN, rv, he, ⟨by rw [Int.toNat_natCast, okO_blk hn]; exact hN, blk_byL _ _ _, ?_⟩, ?_, hb⟩
  · rw [Int.toNat_natCast]
    exact hr.imp (fun ⟨a, b⟩ => ⟨a, own_down b (Nat.zero_le _)⟩) fun ⟨a, b⟩ => ⟨a, own_down b (Nat.zero_le _)⟩
  · intro g hg
    rcases hr with ⟨_, h⟩ | ⟨_, h⟩ <;> have := (h.lt g hg).1 <;> omega

set_option maxHeartbeats 1000000 in
theorem blank_words (c : Int) (n : Nat) (w : World) (hc : In64 c) (hn : n ≤ 1000) : Calls Try.prog 39 #[.int .i64 c, .int .i64 1, .int .i64 n] w (BlankPost c 1 n w) := by
  have HN := Lib.hid hn
  have h0 := Lib.hid (bx2_new w c 1)
  have HR : Hid (∀ w' b c', w'.cell? ⟨b, 0, none⟩ = some (.int .i64 2) → Calls Try.prog 63 #[.slice (some ⟨b, 0, none⟩) 1 c', .int .i64 n] w' fun e w'' => ∃ a c'', e = .returned (.slice a n c'') ∧ Hid (w''.ownsRow w'.heap.size 3 1 (.slice a n c'') n ((List.replicate n (2 : Int)).map (Value.int .i64))) ∧ Below w'.heap.size w' w'') := fun w' b c' hb => (repeat_any b c' n hn w' hb).mono fun e w'' ⟨v, he, ho, hb⟩ => by
    rw [List.length_replicate] at ho
    obtain ⟨a', c', rfl, _⟩ := own_room ho
    exact ⟨a', c', he, ho, hb⟩
  have HC : Hid (∀ w' v, w'.ownsRow 0 3 1 v n ((List.replicate n (2 : Int)).map (Value.int .i64)) → Calls Try.prog 54 #[.agg #[.int .i64 c, .int .i64 1, v, .slice none 0 0]] w' fun e w'' => ∃ t : Int, e = .returned (.int .i64 t) ∧ (t != 0) = !okN c 1 n ∧ Below w'.heap.size w' w'') := fun w' v hv => 
    (check_all _ (blk c 1 n) w' (objAt_blk hc (by constructor <;> omega) (row_w1 hv) (World.ownsRow_nil _ _ _ _))).mono fun e w'' ⟨he, hb⟩ => ⟨_, he, chk_okN hn, hb⟩
  have hn1 : decide ((1000 : Int) < (n : Int)) = false := decide_eq_false (by omega)
  have hn2 : decide ((n : Int) < 0) = false := by simp
  clear hn
  cases hN : okN c 1 n with
  | true =>
    have HT := Lib.hid hN
    rw [hN] at HC
    clear hN
    simp only [Bool.not_true] at HC
    go_enter Try.func39, Try.ntmps39
    go_wp2_with (first | (go_at_call 63; refine (HR.out _ _ _ (by go_cell)).mono ?_; rintro e w1 ⟨a1, c1, rfl, O0, hb⟩; have O1 := Lib.hid (own_down (base' := w.heap.size + 2) O0.out (by simp)); have S1 := Lib.hid ((h0.out.kept (below_drewN _ _ 0)).kept ((Below.refl _ _).alloc (Nat.le_refl _) _ |>.trans (hb.mono (by simp)))); obtain ⟨⟨⟨p0, p1, p2, p3⟩, pf, _⟩, ⟨⟨q0, q1, q2, q3⟩, qf, _⟩, _⟩ := S1.out) | (go_at_call 54; refine (HC.out _ _ (own_down (own_set2 O1.out (by omega)) (Nat.zero_le _))).mono ?_; rintro e w2 ⟨t, rfl, ht, hb2⟩; have O2 := Lib.hid (own_kept (own_set2 O1.out (by omega)) hb2); have S2 := Lib.hid ((S1.out.put2 _).kept hb2); obtain ⟨⟨⟨r0, r1, r2, r3⟩, rf, _⟩, ⟨⟨s0, s1, s2, s3⟩, sf, _⟩, _⟩ := S2.out))
    refine bodyPost_ret (res_box2 rfl rfl (S2.out.1.put _ _ _ _)) rfl (blank_end HN.out HT.out (.inl ⟨rfl, row_w1 (own_set4 O2.out (by omega))⟩) (put_below S2.out.2.2 (Nat.le_refl _)) rfl)
  | false =>
    have HT := Lib.hid hN
    rw [hN] at HC
    clear hN
    simp only [Bool.not_false] at HC
    go_enter Try.func39, Try.ntmps39
    go_wp2_with (first | (go_at_call 63; refine (HR.out _ _ _ (by go_cell)).mono ?_; rintro e w1 ⟨a1, c1, rfl, O0, hb⟩; have O1 := Lib.hid (own_down (base' := w.heap.size + 2) O0.out (by simp)); have S1 := Lib.hid ((h0.out.kept (below_drewN _ _ 0)).kept ((Below.refl _ _).alloc (Nat.le_refl _) _ |>.trans (hb.mono (by simp)))); obtain ⟨⟨⟨p0, p1, p2, p3⟩, pf, _⟩, ⟨⟨q0, q1, q2, q3⟩, qf, _⟩, _⟩ := S1.out) | (go_at_call 54; refine (HC.out _ _ (own_down (own_set2 O1.out (by omega)) (Nat.zero_le _))).mono ?_; rintro e w2 ⟨t, rfl, ht, hb2⟩; have S2 := Lib.hid ((S1.out.put2 _).kept hb2); obtain ⟨⟨⟨r0, r1, r2, r3⟩, rf, _⟩, ⟨⟨s0, s1, s2, s3⟩, sf, _⟩, _⟩ := S2.out))
    refine bodyPost_ret (res_box2 rfl rfl (S2.out.1.put _ _ _ _)) rfl (.inr ⟨HT.out, rfl, put_below S2.out.2.2 (Nat.le_refl _)⟩)

set_option maxHeartbeats 1000000 in
theorem blank_bytes (c : Int) (n : Nat) (w : World) (hc : In64 c) (hn : n ≤ 1000) : Calls Try.prog 39 #[.int .i64 c, .int .i64 2, .int .i64 n] w (BlankPost c 2 n w) := by
  have HN := Lib.hid hn
  have S1 := Lib.hid ((bx2_of w c 2 (.slice none 0 0) (.slice (some ⟨w.heap.size + 1 + 1, 0, none⟩) n n)).kept ((Below.refl _ _).alloc (Nat.le_refl _) (.cells (madeCells #[Value.int .u8 0] n) 5)))
  have O0 := (own_of_is (World.rowIs_made ((w.alloc (.cells #[.int .i64 0, .int .i64 0, .slice none 0 0, .slice none 0 0] 33)).alloc (.cells #[.int .i64 c, .int .i64 2, .slice none 0 0, .slice (some ⟨w.heap.size + 1 + 1, 0, none⟩) n n] 33)) (.int .u8 0) n 5) (by omega))
  rw [show ((w.alloc (.cells #[.int .i64 0, .int .i64 0, .slice none 0 0, .slice none 0 0] 33)).alloc (.cells #[.int .i64 c, .int .i64 2, .slice none 0 0, .slice (some ⟨w.heap.size + 1 + 1, 0, none⟩) n n] 33)).heap.size = w.heap.size + 1 + 1 by simp] at O0
  have O1 := Lib.hid O0
  clear O0
  have HK : ∀ w, (Instr.makeSlice 31 (.int .i64 n) (.int .i64 n)).run Try.prog w = .ok (.slice (some ⟨w.heap.size, 0, none⟩) n n) (w.alloc (.cells (madeCells #[Value.int .u8 0] n) 5)) := fun w => mk_bytes w n (by omega)
  have HC : Hid (∀ w' v, w'.ownsRow 0 5 1 v n (List.replicate n (Value.int .u8 0)) → Calls Try.prog 54 #[.agg #[.int .i64 c, .int .i64 2, .slice none 0 0, v]] w' fun e w'' => ∃ t : Int, e = .returned (.int .i64 t) ∧ (t != 0) = !okN c 2 n ∧ Below w'.heap.size w' w'') := fun w' v hv => 
    (check_all _ (blk c 2 n) w' (objAt_blk hc (by constructor <;> omega) (World.ownsRow_nil _ _ _ _) (row_b2 hv))).mono fun e w'' ⟨he, hb⟩ => ⟨_, he, chk_okN hn, hb⟩
  have hn1 : decide ((1000 : Int) < (n : Int)) = false := decide_eq_false (by omega)
  have hn2 : decide ((n : Int) < 0) = false := by simp
  clear hn
  obtain ⟨⟨⟨p0, p1, p2, p3⟩, pf, _⟩, ⟨⟨q0, q1, q2, q3⟩, qf, _⟩, _⟩ := S1.out
  cases hN : okN c 2 n with
  | true =>
    have HT := Lib.hid hN
    rw [hN] at HC
    clear hN
    simp only [Bool.not_true] at HC
    go_enter Try.func39, Try.ntmps39
    go_wp2_with (go_at_call 54; refine (HC.out _ _ (own_down O1.out (Nat.zero_le _))).mono ?_; rintro e w2 ⟨t, rfl, ht, hb2⟩; have O2 := Lib.hid (own_kept O1.out hb2); have S2 := Lib.hid (S1.out.kept hb2); obtain ⟨⟨⟨r0, r1, r2, r3⟩, rf, _⟩, ⟨⟨s0, s1, s2, s3⟩, sf, _⟩, _⟩ := S2.out)
    refine bodyPost_ret (res_box2 rfl rfl (S2.out.1.put _ _ _ _)) rfl (blank_end HN.out HT.out (.inr ⟨rfl, row_b2 (own_set4 O2.out (by omega))⟩) (put_below S2.out.2.2 (Nat.le_refl _)) rfl)
  | false =>
    have HT := Lib.hid hN
    rw [hN] at HC
    clear hN
    simp only [Bool.not_false] at HC
    go_enter Try.func39, Try.ntmps39
    go_wp2_with (go_at_call 54; refine (HC.out _ _ (own_down O1.out (Nat.zero_le _))).mono ?_; rintro e w2 ⟨t, rfl, ht, hb2⟩; have O2 := Lib.hid (own_kept O1.out hb2); have S2 := Lib.hid (S1.out.kept hb2); obtain ⟨⟨⟨r0, r1, r2, r3⟩, rf, _⟩, ⟨⟨s0, s1, s2, s3⟩, sf, _⟩, _⟩ := S2.out)
    refine bodyPost_ret (res_box2 rfl rfl (S2.out.1.put _ _ _ _)) rfl (.inr ⟨HT.out, rfl, put_below S2.out.2.2 (Nat.le_refl _)⟩)
theorem blank_any (c k n : Int) (w : World) (hc : In64 c) (hk : In64 k) : Calls Try.prog 39 #[.int .i64 c, .int .i64 k, .int .i64 n] w (BlankPost c k n w) := by
  by_cases h : 0 ≤ n ∧ n ≤ 1000
  · obtain ⟨m, rfl⟩ := Int.eq_ofNat_of_zero_le h.1
    have hm : m ≤ 1000 := by omega
    by_cases h1 : k = 1
    · subst h1; exact blank_words c m w hc hm
    by_cases h2 : k = 2
    · subst h2; exact blank_bytes c m w hc hm
    exact blank_other c k m w hc hk hm h1 h2
  · exact blank_bad c k n w (by omega)
end Go.Proofs.Ytmaeoefimkppoaa.Fl
