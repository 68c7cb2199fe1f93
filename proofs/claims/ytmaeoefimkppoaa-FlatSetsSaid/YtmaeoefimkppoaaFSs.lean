/- The walk of FlatSets: a word that is set is fetched, and all others are as they were. -/
import Derived.Test.YtmaeoefimkppoaaFBy
namespace Go.Proofs.Ytmaeoefimkppoaa.Fl
set_option maxRecDepth 1000000
open Go.ChangeShapes Go.WideShapes Go.ChangeAt Go.RowKit
open Go.Proofs.Ytmaeoefimkppoaa.Wd

def twoW (a b : List Int) : Mem := [some ⟨2, 1, a, []⟩, some ⟨2, 1, b, []⟩]
theorem opE_w (a b : List Int) (i : Int) : opE (twoW a b) 2 1 i = if 0 ≤ i ∧ i < (a.length : Nat) then 0 else 21 := rfl
theorem setw_w (a b : List Int) (i v : Int) : setE (twoW a b) 2 i v = (if 0 ≤ i ∧ i < (a.length : Nat) then (if valB v = true then 0 else 2) else 21) ∧ setF (twoW a b) 2 i v = twoW (if (0 ≤ i ∧ i < (a.length : Nat)) ∧ valB v = true then a.set i.toNat v else a) b := by
  have h1 : setE (twoW a b) 2 i v = (if 0 ≤ i ∧ i < (a.length : Nat) then (if valB v = true then 0 else 2) else 21) := by
    unfold setE
    rw [opE_w]
    by_cases h : 0 ≤ i ∧ i < (a.length : Nat)
    · rw [if_pos h, if_pos h, if_pos rfl]
    · rw [if_neg h, if_neg h]; rfl
  refine ⟨h1, ?_⟩
  unfold setF
  rw [h1]
  by_cases h : 0 ≤ i ∧ i < (a.length : Nat)
  · cases hb : valB v with
    | true => rw [if_pos h, if_pos rfl, if_pos rfl, if_pos ⟨h, rfl⟩]; rfl
    | false => rw [if_pos h, if_neg Bool.false_ne_true, if_neg (show ¬ ((2 : Int) = 0) by decide), if_neg (fun e => Bool.false_ne_true e.2)]
  · rw [if_neg h, if_neg (show ¬ ((21 : Int) = 0) by decide), if_neg (fun e => h e.1)]
theorem newF_w (n : Nat) (hn : n ≤ 255) : newF [] 2 1 n = [some ⟨2, 1, List.replicate n 2, []⟩] ∧ newN [] 2 1 n = 2 ∧ newF [some ⟨2, 1, List.replicate n 2, []⟩] 2 1 n = twoW (List.replicate n 2) (List.replicate n 2) ∧ newN [some ⟨2, 1, List.replicate n 2, []⟩] 2 1 n = 4 ∧ newE 2 1 n = 0 := by
  have h : okN 2 1 n = true := by
    simp only [okN, Bool.and_eq_true, decide_eq_true_eq]
    exact ⟨⟨rfl, by simp⟩, by omega, by omega⟩
  unfold newF newN newE
  simp only [if_pos h]
  exact ⟨by simp [blk], by first | rfl | trivial, by simp [twoW, blk], by first | rfl | trivial, by first | rfl | trivial⟩
set_option maxHeartbeats 4000000 in
theorem flatSets_walk (W : World) (a0 : Int) (w0 : (Lit.int .u8 a0).wf = true) (i : Int) (w1 : (Lit.int .i64 i).wf = true) (v : Int) (w2 : (Lit.int .i64 v).wf = true) :
    Calls Try.prog 7 #[.int .u8 a0, .int .i64 i, .int .i64 v] W fun e W' => e = .returned (.bool true) ∧ Below W.heap.size W W' := by
  obtain ⟨h0, h1⟩ := wf_u8 w0
  obtain ⟨n, rfl⟩ := Int.eq_ofNat_of_zero_le h0
  have hn : n ≤ 255 := by omega
  have hi64 := wf_i64 w1
  have hv64 := wf_i64 w2
  obtain ⟨g1, g2, g3, g4, g5⟩ := newF_w n hn
  obtain ⟨s1, s2⟩ := setw_w (List.replicate n 2) (List.replicate n 2) i v
  rw [List.length_replicate] at s1 s2
  obtain ⟨t, ht⟩ : ∃ t, (if 0 ≤ i ∧ i < (n : Nat) then (if valB v = true then 0 else 2) else (21 : Int)) = t := ⟨_, rfl⟩
  obtain ⟨ws, hws⟩ : ∃ ws, (if (0 ≤ i ∧ i < (n : Nat)) ∧ valB v = true then (List.replicate n (2 : Int)).set i.toNat v else List.replicate n 2) = ws := ⟨_, rfl⟩
  have hlen : ws.length = n := by rw [← hws]; split <;> simp
  have hget : ∀ k, k < n → ws.getD k 0 = if (k : Int) = i ∧ valB v = true then v else 2 := fun k hk => by
    rw [← hws]
    by_cases h : (0 ≤ i ∧ i < (n : Nat)) ∧ valB v = true
    · rw [if_pos h]
      simp only [List.getD, List.getElem?_set, List.length_replicate, List.getElem?_replicate]
      by_cases hki : (k : Int) = i
      · rw [if_pos (by omega), if_pos (by omega), if_pos ⟨hki, h.2⟩]; rfl
      · rw [if_neg (by omega), if_pos hk, if_neg (fun e => hki e.1)]; rfl
    · rw [if_neg h, if_neg (fun e => h ⟨⟨by omega, by omega⟩, e.2⟩)]
      simp [List.getD, List.getElem?_replicate, hk]
  have hget2 : ∀ k, k < n → (List.replicate n (2 : Int)).getD k 0 = 2 := fun k hk => by simp [List.getD, List.getElem?_replicate, hk]
  have H1 : Hid (∀ w1, MemB (· < W.heap.size) w1 W.heap.size [] → Calls Try.prog 30 #[.pointer (some ⟨W.heap.size, 0, none⟩), .int .i64 2, .int .i64 1, .int .i64 n] w1 fun e w2 => e = .returned (.tuple #[.int .i64 2, .int .i64 0]) ∧ Hid (MemB (· < W.heap.size) w2 W.heap.size [some ⟨2, 1, List.replicate n 2, []⟩]) ∧ Hid (Keeps (· < W.heap.size) w1 w2)) := fun w1 h => (new_any h (by decide) 2 1 n ⟨by decide, by decide⟩ ⟨by decide, by decide⟩).mono fun e w2 ⟨he, hm, hk⟩ => by
    rw [g2, g5] at he
    rw [g1] at hm
    exact ⟨he, hm, hk⟩
  have H1' : Hid (∀ w1, MemB (· < W.heap.size) w1 W.heap.size [some ⟨2, 1, List.replicate n 2, []⟩] → Calls Try.prog 30 #[.pointer (some ⟨W.heap.size, 0, none⟩), .int .i64 2, .int .i64 1, .int .i64 n] w1 fun e w2 => e = .returned (.tuple #[.int .i64 4, .int .i64 0]) ∧ Hid (MemB (· < W.heap.size) w2 W.heap.size (twoW (List.replicate n 2) (List.replicate n 2))) ∧ Hid (Keeps (· < W.heap.size) w1 w2)) := fun w1 h => (new_any h (by simp) 2 1 n ⟨by decide, by decide⟩ ⟨by decide, by decide⟩).mono fun e w2 ⟨he, hm, hk⟩ => by
    rw [g4, g5] at he
    rw [g3] at hm
    exact ⟨he, hm, hk⟩
  have H2 : Hid (∀ w1, MemB (· < W.heap.size) w1 W.heap.size (twoW (List.replicate n 2) (List.replicate n 2)) → Calls Try.prog 32 #[.pointer (some ⟨W.heap.size, 0, none⟩), .int .i64 2, .int .i64 i, .int .i64 v] w1 fun e w2 => e = .returned (.int .i64 t) ∧ Hid (MemB (· < W.heap.size) w2 W.heap.size (twoW ws (List.replicate n 2))) ∧ Hid (Keeps (· < W.heap.size) w1 w2)) := fun w1 h => (set_any h 2 i v ⟨by decide, by decide⟩ hv64).mono fun e w2 ⟨he, hm, hk⟩ => by
    rw [s1, ht] at he
    rw [s2, hws] at hm
    exact ⟨he, hm, hk⟩
  have H3 : Hid (∀ w1, MemB (· < W.heap.size) w1 W.heap.size (twoW ws (List.replicate n 2)) → Calls Try.prog 22 #[.pointer (some ⟨W.heap.size, 0, none⟩), .int .i64 2] w1 fun e w2 => ∃ a c a2 n2 c2, e = .returned (.tuple #[.agg #[.int .i64 2, .int .i64 1, .slice a n c, .slice a2 n2 c2], .int .i64 0]) ∧ Hid (w2.ownsRow w1.heap.size 3 1 (.slice a n c) n (ws.map (Value.int .i64))) ∧ Below w1.heap.size w1 w2) := fun w1 h => (obj_any h 2 ⟨by decide, by decide⟩).mono fun e w2 ⟨u, he, ho, hb⟩ => by
    obtain ⟨wv, bv, rfl, r1, r2⟩ := ho
    obtain ⟨a2, c2, rfl⟩ := own_form r2
    have hl : (objF (twoW ws (List.replicate n 2)) 2).w.length = n := hlen
    rw [hl] at r1
    obtain ⟨a, c, rfl⟩ := own_form r1
    exact ⟨a, c, a2, _, c2, he, r1, hb⟩
  have H4 : Hid (∀ w1, MemB (· < W.heap.size) w1 W.heap.size (twoW ws (List.replicate n 2)) → Calls Try.prog 22 #[.pointer (some ⟨W.heap.size, 0, none⟩), .int .i64 4] w1 fun e w2 => ∃ a c a2 n2 c2, e = .returned (.tuple #[.agg #[.int .i64 2, .int .i64 1, .slice a n c, .slice a2 n2 c2], .int .i64 0]) ∧ Hid (w2.ownsRow w1.heap.size 3 1 (.slice a n c) n ((List.replicate n (2 : Int)).map (Value.int .i64))) ∧ Below w1.heap.size w1 w2) := fun w1 h => (obj_any h 4 ⟨by decide, by decide⟩).mono fun e w2 ⟨u, he, ho, hb⟩ => by
    obtain ⟨wv, bv, rfl, r1, r2⟩ := ho
    obtain ⟨a2, c2, rfl⟩ := own_form r2
    have hl : (objF (twoW ws (List.replicate n 2)) 4).w.length = n := List.length_replicate
    rw [hl] at r1
    obtain ⟨a, c, rfl⟩ := own_form r1
    exact ⟨a, c, a2, _, c2, he, r1, hb⟩
  have HRF := Lib.hid (fun w => ref_any v w hv64.1 hv64.2)
  have HK := Lib.hid (fun w => known_any w)
  have H0 := Lib.hid (mem_new W (· < W.heap.size) (fun _ h => h))
  have HW : Hid (Below W.heap.size W (newW W)) := Lib.hid (below_new W _)
  have hsz : W.heap.size < (newW W).heap.size := by unfold newW; simp
  have cw : IntKind.i64.wrap (n : Int) = n := by rw [IntKind.wrap_i64]; omega
  obtain ⟨inB, hin⟩ : ∃ b, decide (0 ≤ i ∧ i < (n : Nat)) = b := ⟨_, rfl⟩
  obtain ⟨rt, hrt⟩ : ∃ b, valB v = b := ⟨_, rfl⟩
  have hT : t = if inB = true then (if rt = true then 0 else 2) else 21 := by rw [← ht, ← hin, ← hrt]; simp
  have HT := Lib.hid hT
  have HI := Lib.hid hin
  rw [hrt] at HRF hget
  have HG := Lib.hid hget
  have HG2 := Lib.hid hget2
  have HL := Lib.hid hlen
  clear w0 w1 w2 h0 h1 hi64 hv64 g1 g2 g3 g4 g5 s1 s2 ht hws hlen hget hget2 hin hrt hT
  go_enter Try.func7, Try.ntmps7
  go_wp2_with fail
  refine (new10_any W).mono ?_
  rintro e w0 ⟨rfl, rfl⟩
  generalize newW W = w0 at *
  go_wp2_with fail
  refine (H1.out _ H0.out).mono ?_
  rintro e w1 ⟨rfl, M0, K0⟩
  go_wp2_with fail
  refine (H1'.out _ M0.out).mono ?_
  rintro e w1' ⟨rfl, M1, K1⟩
  go_wp2_with fail
  refine (H2.out _ M1.out).mono ?_
  rintro e w2 ⟨rfl, M2, K2⟩
  clear H1 H1' H2 H0 M0 M1
  go_upto_region 7 with fail
  go_cut [13] from 42 to 49 (fun c wx => c = .bool inB ∧ wx = w2)
  case first =>
    have h := HI.out
    by_cases q1 : 0 ≤ i
    · have d1 : decide (0 ≤ i) = true := by simpa using q1
      by_cases q2 : i < n
      · have d2 : decide (i < (n : Int)) = true := by simpa using q2
        obtain rfl : inB = true := by rw [← h]; simp [q1, q2]
        clear h q1 q2
        go_wp2_with fail
        go_meet
        case rel => exact ⟨rfl, rfl⟩
      · have d2 : decide (i < (n : Int)) = false := by simpa using q2
        obtain rfl : inB = false := by rw [← h]; simp [q2]
        clear h q1 q2
        go_wp2_with fail
        go_meet
        case rel => exact ⟨rfl, rfl⟩
    · have d1 : decide (0 ≤ i) = false := by simpa using q1
      obtain rfl : inB = false := by rw [← h]; simp [q1]
      clear h q1
      go_wp2_with fail
      go_meet
      case rel => exact ⟨rfl, rfl⟩
  case rest =>
  obtain ⟨rfl, rfl⟩ := hcut
  go_wp2_with fail
  refine (HRF.out _).mono ?_
  rintro e wc' ⟨rfl, rfl⟩
  go_upto_region 9 with fail
  go_cut [77] from 52 to 76 (fun c wx => c = .bool false ∧ wx = wc)
  case first =>
    have hT := HT.out
    clear HT HI
    cases inB <;> cases rt <;> (
      simp only [Bool.false_eq_true, if_true, if_false] at hT
      subst hT
      go_wp2_with fail
      go_meet
      case rel => exact ⟨rfl, rfl⟩)
  case rest =>
  obtain ⟨rfl, rfl⟩ := hcut
  clear HT HI HRF
  go_wp2_with fail
  refine (H3.out _ M2.out).mono ?_
  rintro e w3 ⟨a, c, a2, n2, c2, rfl, R3, b3⟩
  have B3 := Lib.hid b3
  clear b3
  go_wp2_with fail
  refine (H4.out _ ((M2.out.fresh B3.out).fresh (below_new _ _))).mono ?_
  rintro e w4 ⟨a', c', a2', n2', c2', rfl, R4, b4⟩
  have B4 := Lib.hid b4
  have X4 := Lib.hid (((box_new w3 (.int .i64 2) (.int .i64 1) (.slice a n c) (.slice a2 n2 c2)).next b4).next (below_new w4 (.cells #[.int .i64 2, .int .i64 1, .slice a' n c', .slice a2' n2' c2'] 33)))
  have Y4 := Lib.hid (box_new w4 (.int .i64 2) (.int .i64 1) (.slice a' n c') (.slice a2' n2' c2'))
  have R3' := Lib.hid (own_kept (own_kept (own_kept R3.out (below_new w3 (.cells #[.int .i64 2, .int .i64 1, .slice a n c, .slice a2 n2 c2] 33))) b4) (below_new w4 (.cells #[.int .i64 2, .int .i64 1, .slice a' n c', .slice a2' n2' c2'] 33)))
  have R4' := Lib.hid (own_kept R4.out (below_new w4 (.cells #[.int .i64 2, .int .i64 1, .slice a' n c', .slice a2' n2' c2'] 33)))
  have BB := Lib.hid (((B3.out.trans ((below_new w3 (.cells #[.int .i64 2, .int .i64 1, .slice a n c, .slice a2 n2 c2] 33)).mono B3.out.size)).trans (b4.mono (Nat.le_trans B3.out.size (by simp)))).trans ((below_new w4 (.cells #[.int .i64 2, .int .i64 1, .slice a' n c', .slice a2' n2' c2'] 33)).mono (Nat.le_trans B3.out.size (Nat.le_trans (by simp) b4.size))))
  clear b4 B4 R3 R4 B3 H3 H4
  obtain ⟨wz, hwz⟩ : ∃ wz, w4.alloc (.cells #[.int .i64 2, .int .i64 1, .slice a' n c', .slice a2' n2' c2'] 33) = wz := ⟨_, rfl⟩
  go_upto_region 13 with fail
  rw [hwz] at X4 Y4 R3' R4' BB
  clear hwz
  obtain ⟨⟨x0, x1, x2, x3⟩, xf, xl⟩ := X4.out
  obtain ⟨⟨y0, y1, y2, y3⟩, yf, yl⟩ := Y4.out
  clear X4 Y4
  generalize w3.heap.size = q3 at *
  generalize w4.heap.size = q4 at *
  go_wp2
  go_loop [19] (fun k => ∃ j : Nat, j ≤ n ∧ k = .int .i64 j) (fun k => n - (RowKit.intOf k).toNat)
  case atStart => exact ⟨0, by omega, rfl⟩
  case round =>
    obtain ⟨j, hj, rfl⟩ := hrel
    by_cases hjn : j < n
    · have hd : decide ((j : Int) < n) = true := by simpa using hjn
      have hw1 : IntKind.i64.wrap ((j : Int) + 1) = (j : Int) + 1 := by rw [IntKind.wrap_i64]; omega
      obtain ⟨gx, cx, hax⟩ := own_at R3'.out (by omega)
      injection hax with hax1 _ hax2
      subst hax1 hax2
      obtain ⟨gy, cy, hay⟩ := own_at R4'.out (by omega)
      injection hay with hay1 _ hay2
      subst hay1 hay2
      have kx := (own_cells R3'.out).1 j _ (getD_map (by rw [HL.out]; exact hjn))
      have ky := (own_cells R4'.out).1 j _ (getD_map (by simpa using hjn))
      rw [HG.out j hjn] at kx
      rw [HG2.out j hjn] at ky
      by_cases hji : (j : Int) = i
      · subst hji
        cases rt <;> (
          simp only [true_and, Bool.false_eq_true, if_true, if_false] at kx
          go_wp2
          exact ⟨⟨j + 1, by omega, by go_num⟩, by simp [RowKit.intOf]; omega⟩)
      · have hji2 : ((j : Int) == i) = false := by simpa using hji
        have hji3 : ((j : Int) != i) = true := by simpa using hji
        simp only [hji, false_and, if_false] at kx
        have HJI := Lib.hid hji
        clear hji
        go_wp2
        exact ⟨⟨j + 1, by omega, by go_num⟩, by simp [RowKit.intOf]; omega⟩
    · obtain rfl : j = n := by omega
      go_wp2_with fail
      refine (HK.out _).mono ?_
      rintro e w5 ⟨rfl, b5⟩
      have B5 := Lib.hid (BB.out.trans (b5.mono BB.out.size))
      clear b5
      go_wp2
      go_ret
      refine ⟨rfl, HW.out.trans ?_⟩
      have k1 : Keeps (· < W.heap.size) w0 w5 := ((K0.out.trans K1.out).trans K2.out).trans (Keeps.of_below B5.out)
      exact k1.below (fun g hg => hg) (by omega)
end Go.Proofs.Ytmaeoefimkppoaa.Fl
