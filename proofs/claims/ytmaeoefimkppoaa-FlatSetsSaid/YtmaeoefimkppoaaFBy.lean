/- The walk of FlatBytes: a byte that is set is told, and all others are as they were. -/
import Derived.Test.YtmaeoefimkppoaaFKn
import Derived.Deep.DeepCutAuto
import Derived.Deep.CutRange
namespace Go.Proofs.Ytmaeoefimkppoaa.Fl
set_option maxRecDepth 1000000
open Go.ChangeShapes Go.WideShapes Go.ChangeAt Go.RowKit
open Go.Proofs.Ytmaeoefimkppoaa.Wd

def oneB (bs : List Int) : Mem := [some ⟨2, 2, [], bs⟩]
theorem at_one {x : Option Ob} : at_ [x] 1 = x := by cases x <;> rfl
theorem opE_b (bs : List Int) (i : Int) : opE (oneB bs) 2 2 i = if 0 ≤ i ∧ i < (bs.length : Nat) then 0 else 21 := rfl
theorem byteN_b (bs : List Int) (j : Nat) (hj : j < bs.length) : byteN (oneB bs) 2 j = bs.getD j 0 := by
  unfold byteN
  rw [if_pos (by rw [opE_b, if_pos (by omega)])]
  rfl
theorem setb_b (bs : List Int) (i v : Int) : setbE (oneB bs) 2 i v = (if 0 ≤ i ∧ i < (bs.length : Nat) then (if bytB v = true then 0 else 2) else 21) ∧ setbF (oneB bs) 2 i v = oneB (if (0 ≤ i ∧ i < (bs.length : Nat)) ∧ bytB v = true then bs.set i.toNat v else bs) := by
  have h1 : setbE (oneB bs) 2 i v = (if 0 ≤ i ∧ i < (bs.length : Nat) then (if bytB v = true then 0 else 2) else 21) := by
    unfold setbE
    rw [opE_b]
    by_cases h : 0 ≤ i ∧ i < (bs.length : Nat)
    · rw [if_pos h, if_pos h, if_pos rfl]
    · rw [if_neg h, if_neg h]; rfl
  refine ⟨h1, ?_⟩
  unfold setbF
  rw [h1]
  by_cases h : 0 ≤ i ∧ i < (bs.length : Nat)
  · cases hb : bytB v with
    | true => rw [if_pos h, if_pos rfl, if_pos rfl, if_pos ⟨h, rfl⟩]; rfl
    | false => rw [if_pos h, if_neg Bool.false_ne_true, if_neg (show ¬ ((2 : Int) = 0) by decide), if_neg (fun e => Bool.false_ne_true e.2)]
  · rw [if_neg h, if_neg (show ¬ ((21 : Int) = 0) by decide), if_neg (fun e => h e.1)]
theorem newF_b (n : Nat) (hn : n ≤ 255) : newF [] 2 2 n = oneB (List.replicate n 0) ∧ newN [] 2 2 n = 2 ∧ newE 2 2 n = 0 := by
  have h : okN 2 2 n = true := by
    simp only [okN, Bool.and_eq_true, decide_eq_true_eq]
    exact ⟨⟨rfl, by simp⟩, by omega, by omega⟩
  unfold newF newN newE
  rw [if_pos h, if_pos h, if_pos h]
  exact ⟨by simp [oneB, blk], rfl, rfl⟩
set_option maxHeartbeats 4000000 in
theorem flatBytes_walk (W : World) (a0 : Int) (w0 : (Lit.int .u8 a0).wf = true) (i : Int) (w1 : (Lit.int .i64 i).wf = true) (v : Int) (w2 : (Lit.int .i64 v).wf = true) :
    Calls Try.prog 8 #[.int .u8 a0, .int .i64 i, .int .i64 v] W fun e W' => e = .returned (.bool true) ∧ Below W.heap.size W W' := by
  obtain ⟨h0, h1⟩ := wf_u8 w0
  obtain ⟨n, rfl⟩ := Int.eq_ofNat_of_zero_le h0
  have hn : n ≤ 255 := by omega
  have hi64 := wf_i64 w1
  have hv64 := wf_i64 w2
  obtain ⟨g1, g2, g3⟩ := newF_b n hn
  obtain ⟨s1, s2⟩ := setb_b (List.replicate n 0) i v
  rw [List.length_replicate] at s1 s2
  obtain ⟨t, ht⟩ : ∃ t, (if 0 ≤ i ∧ i < (n : Nat) then (if bytB v = true then 0 else 2) else (21 : Int)) = t := ⟨_, rfl⟩
  obtain ⟨bs, hbs⟩ : ∃ bs, (if (0 ≤ i ∧ i < (n : Nat)) ∧ bytB v = true then (List.replicate n (0 : Int)).set i.toNat v else List.replicate n 0) = bs := ⟨_, rfl⟩
  have hlen : bs.length = n := by rw [← hbs]; split <;> simp
  have hget : ∀ k, k < n → bs.getD k 0 = if (k : Int) = i ∧ bytB v = true then v else 0 := fun k hk => by
    rw [← hbs]
    by_cases h : (0 ≤ i ∧ i < (n : Nat)) ∧ bytB v = true
    · rw [if_pos h]
      simp only [List.getD, List.getElem?_set, List.length_replicate, List.getElem?_replicate]
      by_cases hki : (k : Int) = i
      · rw [if_pos (by omega), if_pos (by omega), if_pos ⟨hki, h.2⟩]; rfl
      · rw [if_neg (by omega), if_pos hk, if_neg (fun e => hki e.1)]; rfl
    · rw [if_neg h, if_neg (fun e => h ⟨⟨by omega, by omega⟩, e.2⟩)]
      simp [List.getD, List.getElem?_replicate, hk]
  have H1 : Hid (∀ w1, MemB (· < W.heap.size) w1 W.heap.size [] → Calls Try.prog 30 #[.pointer (some ⟨W.heap.size, 0, none⟩), .int .i64 2, .int .i64 2, .int .i64 n] w1 fun e w2 => e = .returned (.tuple #[.int .i64 2, .int .i64 0]) ∧ Hid (MemB (· < W.heap.size) w2 W.heap.size (oneB (List.replicate n 0))) ∧ Hid (Keeps (· < W.heap.size) w1 w2)) := fun w1 h => (new_any h (by decide) 2 2 n ⟨by decide, by decide⟩ ⟨by decide, by decide⟩).mono fun e w2 ⟨he, hm, hk⟩ => by
    rw [g2, g3] at he
    rw [g1] at hm
    exact ⟨he, hm, hk⟩
  have H2 : Hid (∀ w1, MemB (· < W.heap.size) w1 W.heap.size (oneB (List.replicate n 0)) → Calls Try.prog 34 #[.pointer (some ⟨W.heap.size, 0, none⟩), .int .i64 2, .int .i64 i, .int .i64 v] w1 fun e w2 => e = .returned (.int .i64 t) ∧ Hid (MemB (· < W.heap.size) w2 W.heap.size (oneB bs)) ∧ Hid (Keeps (· < W.heap.size) w1 w2)) := fun w1 h => (setb_any h 2 i v ⟨by decide, by decide⟩ hv64).mono fun e w2 ⟨he, hm, hk⟩ => by
    rw [s1, ht] at he
    rw [s2, hbs] at hm
    exact ⟨he, hm, hk⟩
  have H3 : Hid (∀ w1 (j : Nat), j < n → MemB (· < W.heap.size) w1 W.heap.size (oneB bs) → Calls Try.prog 35 #[.pointer (some ⟨W.heap.size, 0, none⟩), .int .i64 2, .int .i64 j] w1 fun e w2 => e = .returned (.tuple #[.int .i64 (if (j : Int) = i ∧ bytB v = true then v else 0), .int .i64 0]) ∧ Below w1.heap.size w1 w2) := fun w1 j hj h => (byte_any h 2 j ⟨by decide, by decide⟩).mono fun e w2 ⟨he, hb⟩ => by
    rw [byteN_b bs j (by omega), opE_b, if_pos (by omega), hget j hj] at he
    exact ⟨he, hb⟩
  have H4 : Hid (∀ w1, MemB (· < W.heap.size) w1 W.heap.size (oneB bs) → Calls Try.prog 36 #[.pointer (some ⟨W.heap.size, 0, none⟩), .int .i64 2, .int .i64 0] w1 fun e w2 => ∃ x, e = .returned (.tuple #[.int .i64 x, .int .i64 20]) ∧ Below w1.heap.size w1 w2) := fun w1 h => (fetch_any h 2 0 ⟨by decide, by decide⟩).mono fun e w2 ⟨he, hb⟩ => ⟨_, he, hb⟩
  have HK := Lib.hid (fun w => known_any w)
  have H0 := Lib.hid (mem_new W (· < W.heap.size) (fun _ h => h))
  have HW : Hid (Below W.heap.size W (newW W)) := Lib.hid (below_new W _)
  have hsz : W.heap.size < (newW W).heap.size := by unfold newW; simp
  have cw : IntKind.i64.wrap (n : Int) = n := by rw [IntKind.wrap_i64]; omega
  obtain ⟨inB, hin⟩ : ∃ b, decide (0 ≤ i ∧ i < (n : Nat)) = b := ⟨_, rfl⟩
  obtain ⟨rt, hrt⟩ : ∃ b, bytB v = b := ⟨_, rfl⟩
  have hT : t = if inB = true then (if rt = true then 0 else 2) else 21 := by rw [← ht, ← hin, ← hrt]; simp
  have HT := Lib.hid hT
  have HI := Lib.hid hin
  have HR := Lib.hid hrt
  rw [hrt] at H3
  clear w0 w1 w2 h0 h1 hi64 hv64 g1 g2 g3 s1 s2 ht hbs hlen hget hin hrt hT
  go_enter Try.func8, Try.ntmps8
  go_wp2_with fail
  refine (new10_any W).mono ?_
  rintro e w0 ⟨rfl, rfl⟩
  generalize newW W = w0 at *
  go_wp2_with fail
  refine (H1.out _ H0.out).mono ?_
  rintro e w1 ⟨rfl, M1, K1⟩
  go_wp2_with fail
  refine (H2.out _ M1.out).mono ?_
  rintro e w2 ⟨rfl, M2, K2⟩
  clear H1 H2 H0 M1
  go_upto_region 6 with fail
  go_cut [11] from 34 to 41 (fun c wx => c = .bool inB ∧ wx = w2)
  case first =>
    have h := HI.out
    by_cases q1 : 0 ≤ i
    · have d1 : decide (0 ≤ i) = true := by simpa using q1
      by_cases q2 : i < n
      · have d2 : decide (i < (n : Int)) = true := by simpa using q2
        obtain rfl : inB = true := by rw [← h]; simp [q1, q2]
        clear h q1 q2
        go_wp2_with fail
        go_meet
        case rel => exact ⟨rfl, rfl⟩
      · have d2 : decide (i < (n : Int)) = false := by simpa using q2
        obtain rfl : inB = false := by rw [← h]; simp [q2]
        clear h q1 q2
        go_wp2_with fail
        go_meet
        case rel => exact ⟨rfl, rfl⟩
    · have d1 : decide (0 ≤ i) = false := by simpa using q1
      obtain rfl : inB = false := by rw [← h]; simp [q1]
      clear h q1
      go_wp2_with fail
      go_meet
      case rel => exact ⟨rfl, rfl⟩
  case rest =>
  obtain ⟨rfl, rfl⟩ := hcut
  go_upto_region 7 with fail
  go_cut [12] from 42 to 47 (fun c wx => c = .bool rt ∧ wx = wc)
  case first =>
    have h := HR.out
    by_cases q1 : 0 ≤ v
    · have d1 : decide (0 ≤ v) = true := by simpa using q1
      by_cases q2 : v ≤ 255
      · have d2 : decide (v ≤ (255 : Int)) = true := by simpa using q2
        obtain rfl : rt = true := by rw [← h]; simp [bytB, q1, q2]
        clear h q1 q2
        go_wp2_with fail
        go_meet
        case rel => exact ⟨rfl, rfl⟩
      · have d2 : decide (v ≤ (255 : Int)) = false := by simpa using q2
        obtain rfl : rt = false := by rw [← h]; simp [bytB, q2]
        clear h q1 q2
        go_wp2_with fail
        go_meet
        case rel => exact ⟨rfl, rfl⟩
    · have d1 : decide (0 ≤ v) = false := by simpa using q1
      obtain rfl : rt = false := by rw [← h]; simp [bytB, q1]
      clear h q1
      go_wp2_with fail
      go_meet
      case rel => exact ⟨rfl, rfl⟩
  case rest =>
  obtain ⟨rfl, rfl⟩ := hcut
  go_upto_region 8 with fail
  go_cut [73] from 48 to 72 (fun c wx => c = .bool false ∧ wx = wc)
  case first =>
    have hT := HT.out
    clear HT HI HR
    cases inB <;> cases rt <;> (
      simp only [Bool.false_eq_true, if_true, if_false] at hT
      subst hT
      go_wp2_with fail
      go_meet
      case rel => exact ⟨rfl, rfl⟩)
  case rest =>
  obtain ⟨rfl, rfl⟩ := hcut
  clear HT HI HR
  go_wp2
  go_loopw [13] (fun k wr => ∃ j : Nat, j ≤ n ∧ k = .int .i64 j ∧ Below wc.heap.size wc wr) (fun k _ => n - (RowKit.intOf k).toNat)
  case atStart => exact ⟨0, by omega, rfl, Below.refl _ _⟩
  case round =>
    obtain ⟨j, hj, rfl, hb⟩ := hrel
    have HB := Lib.hid hb
    clear hb
    by_cases hjn : j < n
    · have hd : decide ((j : Int) < n) = true := by simpa using hjn
      have hw1 : IntKind.i64.wrap ((j : Int) + 1) = (j : Int) + 1 := by rw [IntKind.wrap_i64]; omega
      have HC := H3.out wr j hjn (M2.out.fresh HB.out)
      by_cases hji : (j : Int) = i
      · subst hji
        cases rt <;> (
          simp only [true_and, Bool.false_eq_true, if_true, if_false] at HC
          have HCC := Lib.hid HC
          clear HC
          go_wp2_with fail
          refine HCC.out.mono ?_
          rintro e w3 ⟨rfl, b3⟩
          have B3 := Lib.hid (HB.out.trans (b3.mono HB.out.size))
          clear b3
          go_wp2
          exact ⟨⟨j + 1, by omega, by go_num, B3.out⟩, by simp [RowKit.intOf]; omega⟩)
      · have hji2 : ((j : Int) == i) = false := by simpa using hji
        simp only [hji, false_and, if_false] at HC
        have HCC := Lib.hid HC
        clear HC
        go_wp2_with fail
        refine HCC.out.mono ?_
        rintro e w3 ⟨rfl, b3⟩
        have B3 := Lib.hid (HB.out.trans (b3.mono HB.out.size))
        clear b3
        go_wp2
        exact ⟨⟨j + 1, by omega, by go_num, B3.out⟩, by simp [RowKit.intOf]; omega⟩
    · obtain rfl : j = n := by omega
      go_wp2_with fail
      refine (H4.out _ (M2.out.fresh HB.out)).mono ?_
      rintro e w3 ⟨x, rfl, b3⟩
      have B3 := Lib.hid (HB.out.trans (b3.mono HB.out.size))
      clear b3
      go_wp2_with fail
      refine (HK.out _).mono ?_
      rintro e w4 ⟨rfl, b4⟩
      have B4 := Lib.hid (B3.out.trans (b4.mono B3.out.size))
      clear b4
      go_wp2
      go_ret
      refine ⟨rfl, HW.out.trans ?_⟩
      have k1 : Keeps (· < W.heap.size) w0 w4 := (K1.out.trans K2.out).trans (Keeps.of_below B4.out)
      exact k1.below (fun g hg => hg) (by omega)
end Go.Proofs.Ytmaeoefimkppoaa.Fl
