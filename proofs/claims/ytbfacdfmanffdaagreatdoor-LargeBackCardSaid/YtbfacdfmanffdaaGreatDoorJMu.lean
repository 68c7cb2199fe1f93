/- Package large's Mul. -/
import Derived.Test.YtbfacdfmanffdaaGreatDoorJLe
namespace Go.Proofs.YtbfacdfmanffdaaGreatDoor
set_option maxRecDepth 1000000
open Go.ChangeShapes Go.WideShapes Go.ChangeAt Go.RowKit

theorem set_pos {V : Int} (h : 0 ≤ V) : setE V = toldE (dig V.toNat) ∧ setO V = toldO (dig V.toNat) := by
  unfold setE setO
  rw [if_neg (by omega), if_neg (by omega)]
  exact ⟨rfl, rfl⟩
theorem mul_next {S ta da p VB : Int} (h : S = ta * VB) : S + da * (p * VB) = (ta + da * p) * VB := by rw [h, Int.add_mul, Int.mul_assoc]
set_option maxHeartbeats 8000000 in
theorem mul_code {N M : Nat → Prop} (v1 v2 : Value) (A B : List Int) (w : World) (h1 : Bts N w v1 A) (b1 : Bytes A) (l1 : A.length ≤ 1000000000000) (h2 : Bts M w v2 B) (b2 : Bytes B) (l2 : B.length ≤ 1000000000000) : Calls Tryz.prog 17 #[v1, v2] w (NumB (mulE A B) (mulO A B) w) := by
  have C1 := Lib.hid (right_is v1 A w h1 l1)
  have C2 := Lib.hid (right_is v2 B w h2 l2)
  unfold NumB
  by_cases hr : rightB A = true ∧ rightB B = true
  · obtain ⟨hr1, hr2⟩ := hr
    have r1 := right_len hr1
    have r2 := right_len hr2
    have e1 : setE (val A * val B) = mulE A B ∧ setO (val A * val B) = mulO A B := by
      obtain ⟨p1, p2⟩ := set_pos (V := val A * val B) (Int.mul_nonneg (val_nonneg b1) (val_nonneg b2))
      unfold mulE mulO
      rw [if_neg (fun h => h ⟨hr1, hr2⟩), if_neg (fun h => h ⟨hr1, hr2⟩), p1, p2]
      exact ⟨rfl, rfl⟩
    obtain ⟨r, hr⟩ : ∃ r, mulE A B = r := ⟨_, rfl⟩
    obtain ⟨O, hO⟩ : ∃ O, mulO A B = O := ⟨_, rfl⟩
    rw [hr, hO] at e1 ⊢
    have HE := Lib.hid e1
    rw [hr1] at C1
    rw [hr2] at C2
    have HV1 : Hid (Bts (· < w.heap.size) w v1 A) := Lib.hid (Bts.kind h1 fun b h _ => h)
    have HV2 : Hid (Bts (· < w.heap.size) w v2 B) := Lib.hid (Bts.kind h2 fun b h _ => h)
    have HB1 := Lib.hid b1
    have HB2 := Lib.hid b2
    obtain ⟨la, ea⟩ : ∃ k, A.length = k := ⟨_, rfl⟩
    obtain ⟨lb, eb⟩ : ∃ k, B.length = k := ⟨_, rfl⟩
    obtain ⟨a1, c1, rfl, hc1⟩ := Bts.form h1
    obtain ⟨a2, c2, rfl, hc2⟩ := Bts.form h2
    rw [ea] at HV1 r1 hc1 C1 ⊢
    rw [eb] at HV2 r2 hc2 C2 ⊢
    have HL1 := Lib.hid ea
    have HL2 := Lib.hid eb
    obtain ⟨q1, _⟩ := r1
    obtain ⟨q2, _⟩ := r2
    clear h1 h2 b1 b2 ea eb hr hO e1 hr1 hr2 l1 l2
    obtain ⟨m, hm⟩ : ∃ m, la + lb = m := ⟨_, rfl⟩
    have hm1 : m ≤ 800 := by omega
    have hmk := mk_ints w m (by omega)
    have hwm : IntKind.i64.wrap ((la : Int) + lb) = (m : Int) := by rw [IntKind.wrap_i64]; omega
    have R0 : Hid (RowF (w.alloc (.cells (madeCells #[Value.int .i64 0] m) 3)) w.heap.size m (fun _ => 0)) := Lib.hid ⟨fun j hj => made_int w m j hj, fun j => frozen_one _ _ _ _, by simp⟩
    have K0 : Hid (Only (fun k => w.heap.size ≤ k) w (w.alloc (.cells (madeCells #[Value.int .i64 0] m) 3))) := Lib.hid ((Only.refl _ w).alloc _)
    have HC : Hid (∀ w', Only (fun k => w.heap.size ≤ k) w w' → ∀ i, i < la → ∃ b o, a1 = some ⟨b, o, none⟩ ∧ w'.cell? ⟨b, o + i, none⟩ = some (.int .u8 (dgt A i))) := Lib.hid fun w' ho i hi => by
      obtain ⟨b, o, c, he, _, _, _, h⟩ := bts_cells (Bts.only HV1.out ho (fun b hb h => by omega)) (by rw [HL1.out]; omega)
      injection he with e _ _
      exact ⟨b, o, e, h i (by rw [HL1.out]; omega)⟩
    have HM := Lib.hid hm
    have hlm : la ≤ m := by omega
    clear hm
    go_enter Tryz.func17, Tryz.ntmps17
    go_upto_region 4 with (first | (go_at_call 16; with_reducible refine C1.out.mono ?_; rintro e w2 ⟨rfl, rfl⟩; clear C1) | (go_at_call 16; with_reducible refine C2.out.mono ?_; rintro e w2 ⟨rfl, rfl⟩))
    generalize w.alloc (.cells (madeCells #[Value.int .i64 0] m) 3) = w1 at *
    clear hmk C2
    go_wp2_with fail
    go_loopw [25] (fun s wr => ∃ i : Nat, i ≤ la ∧ s = .int .i64 i ∧ Hid (∃ f, RowF wr w.heap.size m f ∧ Lim (65025 * i) f ∧ sumV f m = val (A.take i) * val B) ∧ Hid (Only (fun k => w.heap.size ≤ k) w wr)) (fun s _ => la - (RowKit.intOf s).toNat)
    case atStart => exact ⟨0, Nat.zero_le _, rfl, Lib.hid ⟨_, R0.out, lim_zero (by decide), by rw [sumV_zero]; simp [val]⟩, K0⟩
    case round =>
      clear R0 K0
      obtain ⟨i, hi, rfl, HI, HO⟩ := hrel
      by_cases hlt : i < la
      · obtain ⟨b, o, rfl, q⟩ := HC.out wr HO.out i hlt
        have hd := dgt_rng HB1.out i
        have HT : Hid (Calls Tryz.prog 26 #[.slice (some ⟨w.heap.size, i, none⟩) (m - i) (m - i), .slice a2 lb c2, .int .i64 (dgt A i)] wr fun e w' => e = .returned (.tuple #[]) ∧ Hid (∃ f, RowF w' w.heap.size m f ∧ Lim (65025 * (i + 1 : Nat)) f ∧ sumV f m = val (A.take (i + 1)) * val B) ∧ Hid (Only (fun k => w.heap.size ≤ k) w w')) := Lib.hid (by
          obtain ⟨f, hf1, hf2, hf3⟩ := HI.out
          have hm := HM.out
          have hl2 := HL2.out
          refine (tally_code w.heap.size i (m - i) (m - i) m f (65025 * i) 255 _ B (dgt A i) wr hf1 (Bts.only HV2.out HO.out (fun b hb h => by omega)) (fun b hb => by show b ≠ w.heap.size; have : b < w.heap.size := hb; omega) HB2.out (by omega) (Nat.le_refl _) (by omega) (by omega) hf2 (by omega) (by omega) (by omega)).mono ?_
          rintro e w' ⟨rfl, hr, ho⟩
          refine ⟨rfl, Lib.hid ⟨_, hr, (lim_tally (K := 255) hf2 HB2.out (by omega)).mono (by omega), ?_⟩, Lib.hid (HO.out.trans (ho.mono fun k _ h => Nat.le_of_eq h.symm))⟩
          rw [tally_all _ _ _ _ _ (by omega), take_val i (by rw [HL1.out]; omega)]
          exact mul_next hf3)
        obtain ⟨d, hdd⟩ : ∃ d, dgt A i = d := ⟨_, rfl⟩
        rw [hdd] at q hd HT
        obtain ⟨hd1, hd2⟩ := hd
        have him : i < m := by omega
        clear HI HO HC hdd HL1 HM HL2
        go_wp2_with (go_at_call 26; refine HT.out.mono ?_; rintro e w2 ⟨rfl, HN, HO'⟩)
        exact ⟨⟨i + 1, by omega, by go_num, HN, HO'⟩, by simp [RowKit.intOf]; omega⟩
      · obtain rfl : la = i := by omega
        have HS : Hid (Calls Tryz.prog 21 #[.slice (some ⟨w.heap.size, 0, none⟩) m m] wr fun e w' => ∃ v, e = .returned (.tuple #[v, .int .i64 r]) ∧ Bts (fun _ => True) w' v O ∧ Below w.heap.size w w') := Lib.hid (by
          obtain ⟨f, hf1, hf2, hf3⟩ := HI.out
          rw [List.take_of_length_le (by rw [HL1.out]; exact Nat.le_refl _)] at hf3
          have C := settle_code w.heap.size m f wr hf1 (hf2.s (by omega)) (by omega)
          rw [hf3] at C
          refine C.mono ?_
          rintro e w' ⟨v, rfl, hv, hb⟩
          rw [HE.out.2] at hv
          have hB := HO.out.below (fun k hk h => by omega) (Nat.le_refl w.heap.size)
          exact ⟨v, by rw [HE.out.1], Bts.kind hv fun _ _ _ => trivial, hB.trans (hb.mono hB.size)⟩)
        clear HI HC HO
        go_wp2_with (go_at_call 21; refine HS.out.mono ?_; rintro e w2 ⟨v, rfl, hv, hb⟩; have HV := Lib.hid hv; have HB := Lib.hid hb; clear hv hb)
        go_ret2
        exact ⟨_, rfl, HV.out, HB.out⟩
  · have e1 : mulE A B = 2 := by unfold mulE; rw [if_pos hr]
    have e2 : mulO A B = [] := by unfold mulO; rw [if_pos hr]
    rw [e1, e2]
    obtain ⟨x, hx⟩ : ∃ x, rightB A = x := ⟨_, rfl⟩
    obtain ⟨y, hy⟩ : ∃ y, rightB B = y := ⟨_, rfl⟩
    rw [hx, hy] at hr
    rw [hx] at C1
    rw [hy] at C2
    clear e1 e2 h1 h2 b1 b2 l1 l2 hx hy
    cases x with
    | false =>
      go_enter Tryz.func17, Tryz.ntmps17
      go_wp2_with (go_at_call 16; refine C1.out.mono ?_; rintro e w2 ⟨rfl, rfl⟩)
      go_ret2
      exact ⟨_, rfl, bts_nil _ _, Below.refl _ _⟩
    | true =>
      obtain rfl : y = false := by cases y <;> simp_all
      clear hr
      go_enter Tryz.func17, Tryz.ntmps17
      go_wp2_with (first | (go_at_call 16; with_reducible refine C1.out.mono ?_; rintro e w2 ⟨rfl, rfl⟩; clear C1) | (go_at_call 16; with_reducible refine C2.out.mono ?_; rintro e w2 ⟨rfl, rfl⟩))
      go_ret2
      exact ⟨_, rfl, bts_nil _ _, Below.refl _ _⟩
end Go.Proofs.YtbfacdfmanffdaaGreatDoor
