/- NamesMany's walk. -/
import Derived.Test.YthooeehobhegbaaNHl
import Derived.Test.YthooeehobhegbaaNLay
namespace Go.Proofs.Ythooeehobhegbaa
set_option maxRecDepth 1000000
open Go.ChangeShapes Go.WideShapes Go.ChangeAt Go.RowKit

/-- The first i slots have the ids g. -/
def mI (g : Nat → Int) (i : Nat) : Nat → Int := fun j => if j < i then g j else 0
theorem mI_zero (g : Nat → Int) : mI g 0 = fun _ => 0 := by funext j; unfold mI; rw [if_neg (by omega)]
theorem mI_in (g : Nat → Int) {i j : Nat} (h : j < i) : mI g i j = g j := if_pos h
theorem mI_out (g : Nat → Int) {i j : Nat} (h : ¬ j < i) : mI g i j = 0 := if_neg h
theorem mI_put (g : Nat → Int) (i : Nat) : upd (mI g i) i (g i) = mI g (i + 1) := by
  funext j
  by_cases hj : j = i
  · subst hj; rw [upd_at, mI_in _ (Nat.lt_succ_self _)]
  · rw [upd_ne _ _ hj]
    by_cases h : j < i
    · rw [mI_in _ h, mI_in _ (by omega)]
    · rw [mI_out _ h, mI_out _ (by omega)]
/-- Ids that are apart. -/
structure Apart (g : Nat → Int) (m : Nat) : Prop where
  pos : ∀ i, i < m → 1 ≤ g i
  inj : ∀ i j, i < m → j < m → g i = g j → i = j
section
variable {g : Nat → Int} {n m : Nat}
theorem mI_none {i : Nat} (h : Apart g m) (hi : i < m) (_ : i ≤ n) : SlotIs n (mI g i) (g i) 0 := .inr ⟨rfl, fun j _ he => by
  by_cases hji : j < i
  · rw [mI_in _ hji] at he
    have := h.inj j i (by omega) hi he
    omega
  · rw [mI_out _ hji] at he; exact he.symm⟩
theorem mI_bind {i : Nat} (h : Apart g m) (hi : i < m) (hin : i < n) : BindIs n (mI g i) (g i) (i + 1) 0 (mI g (i + 1)) :=
  .inr (.inr (.inr ⟨h.pos i hi, mI_none h hi (by omega), ⟨by omega, by omega, mI_out _ (by omega), fun j hj => by rw [mI_in _ (by omega)]; have := h.pos j (by omega); omega⟩, rfl, (mI_put g i).symm⟩))
theorem mI_full (h : Apart g m) (hn : n < m) : BindIs n (mI g n) (g n) 0 3 (mI g n) :=
  .inr (.inr (.inl ⟨h.pos n hn, mI_none h hn (Nat.le_refl _), fun j hj => by rw [mI_in _ hj]; have := h.pos j (by omega); omega, rfl, rfl, rfl⟩))
theorem mI_slot {i : Nat} (h : Apart g m) (hn : n ≤ m) (hi : i < n) : SlotIs n (mI g n) (g i) (i + 1) :=
  .inl ⟨by omega, by omega, by have := h.pos i (by omega); omega, mI_in _ hi⟩
theorem mI_len (h : Apart g m) (hn : n ≤ m) : (slotsN (mI g n) n).length = n := by
  rw [slotsN_len, cntI_full fun i hi => by rw [mI_in _ hi]; have := h.pos i (by omega); omega]
end
theorem step_apart (f d : Nat) : Apart (fun i => 1 + (f : Int) + (i : Int) * (1 + (d : Int))) 100000 := by
  have key : ∀ i : Nat, (i : Int) * (1 + (d : Int)) = ((i * (1 + d) : Nat) : Int) := fun i => by simp
  refine ⟨fun i _ => ?_, fun i j _ _ he => ?_⟩
  · show 1 ≤ 1 + (f : Int) + (i : Int) * (1 + (d : Int))
    rw [key]; omega
  · have he : 1 + (f : Int) + (i : Int) * (1 + (d : Int)) = 1 + (f : Int) + (j : Int) * (1 + (d : Int)) := he
    rw [key, key] at he
    have h1 : i * (1 + d) = j * (1 + d) := by omega
    exact Nat.eq_of_mul_eq_mul_right (by omega) h1
theorem step_le (f d i : Nat) (hf : f ≤ 4294967295) (hd : d ≤ 65535) (hi : i ≤ 255) : (0 : Int) ≤ (i : Int) * (1 + (d : Int)) ∧ (i : Int) * (1 + (d : Int)) ≤ 16777216 ∧ 1 + (f : Int) + (i : Int) * (1 + (d : Int)) ≤ 9223372036854775807 := by
  have h1 : i * (1 + d) ≤ 255 * (1 + d) := Nat.mul_le_mul_right _ hi
  have h2 : (i : Int) * (1 + (d : Int)) = ((i * (1 + d) : Nat) : Int) := by simp
  rw [h2]
  generalize i * (1 + d) = p at *
  omega
set_option maxHeartbeats 4000000 in
theorem namesMany_walk (W : World) (n : Int) (hn : (Lit.int .u8 n).wf = true) (f : Int) (hf : (Lit.int .u32 f).wf = true) (d : Int) (hd : (Lit.int .u16 d).wf = true) : Calls Try.prog 7 #[.int .u8 n, .int .u32 f, .int .u16 d] W fun e W' => e = .returned (.bool true) ∧ Below W.heap.size W W' := by
  obtain ⟨n0, n1⟩ := wf_u8 hn
  obtain ⟨f0, f1⟩ := wf_u32 hf
  obtain ⟨d0, d1⟩ := wf_u16 hd
  obtain ⟨n, rfl⟩ := Int.eq_ofNat_of_zero_le n0
  obtain ⟨f, rfl⟩ := Int.eq_ofNat_of_zero_le f0
  obtain ⟨d, rfl⟩ := Int.eq_ofNat_of_zero_le d0
  have hn1 : n ≤ 255 := by omega
  have HK := Lib.hid (fun w => known_any w)
  have HN := Lib.hid (new_yes n W (by omega))
  have HA := Lib.hid (step_apart f d)
  have HLe : Hid (∀ i : Nat, i ≤ 255 → (0 : Int) ≤ (i : Int) * (1 + (d : Int)) ∧ (i : Int) * (1 + (d : Int)) ≤ 16777216 ∧ 1 + (f : Int) + (i : Int) * (1 + (d : Int)) ≤ 9223372036854775807) := Lib.hid (fun i hi => step_le f d i (by omega) (by omega) hi)
  obtain ⟨g, hg⟩ : ∃ g : Nat → Int, (fun i : Nat => 1 + (f : Int) + (i : Int) * (1 + (d : Int))) = g := ⟨_, rfl⟩
  have HG : Hid (∀ i : Nat, 1 + (f : Int) + (i : Int) * (1 + (d : Int)) = g i) := Lib.hid (fun i => by rw [← hg])
  rw [hg] at HA
  clear hg hn hf hd n0 f0 d0
  have HB : Hid (∀ (c : Tb) (w1 : World) (i : Nat), i < n → TabB W w1 c n (mI g i) → Calls Try.prog 10 #[.pointer (some ⟨c.t, 0, none⟩), .int .i64 (g i)] w1 (TabPost (.tuple #[.int .i64 ((i : Int) + 1), .int .i64 0]) c n (mI g (i + 1)) w1)) :=
    Lib.hid (fun c w1 i hi h => bind_at (g i) (i + 1) 0 _ h.is (by have := (HLe.out i (by omega)).2.2; rw [HG.out] at this; exact this) (mI_bind HA.out (by omega) hi))
  have HBF : Hid (∀ (c : Tb) (w1 : World), TabB W w1 c n (mI g n) → Calls Try.prog 10 #[.pointer (some ⟨c.t, 0, none⟩), .int .i64 (g n)] w1 (TabPost (.tuple #[.int .i64 0, .int .i64 3]) c n (mI g n) w1)) :=
    Lib.hid (fun c w1 h => bind_at (g n) 0 3 _ h.is (by have := (HLe.out n (by omega)).2.2; rw [HG.out] at this; exact this) (mI_full HA.out (by omega)))
  have HSl : Hid (∀ (c : Tb) (w1 : World) (i : Nat), i < n → TabB W w1 c n (mI g n) → Calls Try.prog 16 #[.pointer (some ⟨c.t, 0, none⟩), .int .i64 (g i)] w1 (Told (.tuple #[.int .i64 ((i : Int) + 1), .bool true]) w1)) :=
    Lib.hid (fun c w1 i hi h => by
      have := slot_at (g i) (i + 1) h.is (mI_slot HA.out (by omega) hi)
      rw [decide_eq_true (by omega)] at this
      exact this)
  have HId : Hid (∀ (c : Tb) (w1 : World) (i : Nat), i < n → TabB W w1 c n (mI g n) → Calls Try.prog 17 #[.pointer (some ⟨c.t, 0, none⟩), .int .i64 ((i : Int) + 1)] w1 (Told (.tuple #[.int .i64 (g i), .bool true]) w1)) :=
    Lib.hid (fun c w1 i hi h => by
      have := id_at ((i : Int) + 1) h.is
      have hp := HA.out.pos i (by omega)
      rw [idOf_at hi, mI_in _ hi, show (g i != 0) = true by simp; omega] at this
      exact this)
  have HSs : Hid (∀ (c : Tb) (w1 : World), TabB W w1 c n (mI g n) → Calls Try.prog 21 #[.pointer (some ⟨c.t, 0, none⟩)] w1 fun e w2 => ∃ a cap, e = .returned (.slice a n cap) ∧ Ints (w1.heap.size ≤ ·) w2 (.slice a n cap) (intsN (slotsN (mI g n) n)) ∧ TabB W w2 c n (mI g n) ∧ Below w1.heap.size w1 w2) :=
    Lib.hid (fun c w1 h => by
      have := slots_b h
      rw [mI_len HA.out (by omega)] at this
      exact this)
  have HLn : Hid ((intsN (slotsN (mI g n) n)).length = n) := by show _ = _; rw [intsN_len, mI_len HA.out (by omega)]
  have HFr : Hid (∀ (c : Tb) (w1 w2 : World) (v : Value), Ints (w1.heap.size ≤ ·) w2 v (intsN (slotsN (mI g n) n)) → TabB W w1 c n (mI g n) → TabB W w2 c n (mI g n) → Calls Try.prog 12 #[.pointer (some ⟨c.t, 0, none⟩), v] w2 (TabPost (.int .i64 0) c n (clr (mI g n) (intsN (slotsN (mI g n) n))) w2)) :=
    Lib.hid (fun c w1 w2 v hv h1 h => free_at v _ 0 _ h.is hv (fun b hb hT => by have := h1.is.lt b hT; omega) (by rw [HLn.out]; omega) free_all_is)
  have HS0 : Hid (∀ (c : Tb) (w1 : World), TabB W w1 c n (clr (mI g n) (intsN (slotsN (mI g n) n))) → Calls Try.prog 21 #[.pointer (some ⟨c.t, 0, none⟩)] w1 fun e w2 => ∃ a cap, e = .returned (.slice a 0 cap) ∧ Ints (w1.heap.size ≤ ·) w2 (.slice a 0 cap) [] ∧ TabB W w2 c n (clr (mI g n) (intsN (slotsN (mI g n) n))) ∧ Below w1.heap.size w1 w2) :=
    Lib.hid (fun c w1 h => by
      have := slots_b h
      rw [slots_clr] at this
      exact this)
  have HSm : Hid (∀ (a : Option Addr) (cap : Nat) (w1 w2 : World), Ints (w1.heap.size ≤ ·) w2 (.slice a 0 cap) [] → Calls Try.prog 20 #[.slice a 0 cap, .slice none 0 0] w2 fun e w' => e = .returned (.bool true) ∧ ∃ d, w' = w2.drewN d) :=
    Lib.hid (fun a cap w1 w2 h => sameInts_eq (M := fun _ => True) _ _ [] w2 h ⟨none, 0, rfl, by simp, .inl rfl⟩ (by simp))
  go_enter Try.func7, Try.ntmps7
  go_wp2_with fail
  refine HN.out.mono ?_
  rintro e w1 p
  obtain ⟨c, rfl, h1⟩ := tabB_new p
  have H1 : Hid (TabB W w1 c n (mI g 0)) := by rw [mI_zero]; exact h1
  clear p h1
  go_wp2_with fail
  go_loopw [10] (fun s10 wr => ∃ i : Nat, i ≤ n ∧ s10 = .int .i64 i ∧ Hid (TabB W wr c n (mI g i))) (fun s10 _ => n - (intOf s10).toNat)
  case atStart => exact ⟨0, Nat.zero_le _, rfl, H1⟩
  case round =>
    clear H1
    obtain ⟨i, hi, rfl, H1⟩ := hrel
    by_cases hlt : i < n
    · have hlt' : (i : Int) < n := by omega
      obtain ⟨l1, l2, l3⟩ := HLe.out i (by omega)
      have hgi := HG.out i
      have hw1 : IntKind.i64.wrap ((i : Int) * (1 + (d : Int))) = (i : Int) * (1 + (d : Int)) := IntWalk.i64_in _ (by omega)
      have hw2 : IntKind.i64.wrap (1 + (f : Int) + (i : Int) * (1 + (d : Int))) = g i := by rw [IntWalk.i64_in _ (by omega)]; exact hgi
      go_wp2_with fail
      refine (HB.out c wr i hlt H1.out).mono ?_
      rintro e w2 p
      obtain ⟨rfl, h2, _⟩ := H1.out.post p
      have H2 := Lib.hid h2
      clear p h2 hw1 hw2 hgi l1 l2 l3
      go_wp2_with fail
      go_roundw
      case rel => exact ⟨i + 1, by omega, by go_num, H2⟩
      case measure => simp [intOf]; omega
    · obtain rfl : i = n := by omega
      obtain ⟨l1, l2, l3⟩ := HLe.out i (by omega)
      have hgi := HG.out i
      have hw1 : IntKind.i64.wrap ((i : Int) * (1 + (d : Int))) = (i : Int) * (1 + (d : Int)) := IntWalk.i64_in _ (by omega)
      have hw2 : IntKind.i64.wrap (1 + (f : Int) + (i : Int) * (1 + (d : Int))) = g i := by rw [IntWalk.i64_in _ (by omega)]; exact hgi
      go_wp2_with fail
      refine (HBF.out c wr H1.out).mono ?_
      rintro e w2 p
      obtain ⟨rfl, h2, _⟩ := H1.out.post p
      have H2 := Lib.hid h2
      clear p h2 hw1 hw2 hgi l1 l2 l3 H1
      go_wp2_with fail
      go_loopw [15] (fun s15 wx => ∃ k : Nat, k ≤ i ∧ s15 = .int .i64 k ∧ Hid (w2 = wx)) (fun s15 _ => i - (intOf s15).toNat)
      case atStart => exact ⟨0, Nat.zero_le _, rfl, Lib.hid rfl⟩
      case round =>
        obtain ⟨k, hk, rfl, hwx⟩ := hrel
        obtain rfl := hwx.out
        clear hwx
        by_cases hlt : k < i
        · have hlt' : (k : Int) < i := by omega
          obtain ⟨l1, l2, l3⟩ := HLe.out k (by omega)
          have hgi := HG.out k
          have hw1 : IntKind.i64.wrap ((k : Int) * (1 + (d : Int))) = (k : Int) * (1 + (d : Int)) := IntWalk.i64_in _ (by omega)
          have hw2 : IntKind.i64.wrap (1 + (f : Int) + (k : Int) * (1 + (d : Int))) = g k := by rw [IntWalk.i64_in _ (by omega)]; exact hgi
          go_wp2_with fail
          refine (HSl.out c w2 k hlt H2.out).mono ?_
          rintro e w3 ⟨rfl, rfl⟩
          go_wp2_with fail
          refine (HId.out c w2 k hlt H2.out).mono ?_
          rintro e w3 ⟨rfl, rfl⟩
          go_wp2_with fail
          go_roundw
          case rel => exact ⟨k + 1, by omega, by go_num, Lib.hid (by first | rfl | trivial)⟩
          case measure => simp [intOf]; omega
        · obtain rfl : k = i := by omega
          go_wp2_with fail
          refine (HSs.out c w2 H2.out).mono ?_
          rintro e w3 ⟨a, cap, rfl, hi3, h3, _⟩
          have HI3 := Lib.hid hi3
          have H3 := Lib.hid h3
          clear hi3 h3
          go_wp2_with fail
          refine (HFr.out c w2 w3 _ HI3.out H2.out H3.out).mono ?_
          rintro e w4 p
          obtain ⟨rfl, h4, _⟩ := H3.out.post p
          have H4 := Lib.hid h4
          clear p h4
          go_wp2_with fail
          refine (HS0.out c w4 H4.out).mono ?_
          rintro e w5 ⟨a5, cap5, rfl, hi5, h5, _⟩
          have HI5 := Lib.hid hi5
          have H5 := Lib.hid h5
          clear hi5 h5
          go_wp2_with fail
          refine (HSm.out a5 cap5 w4 w5 HI5.out).mono ?_
          rintro e w6 ⟨rfl, q, hw6⟩
          have H6 : Hid (TabB W w6 c k (clr (mI g k) (intsN (slotsN (mI g k) k)))) := by
            show TabB _ _ _ _ _
            rw [hw6]; exact H5.out.drewN q
          clear hw6
          go_wp2_with fail
          refine (HK.out w6).mono ?_
          rintro e w7 ⟨rfl, b7⟩
          have B7 := Lib.hid (H6.out.bl.trans (b7.mono H6.out.bl.size))
          clear b7
          go_wp2_with fail
          go_ret
          exact ⟨rfl, B7.out⟩
end Go.Proofs.Ythooeehobhegbaa
