/- The document's Int, told, Cmp. -/
import Derived.Test.YtbfacdfmanffdaaGreatDoorGSe
namespace Go.Proofs.YtbfacdfmanffdaaGreatDoor
set_option maxRecDepth 1000000
open Go.ChangeShapes Go.WideShapes Go.ChangeAt Go.RowKit

/-- Is it a number that an int holds? -/
def intB (bs : List Int) : Bool := rightB bs && decide (val bs ≤ 9223372036854775807)
def intV (bs : List Int) : Int := if intB bs = true then val bs else 0
theorem val_cut (bs : List Int) (k : Nat) (h : k ≤ bs.length) : val bs = val (bs.take k) + 256 ^ k * val (bs.drop k) := by
  have e := List.take_append_drop k bs
  have h2 := val_append (bs.take k) (bs.drop k)
  rw [e, List.length_take, Nat.min_eq_left h] at h2
  exact h2
theorem drop_bytes {bs : List Int} (h : Bytes bs) (k : Nat) : Bytes (bs.drop k) := fun n hn => h n (List.mem_of_mem_drop hn)
theorem val_big {bs : List Int} (hb : Bytes bs) {j : Nat} (hj : j + 1 ≤ bs.length) (h : 36028797018963967 < val (bs.drop (j + 1))) : ¬ val bs ≤ 9223372036854775807 := by
  have h1 := val_cut bs (j + 1) hj
  have h2 := val_nonneg (take_bytes hb (j + 1))
  have h3 := pow_pos256 j
  rw [Int.pow_succ] at h1
  have h4 : 256 ^ j * 256 * val (bs.drop (j + 1)) ≥ 1 * 256 * val (bs.drop (j + 1)) := by
    have := Int.mul_le_mul_of_nonneg_right (show 1 * 256 ≤ (256 : Int) ^ j * 256 by omega) (show 0 ≤ val (bs.drop (j + 1)) by omega)
    exact this
  omega
set_option maxHeartbeats 4000000 in
theorem int_ref {N : Nat → Prop} (v : Value) (bs : List Int) (w : World) (hv : Bts N w v bs) (hb : Bytes bs) (hl : bs.length ≤ 1000000000000) :
    Calls Tryz.prog 10 #[v] w fun e w' => e = .returned (.tuple #[.int .i64 (intV bs), .bool (intB bs)]) ∧ w = w' := by
  have HR := Lib.hid (right_ref v bs w hv hl)
  obtain ⟨ln, hln⟩ : ∃ n, bs.length = n := ⟨_, rfl⟩
  have HC : Hid (∀ i, i < ln → ∃ b off c, v = .slice (some ⟨b, off, none⟩) ln c ∧ w.cell? ⟨b, off + i, none⟩ = some (.int .u8 (dgt bs i))) := Lib.hid fun i h => by
    obtain ⟨b, off, c, he, _, _, _, h'⟩ := bts_cells hv (by omega)
    exact ⟨b, off, c, by rw [he, hln], h' i (by omega)⟩
  have HBy := Lib.hid hb
  have HL := Lib.hid hln
  obtain ⟨va, c, rfl, hc⟩ := Bts.form hv
  rw [hln] at hl hc HR ⊢
  have HI : Hid (∀ r : Bool, rightB bs = r → (r = false → intV bs = 0 ∧ intB bs = false) ∧ (r = true → (val bs ≤ 9223372036854775807 → intV bs = val bs ∧ intB bs = true) ∧ (¬ val bs ≤ 9223372036854775807 → intV bs = 0 ∧ intB bs = false))) := Lib.hid fun r hr => by
    refine ⟨fun h => ?_, fun h => ⟨fun h2 => ?_, fun h2 => ?_⟩⟩
    · have e : intB bs = false := by unfold intB; rw [hr, h]; rfl
      exact ⟨by unfold intV; rw [e]; rfl, e⟩
    · have e : intB bs = true := by unfold intB; rw [hr, h, decide_eq_true h2]; rfl
      exact ⟨by unfold intV; rw [if_pos e], e⟩
    · have e : intB bs = false := by unfold intB; rw [hr, h, decide_eq_false h2]; rfl
      exact ⟨by unfold intV; rw [e]; rfl, e⟩
  generalize intV bs = iv at *
  generalize intB bs = ib at *
  generalize rightB bs = r at *
  have HI2 := Lib.hid (HI.out r rfl)
  clear hv hb hln HI
  cases r with
  | false =>
    obtain ⟨rfl, rfl⟩ := HI2.out.1 rfl
    clear HI2
    go_enter Tryz.func10, Tryz.ntmps10
    go_wp2_with (go_at_call 23; refine HR.out.mono ?_; rintro e w1 ⟨rfl, rfl⟩)
    go_ret2
    exact ⟨rfl, rfl⟩
  | true =>
    obtain ⟨hy, hn⟩ := HI2.out.2 rfl
    have HY := Lib.hid hy
    have HN := Lib.hid hn
    clear HI2 hy hn
    go_enter Tryz.func10, Tryz.ntmps10
    go_wp2_with (go_at_call 23; refine HR.out.mono ?_; rintro e w1 ⟨rfl, rfl⟩)
    go_loopw [4, 5] (fun s4 s5 wr => ∃ (k : Nat) (n : Int), k ≤ ln ∧ s5 = .int .i64 ((k : Int) - 1) ∧ s4 = .int .i64 n ∧ 0 ≤ n ∧ n ≤ 9223372036854775807 ∧ Hid (val (bs.drop k) = n) ∧ wr = w) (fun _ s5 _ => (RowKit.intOf s5 + 1).toNat)
    case atStart => exact ⟨ln, 0, Nat.le_refl _, rfl, rfl, by omega, by omega, Lib.hid (by rw [List.drop_of_length_le (by rw [HL.out]; exact Nat.le_refl _)]; rfl), rfl⟩
    case round =>
      obtain ⟨k, n, hk, rfl, rfl, hn0, hn1, HV, hwr⟩ := hrel
      subst hwr
      cases k with
      | zero =>
        have HF : Hid (iv = n ∧ ib = true) := Lib.hid (by
          have h := HV.out
          rw [List.drop_zero] at h
          have := HY.out (by omega)
          rw [h] at this
          exact this)
        clear HV HY HN HC
        go_wp2_with fail
        go_ret2
        obtain ⟨rfl, rfl⟩ := HF.out
        exact ⟨rfl, rfl⟩
      | succ j =>
        obtain ⟨b, off, cc, hvv, q⟩ := HC.out j (by omega)
        injection hvv with e1 _ _
        subst e1
        have hd := dgt_rng HBy.out j
        have hV2 : Hid (val (bs.drop j) = dgt bs j + 256 * n) := Lib.hid (by rw [val_drop (by rw [HL.out]; omega), HV.out])
        obtain ⟨d, hdd⟩ : ∃ d, dgt bs j = d := ⟨_, rfl⟩
        rw [hdd] at hd q hV2
        have hjj : (((j + 1 : Nat) : Int) - 1) = (j : Int) := by omega
        rw [hjj]
        by_cases hbig : 36028797018963967 < n
        · have d1 : decide (36028797018963967 < n) = true := by simpa using hbig
          have HF : Hid (iv = 0 ∧ ib = false) := Lib.hid (HN.out (Int.not_le.1 (val_big HBy.out (j := j) (by rw [HL.out]; omega) (by rw [HV.out]; exact hbig))))
          clear HV HY HN HC hdd hjj hbig
          go_wp2_with fail
          go_ret2
          obtain ⟨rfl, rfl⟩ := HF.out
          exact ⟨rfl, rfl⟩
        · have d1 : decide (36028797018963967 < n) = false := by simpa using hbig
          have hw1 : IntKind.i64.wrap (256 * n) = 256 * n := by rw [IntKind.wrap_i64]; omega
          have hw2 : IntKind.i64.wrap (256 * n + d) = 256 * n + d := by rw [IntKind.wrap_i64]; omega
          have hj0 : (0 : Int) ≤ j := by omega
          have hjl : (j : Int) < ln := by omega
          have hjl2 : j < ln := by omega
          have HV' : Hid (val (bs.drop j) = 256 * n + d) := Lib.hid (by rw [hV2.out]; omega)
          have hle : 256 * n + d ≤ 9223372036854775807 := by omega
          have h0 : 0 ≤ 256 * n + d := by omega
          clear HV HY HN HC hdd hjj hbig hV2
          go_wp2_with fail
          exact ⟨⟨j, 256 * n + d, by omega, rfl, rfl, h0, hle, HV', by trivial⟩, by simp [RowKit.intOf] <;> omega⟩
def toldE (xs : List Int) : Int := if xs.length ≤ 400 then 0 else 3
def toldO (xs : List Int) : List Int := if xs.length ≤ 400 then xs else []
theorem told_ref (w0 w : World) (B : Nat) (v : Value) (xs : List Int) (h : OwnB B w v xs) :
    Calls Tryz.prog 30 #[v] w fun e w' => (∃ u, e = .returned (.tuple #[u, .int .i64 (toldE xs)]) ∧ OwnB B w u (toldO xs)) ∧ w = w' := by
  unfold toldE toldO
  have H := Lib.hid h
  obtain ⟨a, c, rfl⟩ : ∃ a c, v = .slice a xs.length c := by
    rcases h.2 with ⟨rfl, h0⟩ | ⟨g, cap, cur, rfl, _⟩
    · exact ⟨none, 0, by rw [h0]⟩
    · exact ⟨_, cap, rfl⟩
  obtain ⟨ln, hln⟩ : ∃ n, xs.length = n := ⟨_, rfl⟩
  have HL := Lib.hid hln
  rw [hln]
  clear h hln
  by_cases hle : ln ≤ 400
  · have d1 : decide ((400 : Int) < ln) = false := by simp; omega
    have d2 : decide (400 < ln) = false := by simp; omega
    rw [if_pos hle, if_pos hle]
    clear hle
    go_enter Tryz.func30, Tryz.ntmps30
    go_wp2_with fail
    go_ret2
    exact ⟨⟨_, rfl, by show OwnB B w (.slice a ln c) xs; rw [← HL.out]; exact H.out⟩, rfl⟩
  · have d1 : decide ((400 : Int) < ln) = true := by simp; omega
    have d2 : decide (400 < ln) = true := by simp; omega
    rw [if_neg hle, if_neg hle]
    clear hle
    go_enter Tryz.func30, Tryz.ntmps30
    go_wp2_with fail
    go_ret2
    exact ⟨⟨_, rfl, World.ownsRow_nil _ _ _ _⟩, rfl⟩
end Go.Proofs.YtbfacdfmanffdaaGreatDoor
