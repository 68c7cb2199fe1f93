/- Package large's settle and Of: columns of numbers, whatever their signs and sizes, as digits. -/
import Derived.Test.YtbfacdfmanffdaaGreatDoorJTr
namespace Go.Proofs.YtbfacdfmanffdaaGreatDoor
set_option maxRecDepth 1000000
open Go.ChangeShapes Go.WideShapes Go.ChangeAt Go.RowKit

def setE (V : Int) : Int := if V < 0 then 4 else toldE (dig V.toNat)
def setO (V : Int) : List Int := if V < 0 then [] else toldO (dig V.toNat)
def SetPost (V : Int) (w : World) (e : Ending) (w' : World) : Prop := ∃ v, e = .returned (.tuple #[v, .int .i64 (setE V)]) ∧ Bts (w.heap.size ≤ ·) w' v (setO V) ∧ Below w.heap.size w w'
theorem SetPost.b {V : Int} {w : World} {e : Ending} {w' : World} (h : SetPost V w e w') : NumB (setE V) (setO V) w e w' := by
  obtain ⟨v, h1, h2, h3⟩ := h
  exact ⟨v, h1, Bts.kind h2 fun _ _ _ => trivial, h3⟩
theorem padF_at (f : Nat → Int) (m i : Nat) : padF f m i = if i < m then f i else 0 := rfl
/-- Columns that can be settled: the first one may be any int. -/
structure LimS (f : Nat → Int) : Prop where
  all : ∀ j, -9223372036854775807 ≤ f j ∧ f j ≤ 9223372036854775807
  more : ∀ j, 0 < j → -4000000000000000000 ≤ f j ∧ f j ≤ 4000000000000000000
theorem Lim.s {M : Int} {f : Nat → Int} (h : Lim M f) (hM : M ≤ 4000000000000000000) : LimS f :=
  ⟨fun j => by have := h j; omega, fun j _ => by have := h j; omega⟩
theorem lims_pad {f : Nat → Int} (h : LimS f) (m : Nat) : LimS (padF f m) := by
  refine ⟨fun j => ?_, fun j hj => ?_⟩
  · unfold padF
    split
    · exact h.all j
    · omega
  · unfold padF
    split
    · exact h.more j hj
    · omega
theorem set_fin {f h : Nat → Int} {m : Nat} {c : Int} (hf : LimS f) (hh : ∀ j, 0 ≤ h j ∧ h j ≤ 255) (e : sumV h (m + 8) + 256 ^ (m + 8) * c = sumV (padF f m) (m + 8)) :
    (c < 0 ↔ sumV f m < 0) ∧ (¬ sumV f m < 0 → sumV f m = sumV h (m + 8)) := by
  rw [sumV_pad] at e
  obtain ⟨h1, h2⟩ := sumV_lt hh (m + 8)
  obtain ⟨h3, h4⟩ := sumV_lim (M := 9223372036854775807) (by decide) hf.all m
  have hp := pow_pos256 m
  have h5 : (256 : Int) ^ (m + 8) = 18446744073709551616 * 256 ^ m := by rw [Int.pow_add, show (256 : Int) ^ 8 = 18446744073709551616 by decide, Int.mul_comm]
  refine carry_end e h1 h2 ?_ ?_
  · rw [h5]; omega
  · rw [h5]; omega
set_option maxHeartbeats 8000000 in
theorem settle_code (g m : Nat) (f : Nat → Int) (w : World) (hR : RowF w g m f) (hf : LimS f) (hm : m ≤ 1000000000) :
    Calls Tryz.prog 21 #[.slice (some ⟨g, 0, none⟩) m m] w (SetPost (sumV f m) w) := by
  obtain ⟨M, hM⟩ : ∃ M, m + 8 = M := ⟨_, rfl⟩
  have hM1 : M ≤ 1000000008 := by omega
  have hw8 : IntKind.i64.wrap ((m : Int) + 8) = (M : Int) := by rw [IntKind.wrap_i64]; omega
  have hmk := mk_bytes w M (by omega)
  have R0 : Hid (RowB (w.alloc (.cells (madeCells #[Value.int .u8 0] M) 5)) w.heap.size M (fun _ => 0)) := Lib.hid ⟨fun j hj => made_byte w M j hj, fun j => frozen_one _ _ _ _, by simp⟩
  have K0 : Hid (Only (fun k => w.heap.size ≤ k) w (w.alloc (.cells (madeCells #[Value.int .u8 0] M) 5))) := Lib.hid ((Only.refl _ w).alloc _)
  have hg := hR.2.2
  have HC : Hid (∀ w', Only (fun k => w.heap.size ≤ k) w w' → ∀ i, i < m → w'.cell? ⟨g, i, none⟩ = some (.int .i64 (f i))) := Lib.hid fun w' ho i hi => (ho.cell (p := ⟨g, i, none⟩) hg (by show ¬ w.heap.size ≤ g; omega)).trans (hR.1 i hi)
  have HFin := Lib.hid (fun (h : Nat → Int) (c : Int) (hh : ∀ j, 0 ≤ h j ∧ h j ≤ 255) (e : sumV h M + 256 ^ M * c = sumV (padF f m) M) => (by rw [← hM] at e ⊢; exact set_fin hf hh e : (c < 0 ↔ sumV f m < 0) ∧ (¬ sumV f m < 0 → sumV f m = sumV h M)))
  have HLim := Lib.hid (lims_pad hf m)
  have HV : Hid (∀ V : Int, V = sumV f m → SetPost V = SetPost (sumV f m)) := Lib.hid fun V h => by rw [h]
  generalize hVV : sumV f m = V at *
  unfold SetPost
  obtain ⟨r, hr⟩ : ∃ r, setE V = r := ⟨_, rfl⟩
  obtain ⟨O, hO⟩ : ∃ O, setO V = O := ⟨_, rfl⟩
  have HRr := Lib.hid hr
  have HOo := Lib.hid hO
  rw [hr, hO]
  clear hr hO
  have HM := Lib.hid hM
  clear hR hf HV hVV hM
  go_enter Tryz.func21, Tryz.ntmps21
  go_upto_region 2 with fail
  generalize w.alloc (.cells (madeCells #[Value.int .u8 0] M) 5) = w1 at *
  clear hmk
  go_wp2_with fail
  go_loopw [5, 13] (fun s5 s13 wr => ∃ (i : Nat) (c : Int), i ≤ M ∧ s13 = .int .i64 i ∧ s5 = .int .i64 c ∧ (-4000000000000000000 ≤ c ∧ c ≤ 4000000000000000000) ∧ Hid (i = 0 → c = 0) ∧ Hid (∃ h : Nat → Int, RowB wr w.heap.size M h ∧ (∀ j, 0 ≤ h j ∧ h j ≤ 255) ∧ sumV h i + 256 ^ i * c = sumV (padF f m) i) ∧ Hid (Only (fun k => w.heap.size ≤ k) w wr)) (fun _ s13 _ => M - (RowKit.intOf s13).toNat)
  case atStart => exact ⟨0, 0, Nat.zero_le _, rfl, rfl, ⟨by omega, by omega⟩, Lib.hid (fun _ => rfl), Lib.hid ⟨fun _ => 0, R0.out, fun _ => ⟨Int.le_refl 0, (by decide : (0 : Int) ≤ 255)⟩, by simp [sumV]⟩, K0⟩
  case round =>
    clear R0 K0
    obtain ⟨i, c, hi, rfl, rfl, ⟨hc1, hc2⟩, HZ, HI, HO⟩ := hrel
    by_cases hlt : i < M
    · have q3 : wr.frozen? ⟨w.heap.size, i, none⟩ = false := by obtain ⟨h, hr, _⟩ := HI.out; exact hr.2.1 i
      have q2 : Hid (∃ u, wr.cell? ⟨w.heap.size, i, none⟩ = some (.int .u8 u)) := Lib.hid (by obtain ⟨h, hr, _⟩ := HI.out; exact ⟨_, hr.1 i hlt⟩)
      obtain ⟨u, q2⟩ := q2.out
      have hp := HLim.out.all i
      have hp2 : 0 < i → -4000000000000000000 ≤ padF f m i ∧ padF f m i ≤ 4000000000000000000 := HLim.out.more i
      have hz := HZ.out
      obtain ⟨x, hx⟩ : ∃ x, padF f m i = x := ⟨_, rfl⟩
      have hx' := hx
      rw [padF_at] at hx'
      rw [hx] at hp hp2
      obtain ⟨t, ht⟩ : ∃ t, c + x = t := ⟨_, rfl⟩
      have hcs : -9223372036854775807 ≤ t ∧ t ≤ 9223372036854775807 := by
        by_cases h0 : i = 0
        · have := hz h0; omega
        · have := hp2 (by omega); omega
      obtain ⟨t1, t2⟩ := hcs
      have hcs : -4000000000000000000 ≤ t / 256 ∧ t / 256 ≤ 4000000000000000000 := by omega
      have w1 : IntKind.i64.wrap (c + x) = t := by rw [IntKind.wrap_i64]; omega
      clear hp2 hz HZ
      have w8 : IntKind.u8.wrap t = t % 256 := by rw [IntKind.wrap_u8]
      have HN : Hid (∃ h : Nat → Int, RowB (wr.setCell ⟨w.heap.size, i, none⟩ (.int .u8 (t % 256))) w.heap.size M h ∧ (∀ j, 0 ≤ h j ∧ h j ≤ 255) ∧ sumV h (i + 1) + 256 ^ (i + 1) * (t / 256) = sumV (padF f m) (i + 1)) := Lib.hid (by
        obtain ⟨h, hr, hh, he⟩ := HI.out
        refine ⟨_, hr.set hlt (t % 256), fun j => ?_, carry_step (S := 0) he (by rw [hx]; omega)⟩
        split
        · omega
        · exact hh j)
      have HO' : Hid (Only (fun k => w.heap.size ≤ k) w (wr.setCell ⟨w.heap.size, i, none⟩ (.int .u8 (t % 256)))) := Lib.hid (HO.out.setCell ⟨w.heap.size, i, none⟩ (.inl (Nat.le_refl _)) _)
      by_cases hlm : i < m
      · have q1 := HC.out wr HO.out i hlm
        rw [if_pos hlm] at hx'
        rw [hx'] at q1
        have d1 : decide ((i : Int) < m) = true := by simpa using hlm
        have d2 : decide (i < m) = true := by simpa using hlm
        clear hx' hx hp HI HO HC HFin HLim
        go_wp2_with fail
        exact ⟨⟨i + 1, t / 256, by omega, by go_num, by trivial, hcs, Lib.hid (fun h => by omega), HN, HO'⟩, by simp [RowKit.intOf]; omega⟩
      · rw [if_neg hlm] at hx'
        subst hx'
        have d1 : decide ((i : Int) < m) = false := by simp; omega
        have d2 : decide (i < m) = false := by simpa using hlm
        obtain rfl : c = t := by omega
        clear hx hp HI HO HC HFin HLim w1 ht
        go_wp2_with fail
        exact ⟨⟨i + 1, c / 256, by omega, by go_num, by trivial, hcs, Lib.hid (fun h => by omega), HN, HO'⟩, by simp [RowKit.intOf]; omega⟩
    · obtain rfl : M = i := by omega
      have HB : Hid (Below w.heap.size w wr) := Lib.hid (HO.out.below (fun k hk h => by omega) (Nat.le_refl _))
      obtain ⟨h, hr, hh, he⟩ := HI.out
      obtain ⟨s1, s2⟩ := HFin.out h c hh he
      have HT := Lib.hid (trim_code _ (rowL h M) wr hr.bts (fun n hn => by
        obtain ⟨j, _, rfl⟩ := List.mem_map.1 hn
        exact hh j) (by rw [rowL_len]; omega))
      rw [rowL_len, rowL_val] at HT
      have HBt := Lib.hid (Bts.kind hr.bts (M := (w.heap.size ≤ ·)) fun b _ h => by omega)
      have hlen : (rowL h M).length = M := rowL_len _ _
      have HS2 := Lib.hid s2
      have HLn := Lib.hid hlen
      clear hr hh he HI HO HC HFin HLim s2 hlen
      by_cases hV : V < 0
      · have d1 : decide (c < 0) = true := by simpa using s1.2 hV
        have hE : Hid (r = 4 ∧ O = []) := Lib.hid (by rw [← HRr.out, ← HOo.out]; unfold setE setO; rw [if_pos hV, if_pos hV]; exact ⟨rfl, rfl⟩)
        clear s1 hV HT HBt HS2
        go_wp2_with fail
        go_ret2
        obtain ⟨rfl, rfl⟩ := hE.out
        exact ⟨_, rfl, bts_nil _ _, HB.out⟩
      · have d1 : decide (c < 0) = false := by simp; omega
        have e := HS2.out (by omega)
        rw [← e] at HT
        have hE : Hid (r = toldE (dig V.toNat) ∧ O = toldO (dig V.toNat)) := Lib.hid (by rw [← HRr.out, ← HOo.out]; unfold setE setO; rw [if_neg hV, if_neg hV]; exact ⟨rfl, rfl⟩)
        clear s1 hV HS2 e
        go_upto_region 14 with (go_at_call 38; refine HT.out.mono ?_; rintro e w2 ⟨a, k, c', hav, rfl, hk, htk, rfl⟩; injection hav with e1 e2 e3; subst e1 e3; clear e2)
        clear HT
        obtain ⟨D, hD⟩ : ∃ D, dig V.toNat = D := ⟨_, rfl⟩
        rw [hD] at htk hE
        have hkD : D.length = k := by rw [← htk, List.length_take, HLn.out]; omega
        have HBD : Hid (Bts (w.heap.size ≤ ·) wr (.slice (some ⟨w.heap.size, 0, none⟩) k M) D) := Lib.hid (by rw [← htk]; exact Bts.take HBt.out hk HLn.out.symm)
        unfold toldE toldO at hE
        rw [hkD] at hE
        clear htk hD HBt HLn hkD
        by_cases h4 : k ≤ 400
        · have d2 : decide ((400 : Int) < k) = false := by simp; omega
          have d3 : decide (400 < k) = false := by simpa using h4
          rw [if_pos h4, if_pos h4] at hE
          go_wp2_with fail
          go_ret2
          obtain ⟨rfl, rfl⟩ := hE.out
          exact ⟨_, rfl, HBD.out, HB.out⟩
        · have d2 : decide ((400 : Int) < k) = true := by simp; omega
          have d3 : decide (400 < k) = true := by simp; omega
          rw [if_neg h4, if_neg h4] at hE
          go_wp2_with fail
          go_ret2
          obtain ⟨rfl, rfl⟩ := hE.out
          exact ⟨_, rfl, bts_nil _ _, HB.out⟩
end Go.Proofs.YtbfacdfmanffdaaGreatDoor
