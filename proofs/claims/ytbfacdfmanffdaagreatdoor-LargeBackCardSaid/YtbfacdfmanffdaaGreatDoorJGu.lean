/- Package large's guess: how often one goes into another, by their leading bytes. -/
import Derived.Test.YtbfacdfmanffdaaGreatDoorJIn
import Derived.Deep.Cut
import Derived.Deep.CutRange
namespace Go.Proofs.YtbfacdfmanffdaaGreatDoor
set_option maxRecDepth 1000000
open Go.ChangeShapes Go.WideShapes Go.ChangeAt Go.RowKit

theorem Bts.drop {N : Nat → Prop} {w : World} {b off n c k : Nat} {xs : List Int} (h : Bts N w (.slice (some ⟨b, off, none⟩) n c) xs) (hk : k ≤ n) : Bts N w (.slice (some ⟨b, off + k, none⟩) (n - k) (c - k)) (xs.drop k) := by
  obtain ⟨a, c', he, hc, h⟩ := h
  injection he with e1 e2 e3
  subst e1 e3
  rw [List.length_map] at e2 hc
  refine ⟨_, c - k, by rw [List.length_map, List.length_drop, e2], by rw [List.length_map, List.length_drop]; omega, ?_⟩
  rcases h with h | ⟨b', off', hb, hN, h⟩
  · rw [List.map_eq_nil_iff] at h
    subst h
    left; simp
  · injection hb with hb
    injection hb with hb1 hb2
    subst hb1 hb2
    refine .inr ⟨b, off + k, rfl, hN, fun j u hu => ?_⟩
    rw [List.map_drop, List.getElem?_drop] at hu
    have := h (k + j) u hu
    rwa [← Nat.add_assoc] at this
set_option maxHeartbeats 8000000 in
theorem guess_code {N M : Nat → Prop} (v1 v2 : Value) (A B : List Int) (w : World) (h1 : Bts N w v1 A) (b1 : Bytes A) (l1 : A.length ≤ 100000) (h2 : Bts M w v2 B) (b2 : Bytes B) (l2 : B.length ≤ 100000) (rA : Bare A) (rB : Bare B) (hB : B ≠ []) (hle : val B ≤ val A) (hlt : val A < 256 * val B) :
    Calls Tryz.prog 63 #[v1, v2] w fun e w' => ∃ k : Int, e = .returned (.int .i64 k) ∧ 1 ≤ k ∧ k ≤ 255 ∧ k * val B ≤ val A ∧ Below w.heap.size w w' := by
  obtain ⟨x, y, hG⟩ := gs_any b1 b2 rA rB hB hle hlt
  have hB0 : 0 < B.length := List.length_pos_iff.2 hB
  obtain ⟨fr, hfr⟩ : ∃ fr, B.length - 6 = fr := ⟨_, rfl⟩
  rw [hfr] at hG
  obtain ⟨g1, g2, ia, ib, va, vb, hx0, hxs, hy0, hys, ht⟩ := hG
  have l3 := digs_more b1 (dig_val b2 rB).symm b2 hle
  obtain ⟨o1, f1, c1, rfl, hc1, _, _, _⟩ := bts_cells h1 (by omega)
  obtain ⟨o2, f2, c2, rfl, hc2, _, _, _⟩ := bts_cells h2 hB0
  have C1 := int_code _ (A.drop fr) w (Bts.drop (k := fr) h1 g1) (drop_bytes b1 fr) (by rw [List.length_drop]; omega)
  have C2 : ∀ w', Below w.heap.size w w' → Calls Tryz.prog 9 #[.slice (some ⟨o2, f2 + fr, none⟩) (B.length - fr) (c2 - fr)] w' (ValB (.tuple #[.int .i64 y, .bool true]) w') := fun w' hb => by
    have := int_code _ (B.drop fr) w' ((Bts.drop (k := fr) h2 g2).next hb) (drop_bytes b2 fr) (by rw [List.length_drop]; omega)
    rwa [vb, ib] at this
  rw [va, ia] at C1
  unfold ValB at C1 C2
  have HC1 := Lib.hid C1
  have HC2 := Lib.hid C2
  have HT := Lib.hid ht
  obtain ⟨n1, e1⟩ : ∃ k, A.length = k := ⟨_, rfl⟩
  obtain ⟨n2, e2⟩ : ∃ k, B.length = k := ⟨_, rfl⟩
  rw [e1] at g1 hc1 l1 l3 HC1 ⊢
  rw [e2] at g2 hc2 l2 l3 hfr hB0 HC2 ⊢
  obtain ⟨VA, hVA⟩ : ∃ V, val A = V := ⟨_, rfl⟩
  obtain ⟨VB, hVB⟩ : ∃ V, val B = V := ⟨_, rfl⟩
  rw [hVA, hVB] at HT ⊢
  have p7 : x < 72057594037927936 := hxs
  have p6 : y < 281474976710656 := hys
  clear C1 C2 ht h1 h2 b1 b2 rA rB hB hle hlt ia ib va vb e1 e2 hVA hVB hxs hys
  go_enter Tryz.func63, Tryz.ntmps63
  go_upto_region 1 with fail
  go_cut [5] from 10 to 13 (fun s5 wx => s5 = .int .i64 fr ∧ wx = w)
  case first =>
    by_cases h6 : 6 ≤ n2
    · have d1 : decide ((n2 : Int) - 6 < 0) = false := by rw [decide_eq_false_iff_not]; omega
      have hq : (n2 : Int) - 6 = (fr : Int) := by omega
      have hw : IntKind.i64.wrap ((n2 : Int) - 6) = (fr : Int) := by rw [IntKind.wrap_i64]; omega
      have d2 : decide ((fr : Int) < 0) = false := by rw [decide_eq_false_iff_not]; omega
      clear hfr HC1 HC2 HT
      go_wp2_with fail
      go_meet
      case rel => exact ⟨by trivial, rfl⟩
    · have d1 : decide ((n2 : Int) - 6 < 0) = true := by rw [decide_eq_true_iff]; omega
      obtain rfl : fr = 0 := by omega
      clear hfr HC1 HC2 HT
      go_wp2_with fail
      go_meet
      case rel => exact ⟨rfl, rfl⟩
  case rest =>
    obtain ⟨rfl, rfl⟩ := hcut
    have hfc1 : fr < c1 := by omega
    have hfc2 : fr < c2 := by omega
    go_upto_region 3 with (go_at_call 9; refine HC1.out.mono ?_; rintro e w2 ⟨rfl, hb2⟩; have K2 := Lib.hid hb2; clear hb2)
    go_upto_region 4 with (go_at_call 9; refine (HC2.out _ K2.out).mono ?_; rintro e w3 ⟨rfl, hb3⟩; have K3 := Lib.hid (K2.out.trans (hb3.mono K2.out.size)); clear hb3)
    clear HC1 HC2 K2
    by_cases hf : 0 < fr
    · have d0 : decide ((0 : Int) < fr) = true := by simp; omega
      have d9 : decide (0 < fr) = true := by simpa using hf
      have hw1 : IntKind.i64.wrap (y + 1) = y + 1 := by rw [IntKind.wrap_i64]; omega
      have hkk := HT.out
      rw [show (if 0 < fr then y + 1 else y) = y + 1 from if_pos hf] at hkk
      obtain ⟨q, hq⟩ : ∃ q, x / (y + 1) = q := ⟨_, rfl⟩
      have hq0 : 0 ≤ q := by rw [← hq]; exact Int.ediv_nonneg hx0 (by omega)
      have hq1 : q ≤ x := by rw [← hq]; exact Int.ediv_le_self _ hx0
      have htd : x.tdiv (y + 1) = q := by rw [← hq]; exact Int.tdiv_eq_ediv_of_nonneg hx0
      have hy3 : ((y + 1) == 0) = false := by rw [beq_eq_false_iff_ne]; omega
      rw [hq] at hkk
      clear hq HT
      by_cases h1q : q < 1
      · have d1 : decide (q < 1) = true := by simpa using h1q
        have hF := Lib.hid (hkk 1 (by rw [if_pos h1q]))
        obtain rfl : q = 0 := by omega
        clear hkk h1q
        go_wp2_with fail
        go_ret
        exact ⟨1, rfl, hF.out.1, hF.out.2.2, hF.out.2.1, K3.out⟩
      · have hF := Lib.hid (hkk q (by rw [if_neg h1q]))
        by_cases h2q : q = 1
        · subst h2q
          clear hkk h1q
          go_wp2_with fail
          go_ret
          exact ⟨1, rfl, hF.out.1, hF.out.2.2, hF.out.2.1, K3.out⟩
        · have d1 : decide (q < 1) = false := by rw [decide_eq_false_iff_not]; omega
          have d2 : decide (1 < q) = true := by rw [decide_eq_true_iff]; omega
          have d3 : decide (q ≤ 1) = false := by rw [decide_eq_false_iff_not]; omega
          have h3q : 1 < q := by omega
          clear hkk h1q h2q
          go_wp2_with fail
          go_ret
          exact ⟨q, rfl, hF.out.1, hF.out.2.2, hF.out.2.1, K3.out⟩
    · have d0 : decide ((0 : Int) < fr) = false := by simp; omega
      have d9 : decide (0 < fr) = false := by simpa using hf
      have hkk := HT.out
      rw [show (if 0 < fr then y + 1 else y) = y from if_neg hf] at hkk
      obtain ⟨q, hq⟩ : ∃ q, x / y = q := ⟨_, rfl⟩
      have hq0 : 0 ≤ q := by rw [← hq]; exact Int.ediv_nonneg hx0 (by omega)
      have hq1 : q ≤ x := by rw [← hq]; exact Int.ediv_le_self _ hx0
      have htd : x.tdiv y = q := by rw [← hq]; exact Int.tdiv_eq_ediv_of_nonneg hx0
      have hy3 : (y == 0) = false := by rw [beq_eq_false_iff_ne]; omega
      rw [hq] at hkk
      clear hq HT
      by_cases h1q : q < 1
      · have d1 : decide (q < 1) = true := by simpa using h1q
        have hF := Lib.hid (hkk 1 (by rw [if_pos h1q]))
        obtain rfl : q = 0 := by omega
        clear hkk h1q
        go_wp2_with fail
        go_ret
        exact ⟨1, rfl, hF.out.1, hF.out.2.2, hF.out.2.1, K3.out⟩
      · have hF := Lib.hid (hkk q (by rw [if_neg h1q]))
        by_cases h2q : q = 1
        · subst h2q
          clear hkk h1q
          go_wp2_with fail
          go_ret
          exact ⟨1, rfl, hF.out.1, hF.out.2.2, hF.out.2.1, K3.out⟩
        · have d1 : decide (q < 1) = false := by rw [decide_eq_false_iff_not]; omega
          have d2 : decide (1 < q) = true := by rw [decide_eq_true_iff]; omega
          have d3 : decide (q ≤ 1) = false := by rw [decide_eq_false_iff_not]; omega
          have h3q : 1 < q := by omega
          clear hkk h1q h2q
          go_wp2_with fail
          go_ret
          exact ⟨q, rfl, hF.out.1, hF.out.2.2, hF.out.2.1, K3.out⟩
end Go.Proofs.YtbfacdfmanffdaaGreatDoor
