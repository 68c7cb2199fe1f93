/- The walk of the law WideWords: it returns true for every object. -/
import Derived.Test.YtbkojjbigilclaaLawE
import Derived.IntWalk
namespace Go.Proofs.Ytbkojjbigilclaa
open Go.ChangeShapes Go.WideShapes Go.ChangeAt Go.RowKit
set_option maxRecDepth 1000000

theorem ObjAt.rows {w : World} {x y : Int} {wv bv : Value} {o : Ob} (h : ObjAt w (.agg #[.int .i64 x, .int .i64 y, wv, bv]) o) : RowI w wv o.w ∧ RowB w bv o.b := by
  obtain ⟨wv', bv', he, h1, h2, _⟩ := h
  simp only [Value.agg.injEq, Array.mk.injEq, List.cons.injEq, and_true] at he
  obtain ⟨_, _, rfl, rfl⟩ := he
  exact ⟨h1, h2⟩
/-- Encode's answer, whatever it is. -/
def EncAny (w : World) (e : Ending) (w' : World) : Prop := ∃ v t, e = .returned (.tuple #[v, .int .i64 t]) ∧ Below w.heap.size w w'
theorem encode_any (v : Value) (o : Ob) (w : World) (h : ObjAt w v o) : Calls Try.prog 13 #[v] w (EncAny w) := by
  cases hok : okO o with
  | true => exact (encode_yes v o w h hok).mono fun _ _ ⟨v, he, _, hb⟩ => ⟨v, 0, he, hb⟩
  | false => exact (encode_not v o w h hok).mono fun _ _ ⟨he, hb⟩ => ⟨_, _, he, hb⟩

set_option maxHeartbeats 2000000 in
theorem words_long (w : World) (c k : Int) (l b : List Int) (a1 a2 : Option Addr) (c1 c2 : Nat) (hb0 : ObjAt w (.agg #[.int .i64 c, .int .i64 k, .slice a1 l.length c1, .slice a2 b.length c2]) ⟨c, k, l, b⟩) (h60 : 60 < l.length) :
    Calls Try.prog 10 #[.agg #[.int .i64 c, .int .i64 k, .slice a1 l.length c1, .slice a2 b.length c2]] w fun e w' => e = .returned (.bool true) ∧ Below w.heap.size w w' := by
  have HE := Lib.hid (fun (w' : World) (h : Below w.heap.size w w') => encode_any _ _ w' (hb0.kept h))
  have HA := Lib.hid (Seen.start w c k (.slice a1 l.length c1) (.slice a2 b.length c2))
  have h60' : (60 : Int) < l.length := by omega
  clear hb0
  go_enter Try.func10, Try.ntmps10
  go_wp2_with fail
  refine (HE.out _ HA.out.2.2.2.2.out).mono ?_
  rintro e w1 ⟨v1, t1, rfl, hb1⟩
  obtain ⟨b0, b1, b2, b3, b4⟩ := HA.out.kept hb1
  clear hb1
  go_wp2_with fail
  refine (known_true _).mono ?_
  rintro e w2 ⟨rfl, hb2⟩
  have B2 := Lib.hid (b4.out.trans (hb2.mono b4.out.size))
  clear hb2
  go_wp2
  go_ret
  exact ⟨rfl, B2.out⟩

set_option maxHeartbeats 2000000 in
theorem words_bad (w : World) (c k : Int) (l b : List Int) (a1 a2 : Option Addr) (c1 c2 : Nat) (hb0 : ObjAt w (.agg #[.int .i64 c, .int .i64 k, .slice a1 l.length c1, .slice a2 b.length c2]) ⟨c, k, l, b⟩) (h60 : ¬ 60 < l.length) (hok : okO ⟨c, k, l, b⟩ = false) :
    Calls Try.prog 10 #[.agg #[.int .i64 c, .int .i64 k, .slice a1 l.length c1, .slice a2 b.length c2]] w fun e w' => e = .returned (.bool true) ∧ Below w.heap.size w w' := by
  have HE := Lib.hid (fun (w' : World) (h : Below w.heap.size w w') => encode_not _ _ w' (hb0.kept h) hok)
  have HA := Lib.hid (Seen.start w c k (.slice a1 l.length c1) (.slice a2 b.length c2))
  have h60' : ¬ (60 : Int) < l.length := by omega
  clear hb0 hok
  go_enter Try.func10, Try.ntmps10
  go_wp2_with fail
  refine (HE.out _ HA.out.2.2.2.2.out).mono ?_
  rintro e w1 ⟨rfl, hb1⟩
  obtain ⟨b0, b1, b2, b3, b4⟩ := HA.out.kept hb1
  clear hb1
  go_wp2_with fail
  refine (known_true _).mono ?_
  rintro e w2 ⟨rfl, hb2⟩
  have B2 := Lib.hid (b4.out.trans (hb2.mono b4.out.size))
  clear hb2
  go_wp2
  go_ret
  exact ⟨rfl, B2.out⟩

set_option maxHeartbeats 2000000 in
theorem words_kind (w : World) (c k : Int) (l b : List Int) (a1 a2 : Option Addr) (c1 c2 : Nat) (hb0 : ObjAt w (.agg #[.int .i64 c, .int .i64 k, .slice a1 l.length c1, .slice a2 b.length c2]) ⟨c, k, l, b⟩) (h60 : ¬ 60 < l.length) (hok : okO ⟨c, k, l, b⟩ = true) (hk : k ≠ 1) :
    Calls Try.prog 10 #[.agg #[.int .i64 c, .int .i64 k, .slice a1 l.length c1, .slice a2 b.length c2]] w fun e w' => e = .returned (.bool true) ∧ Below w.heap.size w w' := by
  have HE := Lib.hid (fun (w' : World) (h : Below w.heap.size w w') => encode_yes _ _ w' (hb0.kept h) hok)
  have HA := Lib.hid (Seen.start w c k (.slice a1 l.length c1) (.slice a2 b.length c2))
  have h60' : ¬ (60 : Int) < l.length := by omega
  have hk' : (k != 1) = true := by simpa using hk
  clear hb0 hok hk
  go_enter Try.func10, Try.ntmps10
  go_wp2_with fail
  refine (HE.out _ HA.out.2.2.2.2.out).mono ?_
  rintro e w1 ⟨v1, rfl, _, hb1⟩
  obtain ⟨b0, b1, b2, b3, b4⟩ := HA.out.kept hb1
  clear hb1
  go_wp2_with fail
  refine (known_true _).mono ?_
  rintro e w2 ⟨rfl, hb2⟩
  have B2 := Lib.hid (b4.out.trans (hb2.mono b4.out.size))
  clear hb2
  go_wp2
  go_ret
  exact ⟨rfl, B2.out⟩

set_option maxHeartbeats 4000000 in
theorem words_all (w : World) (c : Int) (l b : List Int) (a1 a2 : Option Addr) (c1 c2 : Nat) (hb0 : ObjAt w (.agg #[.int .i64 c, .int .i64 1, .slice a1 l.length c1, .slice a2 b.length c2]) ⟨c, 1, l, b⟩) (h60 : ¬ 60 < l.length) (hok : okO ⟨c, 1, l, b⟩ = true) :
    Calls Try.prog 10 #[.agg #[.int .i64 c, .int .i64 1, .slice a1 l.length c1, .slice a2 b.length c2]] w fun e w' => e = .returned (.bool true) ∧ Below w.heap.size w w' := by
  have HE := Lib.hid (fun (w' : World) (h : Below w.heap.size w w') => encode_yes _ _ w' (hb0.kept h) hok)
  have HA := Lib.hid (Seen.start w c 1 (.slice a1 l.length c1) (.slice a2 b.length c2))
  have HD := Lib.hid (dec_enc hok)
  have HL := Lib.hid (show (encO ⟨c, 1, l, b⟩).length = 12 + 4 * l.length by rw [enc_len]; rfl)
  have HO := Lib.hid hb0
  have h60' : ¬ (60 : Int) < l.length := by omega
  obtain ⟨hI, ⟨_, hyb, _⟩⟩ := hb0.rows
  have HY := Lib.hid (encO_byL (o := ⟨c, 1, l, b⟩) hyb)
  have HI := Lib.hid hI.1
  clear hb0 hI hyb hok
  generalize encO ⟨c, 1, l, b⟩ = xs at *
  go_enter Try.func10, Try.ntmps10
  go_wp2_with fail
  refine (HE.out _ HA.out.2.2.2.2.out).mono ?_
  rintro e w1 ⟨v1, rfl, ho1, hb1⟩
  have R1 := Lib.hid (RowB.own ho1 HY.out)
  have S1 := Lib.hid (HA.out.kept hb1)
  obtain ⟨b0, b1, b2, b3, b4⟩ := S1.out
  clear hb1 ho1
  have HW : Hid (∀ (w' : World) (j : Nat), j < l.length → Below w1.heap.size w1 w' → Calls Try.prog 26 #[v1, .int .i64 j] w' (WordPost (l.getD j 0) 0 w')) := fun w' j hj hb => by
    have := word_at v1 xs j w' (R1.out.kept hb) (by have := HL.out; omega) HD.out.1 (by rw [HD.out.2]) (by rw [HD.out.2]; exact hj)
    rw [HD.out.2] at this; exact this
  have HX : Hid (∀ (w' : World) (j : Int), ¬ (0 ≤ j ∧ j < l.length) → Below w1.heap.size w1 w' → Calls Try.prog 26 #[v1, .int .i64 j] w' (WordPost 0 4 w')) := fun w' j hj hb => word_none v1 xs j w' (R1.out.kept hb) (by have := HL.out; omega) HD.out.1 (by rw [HD.out.2]) (by rw [HD.out.2]; exact hj)
  obtain ⟨va, vc, hv1⟩ : ∃ a c, v1 = .slice a xs.length c := by obtain ⟨_, _, a, c, h, _⟩ := R1.out; exact ⟨a, c, h⟩
  subst hv1
  rw [HL.out] at *
  go_wp2
  go_loopw [5] (fun i wr => ∃ j : Nat, j ≤ l.length ∧ i = .int .i64 j ∧ Hid (Below w1.heap.size w1 wr)) (fun i _ => l.length - (intOf i).toNat)
  case atStart => exact ⟨0, by omega, rfl, Lib.hid (Below.refl _ _)⟩
  case round =>
    obtain ⟨j, hj, rfl, hnx⟩ := hrel
    obtain ⟨d0, d1, d2, d3, d4⟩ := S1.out.kept hnx.out
    by_cases hlt : j < l.length
    · have hlt' : (j : Int) < l.length := by omega
      go_wp2_with fail
      refine (HW.out _ j hlt hnx.out).mono ?_
      rintro e w2 ⟨rfl, hb2⟩
      have N2 := Lib.hid (hnx.out.trans (hb2.mono hnx.out.size))
      obtain ⟨e0, e1, e2, e3, e4⟩ := S1.out.kept N2.out
      obtain ⟨bb, off, cc, hz, hc⟩ := (HI.out.kept e4.out).at_ hlt
      injection hz with q1 q2 q3
      subst q1
      clear q2 q3
      clear d0 d1 d2 d3 d4 hb2
      generalize l.getD j 0 = z at *
      go_wp2
      go_roundw
      case rel => exact ⟨j + 1, by omega, by go_num, N2⟩
      case measure => simp [intOf]; omega
    · have e : j = l.length := by omega
      subst e
      go_wp2_with fail
      refine (HX.out _ l.length (by omega) hnx.out).mono ?_
      rintro e w2 ⟨rfl, hb2⟩
      have N2 := Lib.hid (hnx.out.trans (hb2.mono hnx.out.size))
      clear hb2 d0 d1 d2 d3 d4
      go_wp2_with fail
      refine (HX.out _ (-1) (by omega) N2.out).mono ?_
      rintro e w3 ⟨rfl, hb3⟩
      have N3 := Lib.hid (N2.out.trans (hb3.mono N2.out.size))
      have S3 := Lib.hid (S1.out.kept N3.out)
      clear hb3
      have S4 := S3.out.kept (below_drewN _ _ 1)
      obtain ⟨f0, f1, f2, f3, f4⟩ := S3.out
      have b5 : Hid (Below w.heap.size w w3.drew) := S4.2.2.2.2
      have HZ : Hid (∀ w', Calls Try.prog 21 #[.agg #[.int .i64 c, .int .i64 1, .slice a1 l.length c1, .slice a2 b.length c2]] w' fun e w'' => e = .returned (.int .i64 l.length) ∧ Below w'.heap.size w' w'') := fun w' => size_form c 1 l b a1 a2 c1 c2 w'
      have HN : Hid (∀ w', Calls Try.prog 12 #[] w' fun e w'' => e = .returned (.bool true) ∧ Below w'.heap.size w' w'') := known_true
      have HK : Hid (∀ wa wb : World, Below wa.heap.size wa wb → (wa.cell? ⟨w.heap.size, 0, none⟩ = some (.int .i64 c) ∧ wa.cell? ⟨w.heap.size, 1, none⟩ = some (.int .i64 1) ∧ wa.cell? ⟨w.heap.size, 2, none⟩ = some (.slice a1 l.length c1) ∧ wa.cell? ⟨w.heap.size, 3, none⟩ = some (.slice a2 b.length c2) ∧ Hid (Below w.heap.size w wa)) → (wb.cell? ⟨w.heap.size, 0, none⟩ = some (.int .i64 c) ∧ wb.cell? ⟨w.heap.size, 1, none⟩ = some (.int .i64 1) ∧ wb.cell? ⟨w.heap.size, 2, none⟩ = some (.slice a1 l.length c1) ∧ wb.cell? ⟨w.heap.size, 3, none⟩ = some (.slice a2 b.length c2) ∧ Hid (Below w.heap.size w wb))) := fun wa wb hb h => Seen.kept h hb
      have q1 : IntKind.i64.wrap (4 * (l.length : Int)) = 4 * l.length := IntWalk.i64_in _ (by omega)
      have q2 : IntKind.i64.wrap (12 + 4 * (l.length : Int)) = 12 + 4 * l.length := IntWalk.i64_in _ (by omega)
      have q3 : (((12 + 4 * l.length : Nat) : Int) == 12 + 4 * (l.length : Int)) = true := by simp
      go_wp2
      go_region_held3 (fun w' => w'.cell? ⟨w.heap.size, 0, none⟩ = some (.int .i64 c) ∧ w'.cell? ⟨w.heap.size, 1, none⟩ = some (.int .i64 1) ∧ w'.cell? ⟨w.heap.size, 2, none⟩ = some (.slice a1 l.length c1) ∧ w'.cell? ⟨w.heap.size, 3, none⟩ = some (.slice a2 b.length c2) ∧ Hid (Below w.heap.size w w')) (first | (exact S4) | go_keep | (refine HK.out _ _ hb5 ?_; assumption) | (refine HK.out _ _ hb6 ?_; assumption)) (first | (go_at_call 21; refine (HZ.out _).mono ?_; rintro e w5 ⟨rfl, hb5⟩) | (go_at_call 12; refine (HN.out _).mono ?_; rintro e w6 ⟨rfl, hb6⟩))
      have B5 : Below w.heap.size w w5 := b5.out.trans (hb5.mono b5.out.size)
      have B6 := Lib.hid (B5.trans (hb6.mono B5.size))
      clear hb5 hb6 B5
      go_wp2
      go_ret
      exact ⟨rfl, B6.out⟩
theorem wideWords_walk (w : World) (v0 : Value) (x0 : Ob) (hb0 : ObjAt w v0 x0) (_ : x0.w.length ≤ maxLen ∧ x0.b.length ≤ maxLen) :
    Calls Try.prog 10 #[v0] w fun e w' => e = .returned (.bool true) ∧ Below w.heap.size w w' := by
  have HO := Lib.hid hb0
  obtain ⟨wv, bv, rfl, ⟨_, _, a1, c1, rfl, _⟩, ⟨_, hy, a2, c2, rfl, _⟩, _, _⟩ := hb0
  obtain ⟨c, k, l, b⟩ := x0
  simp only at *
  by_cases h60 : 60 < l.length
  · exact words_long w c k l b a1 a2 c1 c2 HO.out h60
  cases hok : okO ⟨c, k, l, b⟩ with
  | false => exact words_bad w c k l b a1 a2 c1 c2 HO.out h60 hok
  | true =>
    by_cases hk : k = 1
    · subst hk
      exact words_all w c l b a1 a2 c1 c2 HO.out h60 hok
    · exact words_kind w c k l b a1 a2 c1 c2 HO.out h60 hok hk
end Go.Proofs.Ytbkojjbigilclaa
