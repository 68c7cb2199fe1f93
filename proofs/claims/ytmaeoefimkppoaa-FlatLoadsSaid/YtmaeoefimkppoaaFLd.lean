/- 'load' of package flat: an object like another one. -/
import Derived.Test.YtmaeoefimkppoaaFLp
import Derived.BigRegion
import Derived.Deep.RegionHeld3
import Derived.Deep.DeepCutAuto
import Derived.Deep.CutRange
namespace Go.Proofs.Ytmaeoefimkppoaa.Fl
set_option maxRecDepth 1000000
open Go.ChangeShapes Go.WideShapes Go.ChangeAt Go.RowKit
open Go.Proofs.Ytmaeoefimkppoaa.Wd

theorem words_at {w : World} {c k : Int} {a1 : Option Addr} {n c1 i : Nat} {bv : Value} {x : Ob} (h : ObjAt w (.agg #[.int .i64 c, .int .i64 k, .slice a1 n c1, bv]) x) (hi : i < x.w.length) :
    ∃ b off, a1 = some ⟨b, off, none⟩ ∧ w.cell? ⟨b, off + i, none⟩ = some (.int .i64 (x.w.getD i 0)) := by
  obtain ⟨wv, bv', he, ⟨⟨a, c', e1, hc⟩, _⟩, _⟩ := h
  simp only [Value.agg.injEq, Array.mk.injEq, List.cons.injEq, and_true] at he
  obtain ⟨_, _, e2, _⟩ := he
  rw [e1] at e2
  injection e2 with e3 e4 e5
  rcases hc with hc | ⟨b, off, rfl, hc⟩
  · rw [hc] at hi; cases hi
  · exact ⟨b, off, e3, hc i hi⟩
theorem bytes_at {w : World} {c k : Int} {a2 : Option Addr} {n c2 i : Nat} {wv : Value} {x : Ob} (h : ObjAt w (.agg #[.int .i64 c, .int .i64 k, wv, .slice a2 n c2]) x) (hi : i < x.b.length) :
    ∃ b off, a2 = some ⟨b, off, none⟩ ∧ w.cell? ⟨b, off + i, none⟩ = some (.int .u8 (x.b.getD i 0)) := by
  obtain ⟨wv', bv', he, _, ⟨⟨a, c', e1, hc⟩, _⟩, _⟩ := h
  simp only [Value.agg.injEq, Array.mk.injEq, List.cons.injEq, and_true] at he
  obtain ⟨_, _, _, e2⟩ := he
  rw [e1] at e2
  injection e2 with e3 e4 e5
  rcases hc with hc | ⟨b, off, rfl, hc⟩
  · rw [hc] at hi; cases hi
  · exact ⟨b, off, e3, hc i hi⟩
def BoxC (p : Nat) (x y z u : Value) (w : World) : Prop := w.cell? ⟨p, 0, none⟩ = some x ∧ w.cell? ⟨p, 1, none⟩ = some y ∧ w.cell? ⟨p, 2, none⟩ = some z ∧ w.cell? ⟨p, 3, none⟩ = some u
def LoadPost (K : Nat → Prop) (m : Nat) (E : Mem) (x : Ob) (w : World) (e : Ending) (w' : World) : Prop := e = .returned (.int .i64 0) ∧ MemB K w' m (E ++ [some x]) ∧ Keeps K w w'
theorem ahead_new (m : Nat) (w : World) : (nilAhead 250 25 (.pointer (some ⟨m, 0, none⟩)) "New").run Try.prog w = .ok (some false) w := by kernel_rfl
set_option maxHeartbeats 2000000 in
theorem load_one {w : World} {K : Nat → Prop} {m : Nat} {E : Mem} (h : MemB K w m E) (hfew : E.length < 999999) (x : Ob) (a1 : Option Addr) (c1 : Nat) (a2 : Option Addr) (c2 : Nat) (hx : okO x = true)
    (HO : ∀ w', Keeps K w w' → ObjAt w' (.agg #[.int .i64 x.c, .int .i64 x.k, .slice a1 x.w.length c1, .slice a2 x.b.length c2]) x) :
    Calls Try.prog 56 #[ifM m, .agg #[.int .i64 x.c, .int .i64 x.k, .slice a1 x.w.length c1, .slice a2 x.b.length c2]] w (LoadPost K m E x w) := by
  obtain ⟨_, _, e0, hw0, hb0, hc64, hk64⟩ := HO w (Keeps.refl _ _)
  have hy : ByL x.b := hb0.2.1
  obtain ⟨K1, hK1⟩ : ∃ K1 : Nat → Prop, K1 = fun g => K g ∨ g = w.heap.size := ⟨_, rfl⟩
  have M1 : Hid (MemB K1 (w.alloc (.cells #[.int .i64 x.c, .int .i64 x.k, .slice a1 x.w.length c1, .slice a2 x.b.length c2] 33)) m E) := Lib.hid (by
    rw [hK1]
    exact h.keep (below_new _ _) fun g hg => hg.imp id fun e => ⟨Nat.le_of_eq e.symm, by simp [e]⟩)
  have B0 : Hid (Keeps K w (w.alloc (.cells #[.int .i64 x.c, .int .i64 x.k, .slice a1 x.w.length c1, .slice a2 x.b.length c2] 33))) := Lib.hid (Keeps.of_below (below_new _ _))
  have HI : Hid (∀ g, K g → K1 g) := Lib.hid fun g hg => by rw [hK1]; exact .inl hg
  have HP : Hid (K1 w.heap.size) := Lib.hid (by rw [hK1]; exact .inr rfl)
  have hbx := box_new w (.int .i64 x.c) (.int .i64 x.k) (.slice a1 x.w.length c1) (.slice a2 x.b.length c2)
  have HX := Lib.hid hbx
  obtain ⟨⟨q0, q1, q2, q3⟩, _, hlt⟩ := hbx
  have hsl := okZ_short (.inr ⟨hx, hy⟩)
  obtain ⟨n1, n2, n3⟩ := new_part (E := E) hx
  have HS := Lib.hid hx
  have HY := Lib.hid hy
  have HOO := Lib.hid HO
  clear h hK1 e0 hw0 hb0 hx hy HO
  go_enter Try.func56, Try.ntmps56
  go_wp2_with fail
  generalize w.alloc (.cells #[.int .i64 x.c, .int .i64 x.k, .slice a1 x.w.length c1, .slice a2 x.b.length c2] 33) = w1 at *
  have HSz : Hid (∀ w', Below w1.heap.size w1 w' → Calls Try.prog 50 #[.agg #[.int .i64 x.c, .int .i64 x.k, .slice a1 x.w.length c1, .slice a2 x.b.length c2]] w' fun e w'' => e = .returned (.int .i64 (sizeO x : Nat)) ∧ Below w'.heap.size w' w'') := Lib.hid fun w' hb => size_any _ _ _ (HOO.out _ (B0.out.trans (Keeps.of_below hb)))
  have HNw : Hid (∀ w', Below w1.heap.size w1 w' → Calls Try.prog 30 #[.pointer (some ⟨m, 0, none⟩), .int .i64 x.c, .int .i64 x.k, .int .i64 (sizeO x : Nat)] w' fun e w'' => e = .returned (.tuple #[.int .i64 (2 * ((E.length : Int) + 1)), .int .i64 0]) ∧ Hid (MemB K1 w'' m (E ++ [some (partW x 0)])) ∧ Hid (Keeps K1 w' w'')) := Lib.hid fun w' hb => (new_any (M1.out.fresh hb) (by omega) x.c x.k (sizeO x) hc64 hk64).mono fun e w'' ⟨he, hm, hk⟩ => by
    rw [n1] at hm
    rw [n2, n3] at he
    exact ⟨he, hm, hk⟩
  have HKC : Hid (∀ w', Keeps K1 w1 w' → w'.cell? ⟨w.heap.size, 0, none⟩ = some (.int .i64 x.c) ∧ w'.cell? ⟨w.heap.size, 1, none⟩ = some (.int .i64 x.k) ∧ w'.cell? ⟨w.heap.size, 2, none⟩ = some (.slice a1 x.w.length c1) ∧ w'.cell? ⟨w.heap.size, 3, none⟩ = some (.slice a2 x.b.length c2)) := Lib.hid fun w' k => ⟨(k.cell (p := ⟨w.heap.size, 0, none⟩) HP.out hlt).trans q0, (k.cell (p := ⟨w.heap.size, 1, none⟩) HP.out hlt).trans q1, (k.cell (p := ⟨w.heap.size, 2, none⟩) HP.out hlt).trans q2, (k.cell (p := ⟨w.heap.size, 3, none⟩) HP.out hlt).trans q3⟩
  clear n1 n2 n3 hc64 hk64 hlt
  generalize (sizeO x : Nat) = sz at *
  go_cut [5, 6] from 13 to 26 (fun s5 s6 wx => s5 = .int .i64 (2 * ((E.length : Int) + 1)) ∧ s6 = .int .i64 0 ∧ Hid (MemB K1 wx m (E ++ [some (partW x 0)])) ∧ Hid (Keeps K1 w1 wx))
  case first =>
    have hna := ahead_new m
    go_region_held3 (fun w' => w'.cell? ⟨w.heap.size, 0, none⟩ = some (.int .i64 x.c) ∧ w'.cell? ⟨w.heap.size, 1, none⟩ = some (.int .i64 x.k) ∧ w'.cell? ⟨w.heap.size, 2, none⟩ = some (.slice a1 x.w.length c1) ∧ w'.cell? ⟨w.heap.size, 3, none⟩ = some (.slice a2 x.b.length c2)) (first | go_keep | (exact CK2.out) | (exact CK3.out)) (first | (go_at_call 50; refine (HSz.out _ (below_drewN _ _ _)).mono ?_; rintro e w2 ⟨rfl, hb2⟩; have KB2 : Hid (Below w1.heap.size w1 w2) := Lib.hid ((below_drewN _ _ _).trans hb2); have CK2 := Lib.hid (HKC.out _ (Keeps.of_below KB2.out))) | (go_at_call 30; refine (HNw.out _ KB2.out).mono ?_; rintro e w3 ⟨rfl, M3, K3⟩; have KK3 : Hid (Keeps K1 w1 w3) := Lib.hid ((Keeps.of_below (K := K1) KB2.out).trans K3.out); have CK3 := Lib.hid (HKC.out _ KK3.out)))
    all_goals go_wp2
    all_goals go_meet
    all_goals exact ⟨rfl, rfl, M3, KK3⟩
  case rest =>
  obtain ⟨rfl, rfl, M2, K2⟩ := hcut
  clear HNw HSz q0 q1 q2 q3
  obtain ⟨q0, q1, q2, q3⟩ := HKC.out _ K2.out
  have HL : Hid (E.length < 999999) := Lib.hid hfew
  obtain ⟨id, hid⟩ : ∃ i : Nat, 2 * ((E.length : Int) + 1) = i := ⟨2 * (E.length + 1), by omega⟩
  have HID := Lib.hid hid
  rw [hid]
  clear hid
  obtain ⟨nw, hnw⟩ : ∃ n, x.w.length = n := ⟨_, rfl⟩
  obtain ⟨nb, hnb⟩ : ∃ n, x.b.length = n := ⟨_, rfl⟩
  have HNW := Lib.hid hnw
  have HNB := Lib.hid hnb
  rw [hnw] at hsl HOO HKC q2 ⊢
  rw [hnb] at hsl HOO HKC q3 ⊢
  clear hnw hnb
  have HF : Hid (∀ wr, MemB K1 wr m (E ++ [some x]) → Keeps K1 w1 wr → LoadPost K m E x w (.returned (.int .i64 0)) wr) := Lib.hid fun wr hm hk => ⟨rfl, hm.keep (Below.refl _ _) fun g hg => .inl (HI.out g hg), B0.out.trans (hk.mono HI.out)⟩
  have HSet : Hid (∀ w' (i : Nat), i < nw → MemB K1 w' m (E ++ [some (partW x i)]) → In64 (x.w.getD i 0) → Calls Try.prog 32 #[.pointer (some ⟨m, 0, none⟩), .int .i64 id, .int .i64 i, .int .i64 (x.w.getD i 0)] w' fun e w'' => e = .returned (.int .i64 0) ∧ Hid (MemB K1 w'' m (E ++ [some (partW x (i + 1))])) ∧ Hid (Keeps K1 w' w'')) := Lib.hid fun w' i hi hm hv => by
    obtain ⟨s1, s2⟩ := set_part HS.out (by have := HL.out; omega) (E := E) (i := i) (by rw [HNW.out]; exact hi)
    have hid64 : In64 (2 * ((E.length : Int) + 1)) := by have := HL.out; exact ⟨by omega, by omega⟩
    have h := set_any hm (2 * ((E.length : Int) + 1)) i (x.w.getD i 0) hid64 hv
    rw [s1, s2, HID.out] at h
    exact h.mono fun e w'' ⟨he, hm, hk⟩ => ⟨he, hm, hk⟩
  have HSetB : Hid (∀ w' (i : Nat), i < nb → MemB K1 w' m (E ++ [some (partB x i)]) → Calls Try.prog 34 #[.pointer (some ⟨m, 0, none⟩), .int .i64 id, .int .i64 i, .int .i64 (x.b.getD i 0)] w' fun e w'' => e = .returned (.int .i64 0) ∧ Hid (MemB K1 w'' m (E ++ [some (partB x (i + 1))])) ∧ Hid (Keeps K1 w' w'')) := Lib.hid fun w' i hi hm => by
    obtain ⟨s1, s2⟩ := setb_part HS.out HY.out (by have := HL.out; omega) (E := E) (i := i) (by rw [HNB.out]; exact hi)
    have hid64 : In64 (2 * ((E.length : Int) + 1)) := by have := HL.out; exact ⟨by omega, by omega⟩
    have hin : x.b.getD i 0 ∈ x.b := by
      simp only [List.getD, List.getElem?_eq_getElem (show i < x.b.length by rw [HNB.out]; exact hi), Option.getD_some]
      exact List.getElem_mem _
    have hv := HY.out _ hin
    have h := setb_any hm (2 * ((E.length : Int) + 1)) i (x.b.getD i 0) hid64 ⟨by omega, by omega⟩
    rw [s1, s2, HID.out] at h
    exact h.mono fun e w'' ⟨he, hm, hk⟩ => ⟨he, hm, hk⟩
  have HWA : Hid (∀ w', Keeps K1 w1 w' → ∀ i, i < nw → (∃ b off, a1 = some ⟨b, off, none⟩ ∧ w'.cell? ⟨b, off + i, none⟩ = some (.int .i64 (x.w.getD i 0))) ∧ In64 (x.w.getD i 0)) := Lib.hid fun w' k i hi => by
    have ho := HOO.out w' (B0.out.trans (k.mono HI.out))
    refine ⟨words_at ho (by rw [HNW.out]; exact hi), ?_⟩
    obtain ⟨_, _, _, ⟨_, h64, _⟩, _⟩ := ho
    refine h64 _ ?_
    simp only [List.getD, List.getElem?_eq_getElem (show i < x.w.length by rw [HNW.out]; exact hi), Option.getD_some]
    exact List.getElem_mem _
  have HBA : Hid (∀ w', Keeps K1 w1 w' → ∀ i, i < nb → (∃ b off, a2 = some ⟨b, off, none⟩ ∧ w'.cell? ⟨b, off + i, none⟩ = some (.int .u8 (x.b.getD i 0))) ∧ 0 ≤ x.b.getD i 0 ∧ x.b.getD i 0 ≤ 255) := Lib.hid fun w' k i hi => by
    refine ⟨bytes_at (HOO.out w' (B0.out.trans (k.mono HI.out))) (by rw [HNB.out]; exact hi), HY.out _ ?_⟩
    simp only [List.getD, List.getElem?_eq_getElem (show i < x.b.length by rw [HNB.out]; exact hi), Option.getD_some]
    exact List.getElem_mem _
  have HMid : Hid (partW x nw = partB x 0 ∧ partB x nb = x) := Lib.hid ⟨by rw [← HNW.out]; exact part_mid x, by rw [← HNB.out]; exact part_end x⟩
  clear HID HL HNW HNB HS HY HOO HI HP HX M1 B0 hfew
  go_wp2
  go_loopw [33] (fun s wr => ∃ i : Nat, i ≤ nw ∧ s = .int .i64 i ∧ MemB K1 wr m (E ++ [some (partW x i)]) ∧ Keeps K1 w1 wr) (fun s _ => nw - (RowKit.intOf s).toNat)
  case atStart => exact ⟨0, Nat.zero_le _, rfl, M2.out, K2.out⟩
  case round =>
    obtain ⟨i, hi, rfl, hm, hk⟩ := hrel
    have M3 := Lib.hid hm
    have K3 := Lib.hid hk
    clear hm hk
    by_cases hlt : i < nw
    · obtain ⟨⟨b, off, rfl, hcell⟩, h64⟩ := HWA.out _ K3.out i hlt
      have d1 : decide ((i : Int) < nw) = true := by simpa using hlt
      have d2 : decide (i < nw) = true := by simpa using hlt
      have hw2 : IntKind.i64.wrap ((i : Int) + 1) = (i : Int) + 1 := by rw [IntKind.wrap_i64]; omega
      have HC := Lib.hid (HSet.out _ i hlt M3.out h64)
      clear h64
      generalize x.w.getD i 0 = y at *
      go_wp2_with (go_at_call 32; refine HC.out.mono ?_; rintro e w4 ⟨rfl, M4, K4⟩)
      exact ⟨⟨i + 1, by omega, by go_num, M4.out, K3.out.trans K4.out⟩, by simp [RowKit.intOf]; omega⟩
    · obtain rfl : nw = i := by omega
      have d1 : decide ((nw : Int) < nw) = false := by simp
      have d2 : decide (nw < nw) = false := by simp
      clear q0 q1 q2 q3
      obtain ⟨q0, q1, q2, q3⟩ := HKC.out _ K3.out
      go_wp2
      go_loopw [50] (fun s wr => ∃ i : Nat, i ≤ nb ∧ s = .int .i64 i ∧ MemB K1 wr m (E ++ [some (partB x i)]) ∧ Keeps K1 w1 wr) (fun s _ => nb - (RowKit.intOf s).toNat)
      case atStart => exact ⟨0, Nat.zero_le _, rfl, by rw [← HMid.out.1]; exact M3.out, K3.out⟩
      case round =>
        obtain ⟨i, hi, rfl, hm, hk⟩ := hrel
        have M5 := Lib.hid hm
        have K5 := Lib.hid hk
        clear hm hk
        by_cases hlt : i < nb
        · obtain ⟨⟨b, off, rfl, hcell⟩, h0, h255⟩ := HBA.out _ K5.out i hlt
          have d1 : decide ((i : Int) < nb) = true := by simpa using hlt
          have d2 : decide (i < nb) = true := by simpa using hlt
          have hw2 : IntKind.i64.wrap ((i : Int) + 1) = (i : Int) + 1 := by rw [IntKind.wrap_i64]; omega
          have HC := Lib.hid (HSetB.out _ i hlt M5.out)
          generalize x.b.getD i 0 = y at *
          have hw3 : IntKind.i64.wrap y = y := by rw [IntKind.wrap_i64]; omega
          clear h0 h255
          go_wp2_with (go_at_call 34; refine HC.out.mono ?_; rintro e w4 ⟨rfl, M4, K4⟩)
          exact ⟨⟨i + 1, by omega, by go_num, M4.out, K5.out.trans K4.out⟩, by simp [RowKit.intOf]; omega⟩
        · obtain rfl : nb = i := by omega
          have d1 : decide ((nb : Int) < nb) = false := by simp
          have d2 : decide (nb < nb) = false := by simp
          rw [HMid.out.2] at M5
          go_wp2
          go_ret
          exact HF.out _ M5.out K5.out
end Go.Proofs.Ytmaeoefimkppoaa.Fl
