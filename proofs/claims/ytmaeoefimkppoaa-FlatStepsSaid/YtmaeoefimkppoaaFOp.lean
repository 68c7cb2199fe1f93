/- What open of a memory returns. -/
import Derived.Test.YtmaeoefimkppoaaFFi
namespace Go.Proofs.Ytmaeoefimkppoaa.Fl
set_option maxRecDepth 1000000
open Go.ChangeShapes Go.WideShapes Go.ChangeAt Go.RowKit
open Go.Proofs.Ytmaeoefimkppoaa.Wd

def openV (L : List (Option En)) (o k i : Int) : Value := if opE (mapO En.o L) o k i = 0 then ((at_ L (namV o)).map En.val).getD zObj else zObj
def OpenPost (L : List (Option En)) (o k i : Int) (w : World) (e : Ending) (w' : World) : Prop := e = .returned (.tuple #[openV L o k i, .int .i64 (opE (mapO En.o L) o k i)]) ∧ Below w.heap.size w w'
theorem opE_none {L : List (Option En)} {o k i : Int} (h : at_ L (namV o) = none) : opE (mapO En.o L) o k i = 4 := by
  unfold opE; rw [at_map, h]; rfl
theorem opE_some {L : List (Option En)} {o k i : Int} {e : En} (h : at_ L (namV o) = some e) : opE (mapO En.o L) o k i = if e.o.k = k then (if 0 ≤ i ∧ i < (sizeO e.o : Nat) then 0 else 21) else 20 := by
  unfold opE; rw [at_map, h]; rfl
theorem below_new (w : World) (o : Obj) : Below w.heap.size w (w.alloc o) := (Below.refl _ _).alloc (Nat.le_refl _) _

section
variable {w : World} {K : Nat → Prop} {m : Nat} {r : Option Nat} {nv : Value} {L : List (Option En)}
set_option maxHeartbeats 400000 in
theorem open_none (h : MemR w K m r nv L) (o k i : Int) (ho : In64 o) (hn : at_ L (namV o) = none) :
    Calls Try.prog 60 #[.pointer (some ⟨m, 0, none⟩), .int .i64 o, .int .i64 k, .int .i64 i] w (OpenPost L o k i w) := by
  have HP : Hid (∀ w', Below w.heap.size w w' → OpenPost L o k i w (.returned (.tuple #[.agg #[.int .i64 0, .int .i64 0, .slice none 0 0, .slice none 0 0], .int .i64 4])) w') := fun w' hb => by
    unfold OpenPost openV
    rw [opE_none hn]
    exact ⟨rfl, hb⟩
  have HF : Hid (∀ w1, Below w.heap.size w w1 → Calls Try.prog 48 #[.pointer (some ⟨m, 0, none⟩), .int .i64 o] w1 fun e w2 => e = .returned (.tuple #[.int .i64 0, .int .i64 4]) ∧ Below w1.heap.size w1 w2) := fun w1 hb => (find_raw (h.fresh hb) o ho).mono fun e w2 ⟨he, hb⟩ => by
    unfold idF errF at he
    rw [isSome_map, hn] at he
    exact ⟨he, hb⟩
  clear h hn
  go_enter Try.func60, Try.ntmps60
  go_wp2_with (go_at_call 48; refine (HF.out _ (below_new w _)).mono ?_; rintro e w1 ⟨rfl, hb⟩; have B1 := Lib.hid ((box_new w _ _ _ _).next hb); have K1 := Lib.hid ((below_new w _).trans (hb.mono (by simp))); obtain ⟨⟨p0, p1, p2, p3⟩, pf, _⟩ := B1.out)
  refine bodyPost_ret (res_box2 rfl rfl (B1.out.put _ _ _ _)) rfl ?_
  exact HP.out _ (put_below K1.out (Nat.le_refl _))

set_option maxHeartbeats 1000000 in
theorem open_some (h : MemR w K m r nv L) (o k i : Int) (ho : In64 o) {e : En} (he : at_ L (namV o) = some e) :
    Calls Try.prog 60 #[.pointer (some ⟨m, 0, none⟩), .int .i64 o, .int .i64 k, .int .i64 i] w (OpenPost L o k i w) := by
  have hi : W64 (namV o) := w64_of (namV_in o).1 (namV_in o).2
  obtain ⟨a1, n1, c1, a2, n2, c2, hv⟩ := (h.rows _ e he).form
  have HL : Hid (∀ w1, Below w.heap.size w w1 → (Instr.lookup 73 (.map r) (.int .i64 (namV o)) false).run Try.prog w1 = .ok (.agg #[.int .i64 e.o.c, .int .i64 e.o.k, .slice a1 n1 c1, .slice a2 n2 c2]) w1 ∧ w1.cell? ⟨m, 1, none⟩ = some (.map r)) := fun w1 hb => by
    have h' := h.fresh hb
    have h2 := h'.mp.look1 (namV o) hi
    simp only [he, Option.map_some, Option.getD_some, hv] at h2
    exact ⟨h2, h'.c1⟩
  have HS : Hid (∀ w1, Below w.heap.size w w1 → Calls Try.prog 50 #[.agg #[.int .i64 e.o.c, .int .i64 e.o.k, .slice a1 n1 c1, .slice a2 n2 c2]] w1 fun en w2 => en = .returned (.int .i64 (sizeO e.o : Nat)) ∧ Below w1.heap.size w1 w2) := fun w1 hb => by
    have h' := ((h.fresh hb).rows _ e he).obj
    rw [hv] at h'
    exact size_any _ e.o w1 h'
  have HF : Hid (∀ w1, Below w.heap.size w w1 → Calls Try.prog 48 #[.pointer (some ⟨m, 0, none⟩), .int .i64 o] w1 fun e w2 => e = .returned (.tuple #[.int .i64 (namV o), .int .i64 0]) ∧ Below w1.heap.size w1 w2) := fun w1 hb => (find_raw (h.fresh hb) o ho).mono fun e' w2 ⟨he', hb⟩ => by
    unfold idF errF at he'
    rw [isSome_map, he] at he'
    exact ⟨he', hb⟩
  have HP : Hid (∀ t, (if e.o.k = k then (if 0 ≤ i ∧ i < (sizeO e.o : Nat) then 0 else 21) else 20) = t → ∀ w', Below w.heap.size w w' → OpenPost L o k i w (.returned (.tuple #[if t = 0 then .agg #[.int .i64 e.o.c, .int .i64 e.o.k, .slice a1 n1 c1, .slice a2 n2 c2] else zObj, .int .i64 t])) w') := fun t ht w' hb => by
    unfold OpenPost openV
    rw [opE_some he, he, Option.map_some, Option.getD_some, hv, ht]
    exact ⟨rfl, hb⟩
  have hin : In64 e.o.k := (ok_in (h.rows _ e he).ok).2.1
  clear h he hv hi
  generalize namV o = id at *
  generalize e.o.c = c at *
  generalize sizeO e.o = n at *
  generalize e.o.k = kk at *
  by_cases hk : kk = k
  · by_cases h0 : 0 ≤ i
    · have d0 : decide (i < 0) = false := by simpa using h0
      by_cases h1 : i < (n : Int)
      · have d1 : decide ((n : Int) ≤ i) = false := by simpa using h1
        have HP1 := Lib.hid (HP.out 0 (by rw [if_pos hk, if_pos ⟨h0, h1⟩]))
        clear HP h0 h1
        subst hk
        go_enter Try.func60, Try.ntmps60
        go_wp2_with (first | (go_at_call 48; refine (HF.out _ (below_new w _)).mono ?_; rintro e w1 ⟨rfl, hb⟩; have B1 := Lib.hid ((box_new w _ _ _ _).next hb); have K1 := Lib.hid ((below_new w _).trans (hb.mono (by simp))); obtain ⟨⟨p0, p1, p2, p3⟩, pf, _⟩ := B1.out; obtain ⟨l1, l2⟩ := HL.out _ K1.out) | (go_at_call 50; refine (HS.out _ (K1.out.trans ((below_new _ _).mono K1.out.size))).mono ?_; rintro e w2 ⟨rfl, hb2⟩; have B2 := Lib.hid ((box_new w1 _ _ _ _).next hb2); have C2 := Lib.hid ((B1.out.next (below_new w1 _)).next hb2); have K2 := Lib.hid (((K1.out.trans ((below_new _ _).mono K1.out.size))).trans (hb2.mono (Nat.le_trans K1.out.size (by simp)))); obtain ⟨⟨r0, r1, r2, r3⟩, rf, _⟩ := B2.out; obtain ⟨⟨s0, s1, s2, s3⟩, sf, _⟩ := C2.out))
        refine bodyPost_ret (res_box2 rfl rfl (C2.out.put _ _ _ _)) rfl ?_
        exact HP1.out _ (put_below K2.out (Nat.le_refl _))
      · have d1 : decide ((n : Int) ≤ i) = true := by simpa using h1
        have HP1 := Lib.hid (HP.out 21 (by rw [if_pos hk, if_neg (by omega)]))
        clear HP h0 h1
        subst hk
        go_enter Try.func60, Try.ntmps60
        go_wp2_with (first | (go_at_call 48; refine (HF.out _ (below_new w _)).mono ?_; rintro e w1 ⟨rfl, hb⟩; have B1 := Lib.hid ((box_new w _ _ _ _).next hb); have K1 := Lib.hid ((below_new w _).trans (hb.mono (by simp))); obtain ⟨⟨p0, p1, p2, p3⟩, pf, _⟩ := B1.out; obtain ⟨l1, l2⟩ := HL.out _ K1.out) | (go_at_call 50; refine (HS.out _ (K1.out.trans ((below_new _ _).mono K1.out.size))).mono ?_; rintro e w2 ⟨rfl, hb2⟩; have B2 := Lib.hid ((box_new w1 _ _ _ _).next hb2); have C2 := Lib.hid ((B1.out.next (below_new w1 _)).next hb2); have K2 := Lib.hid (((K1.out.trans ((below_new _ _).mono K1.out.size))).trans (hb2.mono (Nat.le_trans K1.out.size (by simp)))); obtain ⟨⟨r0, r1, r2, r3⟩, rf, _⟩ := B2.out; obtain ⟨⟨s0, s1, s2, s3⟩, sf, _⟩ := C2.out))
        refine bodyPost_ret (res_box2 rfl rfl (C2.out.put _ _ _ _)) rfl ?_
        exact HP1.out _ (put_below K2.out (Nat.le_refl _))
    · have d0 : decide (i < 0) = true := by simpa using h0
      have HP1 := Lib.hid (HP.out 21 (by rw [if_pos hk, if_neg (by omega)]))
      clear HP h0 HS
      subst hk
      go_enter Try.func60, Try.ntmps60
      go_wp2_with (go_at_call 48; refine (HF.out _ (below_new w _)).mono ?_; rintro e w1 ⟨rfl, hb⟩; have B1 := Lib.hid ((box_new w _ _ _ _).next hb); have K1 := Lib.hid ((below_new w _).trans (hb.mono (by simp))); obtain ⟨⟨p0, p1, p2, p3⟩, pf, _⟩ := B1.out; obtain ⟨l1, l2⟩ := HL.out _ K1.out)
      refine bodyPost_ret (res_box2 rfl rfl ((B1.out.put _ _ _ _).next (below_new _ _))) rfl ?_
      exact HP1.out _ ((put_below K1.out (Nat.le_refl _)).trans ((below_new _ _).mono (put_below K1.out (Nat.le_refl _)).size))
  · have d0 : (kk != k) = true := by simpa using hk
    have HP1 := Lib.hid (HP.out 20 (by rw [if_neg hk]))
    clear HP hk HS
    go_enter Try.func60, Try.ntmps60
    go_wp2_with (go_at_call 48; refine (HF.out _ (below_new w _)).mono ?_; rintro e w1 ⟨rfl, hb⟩; have B1 := Lib.hid ((box_new w _ _ _ _).next hb); have K1 := Lib.hid ((below_new w _).trans (hb.mono (by simp))); obtain ⟨⟨p0, p1, p2, p3⟩, pf, _⟩ := B1.out; obtain ⟨l1, l2⟩ := HL.out _ K1.out)
    refine bodyPost_ret (res_box2 rfl rfl ((B1.out.put _ _ _ _).next (below_new _ _))) rfl ?_
    exact HP1.out _ ((put_below K1.out (Nat.le_refl _)).trans ((below_new _ _).mono (put_below K1.out (Nat.le_refl _)).size))
theorem open_any (h : MemR w K m r nv L) (o k i : Int) (ho : In64 o) : Calls Try.prog 60 #[.pointer (some ⟨m, 0, none⟩), .int .i64 o, .int .i64 k, .int .i64 i] w (OpenPost L o k i w) := by
  cases he : at_ L (namV o) with
  | none => exact open_none h o k i ho he
  | some e => exact open_some h o k i ho he
end
end Go.Proofs.Ytmaeoefimkppoaa.Fl
