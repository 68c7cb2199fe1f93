/- What the method Free of package extent does. No condition but those that each statement names. -/
import Derived.Test.YtkjpemgoiobeeaaDoorEGet
namespace Go.Proofs.YtkjpemgoiobeeaaDoor
set_option maxRecDepth 1000000
open Go.ChangeShapes Go.WideShapes Go.ChangeAt Go.RowKit

/-- The rows that are left where all of xs were taken away. -/
def remOf (R : List Row) (xs : List Ext) : List Row := xs.foldl without R
theorem isX_remOf (y : Ext) : ∀ (xs : List Ext) (R : List Row), isX (remOf R xs) y = (isX R y && !decide (y ∈ xs))
  | [], R => by simp [remOf]
  | x :: xs, R => by
    show isX (remOf (without R x) xs) y = _
    rw [isX_remOf y xs, ← isX_rem]
    by_cases h : y = x
    · simp [h]
    · simp [h]
theorem remOf_snoc (R : List Row) (xs : List Ext) (k : Nat) (h : k < xs.length) : remOf R (xs.take (k + 1)) = without (remOf R (xs.take k)) xs[k] := by
  rw [List.take_succ_eq_append_getElem h]
  unfold remOf
  rw [List.foldl_append]
  rfl
theorem ok_at {R : List Row} {xs : List Ext} (h : okX R xs) (k : Nat) (hk : k < xs.length) : isX (remOf R (xs.take k)) xs[k] = true := by
  rw [isX_remOf, h.1 _ (List.getElem_mem hk), Bool.true_and, Bool.not_eq_true', decide_eq_false_iff_not]
  intro h2
  exact okX_bad hk (.inr h2) h

def FrPost (s : Sp) (n u : Nat) (R : List Row) (t : Int) (w : World) (e : Ending) (w' : World) : Prop :=
  e = .returned (.int .i64 t) ∧ SpaceAt w' s n u R ∧ Only s.F w w'

theorem free_bad {N : Nat → Prop} (s : Sp) (n u : Nat) (R : List Row) (v : Value) (xs : List Ext) (w : World) (h : SpaceAt w s n u R) (hv : Exts N w v xs) (hw : ∀ x ∈ xs, x.wf) (hl : xs.length ≤ 100000) (hok : ¬ okX R xs) :
    Calls Tryd.prog 18 #[.pointer (some ⟨s.sp, 0, none⟩), v] w (FrPost s n u R 4 w) := by
  have HC := Lib.hid (check_exts s n u R v xs 4 w h hv hw hl (fun h => absurd h hok) (fun _ => rfl))
  clear h hv hw hok
  go_enter Tryd.func18, Tryd.ntmps18
  go_wp2_with (go_at_call 31; refine HC.out.mono ?_; rintro e w1 ⟨rfl, s1, b1⟩)
  go_ret
  exact ⟨rfl, s1, Only.of_below b1⟩

def FrInv (s : Sp) (n u : Nat) (R : List Row) (w wr : World) : Prop := SpaceAt wr s n u R ∧ Only s.F w wr

set_option maxHeartbeats 2000000 in
theorem free_all {N : Nat → Prop} (s : Sp) (n u : Nat) (R : List Row) (v : Value) (xs : List Ext) (w : World) (h : SpaceAt w s n u R) (hv : Exts N w v xs) (hN : ∀ b, N b → ¬ s.F b) (hw : ∀ x ∈ xs, x.wf) (hl : xs.length ≤ 100000) (hok : okX R xs) :
    Calls Tryd.prog 18 #[.pointer (some ⟨s.sp, 0, none⟩), v] w (FrPost s n u (remOf R xs) 0 w) := by
  have HC := Lib.hid (check_exts s n u R v xs 0 w h hv hw hl (fun _ => rfl) (fun h => absurd hok h))
  have HV := Lib.hid hv
  have HN := Lib.hid hN
  have HOK := Lib.hid hok
  obtain ⟨a, c, rfl, hc, hcell⟩ := hv
  clear h hw hok hN hcell
  go_enter Tryd.func18, Tryd.ntmps18
  go_wp2_with fail
  refine HC.out.mono ?_
  rintro e w1 ⟨rfl, s1, b1⟩
  have S1 := Lib.hid s1
  have B1 : Hid (Only s.F w w1) := Only.of_below b1
  clear s1 b1 HC
  go_wp2_with fail
  go_loopw [16] (fun i wr => ∃ k : Nat, k ≤ xs.length ∧ i = .int .i64 k ∧ FrInv s n u (remOf R (xs.take k)) w wr) (fun i _ => xs.length - (intOf i).toNat)
  case atStart => exact ⟨0, Nat.zero_le _, rfl, S1.out, B1.out⟩
  case round =>
    obtain ⟨k, hk, rfl, hs, ho⟩ := hrel
    by_cases hlt : k < xs.length
    · obtain ⟨a', c', he, _, hcell⟩ := HV.out.only ho HN.out
      injection he with e1 e2 e3
      subst e1 e3
      obtain ⟨b, off, rfl, _, hcell⟩ := hcell.resolve_left (fun e => by rw [e] at hlt; simp at hlt)
      obtain ⟨h1, h2, h3⟩ := hcell k xs[k] (List.getElem?_eq_getElem hlt)
      have HE := Lib.hid (remOf_snoc R xs k hlt)
      obtain ⟨r, hr, he⟩ := isX_iff.1 (ok_at HOK.out k hlt)
      rw [← he] at h1 h2 h3 HE
      replace h1 : wr.cell? ⟨b, off + k * 3, none⟩ = some (.int .i64 r.1) := h1
      replace h2 : wr.cell? ⟨b, off + k * 3 + 1, none⟩ = some (.int .i64 (len r)) := h2
      replace h3 : wr.cell? ⟨b, off + k * 3 + 2, none⟩ = some (.int .i64 r.2.length) := h3
      have BW : Below wr.heap.size wr (wr.alloc (.cells #[.int .i64 r.1, .int .i64 (len r), .int .i64 r.2.length] 32)) := (Below.refl _ _).alloc (Nat.le_refl _) _
      have HRM := Lib.hid (remove_any s n u _ r _ (hs.fresh BW) hr)
      have HO : Hid (Only s.F w (wr.alloc (.cells #[.int .i64 r.1, .int .i64 (len r), .int .i64 r.2.length] 32))) := ho.alloc _
      obtain ⟨f, ys⟩ := r
      dsimp only at h1 h2 h3 HRM HO HE
      generalize len (f, ys) = q at h2 HRM HO
      clear hs ho hcell BW hr he
      go_wp2_with fail
      with_reducible refine HRM.out.mono ?_
      rintro e w2 ⟨rfl, s2, o2⟩
      have S2 := Lib.hid s2
      have O2 : Hid (Only s.F w w2) := HO.out.trans o2
      clear s2 o2
      go_wp2_with fail
      go_roundw
      case rel => exact ⟨k + 1, by omega, by go_num, by rw [HE.out]; exact S2.out, O2.out⟩
      case measure => simp [intOf]; omega
    · rw [List.take_of_length_le (by omega)] at hs
      have HSf := Lib.hid hs
      have HOf := Lib.hid ho
      clear hs ho
      go_wp2_with fail
      go_ret
      exact ⟨rfl, HSf.out, HOf.out⟩
end Go.Proofs.YtkjpemgoiobeeaaDoor
