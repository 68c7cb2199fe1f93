/- What the function Runs of package bits returns: the runs of those that are taken, in new memory. No condition but those that each statement names. -/
import Derived.Test.YtdhodglbhfjfaaaDoorFirst
namespace Go.Proofs.YtdhodglbhfjfaaaDoor
open Go.RowKit

theorem Tab.below {B : Nat} {w w' : World} (h : Tab w) (b : Below B w w') (hB : 0 < B) : Tab w' := fun j hj => (b.cell (p := ⟨0, j, none⟩) hB).trans (h j hj)
theorem Tab.but {x : Nat} {w w' : World} (h : Tab w) (b : But x w w') (h0 : 0 < w.heap.size) (hx : 0 < x) : Tab w' := fun j hj => (b.cell (p := ⟨0, j, none⟩) h0 (by show 0 ≠ x; omega)).trans (h j hj)

theorem Tryd.info41 : (Tryd.prog.info? 41).map (fun i => (i.zero, i.size, i.bytes)) = some (some (.agg #[.int .i64 0, .int .i64 0]), 2, 16) := by kernel_rfl

/-- Pairs of numbers as cells. -/
def enc2 (l : List (Nat × Nat)) : List Value := l.flatMap fun p => [.int .i64 p.1, .int .i64 p.2]
theorem enc2_snoc (l : List (Nat × Nat)) (a b : Nat) : enc2 (l ++ [(a, b)]) = enc2 l ++ [.int .i64 a, .int .i64 b] := by simp [enc2]

theorem runsF_end (S : Nat → Bool) (n f i : Nat) (h : n ≤ i) : runsF S n f i = [] := by
  cases f with
  | zero => rfl
  | succ f => simp only [runsF]; rw [if_neg (by omega)]

def RunsPost (R : List (Nat × Nat)) (w : World) (e : Ending) (w' : World) : Prop :=
  ∃ v, e = .returned v ∧ w'.ownsRow w.heap.size 41 2 v R.length (enc2 R) ∧ Below w.heap.size w w'

theorem runs_step {base : Nat} {R : List (Nat × Nat)} (a b : Nat) {w wr w1 : World} {u v' : Value} {ob : Obj} (hb : base ≤ w.heap.size)
    (hown : wr.ownsRow base 41 2 u R.length (enc2 R)) (hnx : Below base w wr)
    (hown' : w1.ownsRow base 41 2 v' (R.length + 1) (enc2 R ++ [.int .i64 a, .int .i64 b])) (hgrow : (wr.alloc ob).grownBy w1 u.ownBlock) :
    w1.ownsRow base 41 2 v' (R ++ [(a, b)]).length (enc2 (R ++ [(a, b)])) ∧ Below base w w1 := by
  have hz := hnx.size
  refine ⟨?_, (hnx.alloc (by omega) ob).grown hgrow (by simp; omega) fun g hg => (hown.lt g hg).1⟩
  rw [enc2_snoc, List.length_append]
  exact hown'

set_option maxHeartbeats 2000000 in
theorem runs_any (m x n : Nat) (S : Nat → Bool) (w : World) (h : MapAt w m x n S) (hT : Tab w) :
    Calls Tryd.prog 17 #[.pointer (some ⟨m, 0, none⟩)] w (RunsPost (runs S n) w) := by
  obtain ⟨i0, hi, hz0, hz1, hz2⟩ := info_parts Tryd.info41
  have hs := h.small
  have h0 : 0 < w.heap.size := by have := h.mlt; omega
  have HA := Lib.hid h
  have HT := Lib.hid hT
  clear hT h
  obtain ⟨_, hn2, _, hn4⟩ := nxt_is S true n 0 (by omega)
  have HR0 : Hid (runsF S n n (nxt S true n 0) = runs S n) := rfl
  have HX := Lib.hid (next_any m x n S true 0 w HA.out HT.out (by omega))
  generalize nxt S true n 0 = f0 at hn2 hn4 HX HR0
  have H4 := Lib.hid hn4
  clear hn4
  go_enter Tryd.func17, Tryd.ntmps17
  go_wp2_with (go_at_call 22; refine HX.out.mono ?_; rintro e w' ⟨rfl, rfl⟩)
  go_loopg [3, 4] n (fun g s3 s4 wx => ∃ (f : Nat) (R : List (Nat × Nat)), s4 = .int .i64 f ∧ f ≤ n ∧ n ≤ f + g ∧ R.length ≤ f ∧ (f < n → S f = true) ∧ R ++ runsF S n g f = runs S n ∧
    wx.ownsRow w.heap.size 41 2 s3 R.length (enc2 R) ∧ Below w.heap.size w wx)
  case atStart => exact ⟨f0, [], rfl, hn2, by omega, Nat.zero_le _, H4.out, HR0.out, World.ownsRow_nil _ _ _ _, Below.refl _ _⟩
  case round =>
    obtain ⟨f, R, rfl, hf1, hf2, hf3, hf4, hf5, hown, hbel⟩ := hrel
    have HB := Lib.hid hbel
    have HR := Lib.hid (HA.out.below hbel)
    have HF4 := Lib.hid hf4
    have HF5 := Lib.hid hf5
    clear hbel hf4 hf5
    by_cases hlt : f < n
    · obtain ⟨g, rfl⟩ : ∃ g, gk = g + 1 := ⟨gk - 1, by omega⟩
      have hSf := HF4.out hlt
      obtain ⟨e1, e2, e3, e4⟩ := nxt_is S false n f (by omega)
      have e5 : f < nxt S false n f := by
        rcases Nat.lt_or_ge f (nxt S false n f) with h | h
        · exact h
        · have : nxt S false n f = f := by omega
          rw [this] at e4
          rw [e4 hlt] at hSf; cases hSf
      obtain ⟨t1, t2, _, t4⟩ := nxt_is S true n (nxt S false n f) e2
      have HF6 : Hid ((R ++ [(f, nxt S false n f - f)]) ++ runsF S n g (nxt S true n (nxt S false n f)) = runs S n) := by
        show _ = _
        rw [← HF5.out]
        simp only [runsF]
        rw [if_pos hlt]
        simp
      have HX1 := Lib.hid (next_any m x n S false f wr HR.out (HT.out.below HB.out h0) (by omega))
      have HX2 := Lib.hid (fun (w1 : World) (hb : Below w.heap.size w w1) => next_any m x n S true (nxt S false n f) w1 (HA.out.below hb) (HT.out.below hb h0) e2)
      have T4 := Lib.hid t4
      clear e1 e3 e4 t4 hSf HX HR0 H4
      generalize nxt S true n (nxt S false n f) = f' at HF6 HX2 t1 t2 T4
      generalize nxt S false n f = e at HF6 HX1 HX2 t1 e2 e5
      have HE : Hid ((((e - f : Nat) : Nat) : Int) = (e : Int) - f) := by show _ = _; omega
      go_wp2_with (first | (go_at_call 19; refine (mlen_any m x n S _ HR.out).mono ?_; rintro e w' ⟨rfl, rfl⟩) | (go_at_call 22; refine HX1.out.mono ?_; rintro e w' ⟨rfl, rfl⟩) | (at_builtin; refine wpList_append_own _ rfl _ _ 39 rfl w.heap.size 41 i0 (.agg #[.int .i64 0, .int .i64 0]) 2 16 Tryd.underlying39 hi hz0 hz1 hz2 rfl (by decide) _ _ _ rfl (hown.alloc _) ⟨wr.heap.size, 0, none⟩ 1 1 [.int .i64 f, .int .i64 ((e : Int) - f)] rfl rfl ?c1 ?c2 ?c3 ?c4 ?c5 ?_))
      case c1 =>
        intro j u hj
        match j, hj with
        | 0, hj => simp at hj; subst hj; simp [Addr.add]
        | 1, hj => simp at hj; subst hj; simp [Addr.add]
      case c2 => intro u hu; simp at hu; rcases hu with rfl | rfl <;> rfl
      case c3 => unfold maxLen; omega
      case c4 => omega
      case c5 => have := HB.out.size; simp; omega
      intro v' w1 hown' hgrow _
      have hR := runs_step (v' := v') f (e - f) (Nat.le_refl _) hown HB.out (by rw [HE.out]; exact hown') hgrow
      have HR1 := Lib.hid hR.1
      have HR2 := Lib.hid hR.2
      clear hown' hgrow hown hR
      go_wp2_with (go_at_call 22; refine (HX2.out _ HR2.out).mono ?_; rintro e w' ⟨rfl, rfl⟩)
      go_roundg g
      case rel => exact ⟨f', R ++ [(f, e - f)], rfl, t2, by omega, by simp; omega, T4.out, HF6.out, HR1.out, HR2.out⟩
      case measure => omega
    · go_wp2_with (go_at_call 19; refine (mlen_any m x n S _ HR.out).mono ?_; rintro e w' ⟨rfl, rfl⟩)
      go_ret
      refine ⟨_, rfl, ?_, HB.out⟩
      have := HF5.out
      rw [runsF_end S n gk f (by omega), List.append_nil] at this
      rw [← this]
      exact hown
end Go.Proofs.YtdhodglbhfjfaaaDoor
