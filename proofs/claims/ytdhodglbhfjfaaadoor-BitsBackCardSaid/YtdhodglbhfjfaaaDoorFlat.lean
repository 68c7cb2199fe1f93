/- What the law's own functions flat and SameInts return: the runs, one behind the other; that two rows of the same numbers are the same. No condition but those that each statement names. -/
import Derived.Test.YtdhodglbhfjfaaaDoorRuns
import Derived.Deep.RegionHeld3
import Derived.Deep.AppendLies
import Derived.Lib.SmallJoins
namespace Go.Proofs.YtdhodglbhfjfaaaDoor
open Go.RowKit

theorem Tryd.info3 : (Tryd.prog.info? 3).map (fun i => (i.zero, i.size, i.bytes)) = some (some (.int .i64 0), 1, 8) := by kernel_rfl

theorem runsF_len (S : Nat → Bool) (n : Nat) : ∀ f i, (runsF S n f i).length ≤ f
  | 0, _ => by simp [runsF]
  | f + 1, i => by
    simp only [runsF]
    split
    · have := runsF_len S n f (nxt S true n (nxt S false n i)); simp; omega
    · simp
theorem runs_len (S : Nat → Bool) (n : Nat) : (runs S n).length ≤ n := runsF_len S n n _
theorem enc2_len : ∀ l : List (Nat × Nat), (enc2 l).length = 2 * l.length
  | [] => rfl
  | p :: l => by simp only [enc2, List.flatMap_cons, List.length_append] at *; have := enc2_len l; simp only [enc2] at this; rw [this]; simp; omega
theorem enc2_at : ∀ (l : List (Nat × Nat)) (k : Nat) (a b : Nat), l[k]? = some (a, b) → (enc2 l)[2 * k]? = some (.int .i64 a) ∧ (enc2 l)[2 * k + 1]? = some (.int .i64 b)
  | [], k, a, b, h => by simp at h
  | p :: l, 0, a, b, h => by simp at h; subst h; simp [enc2]
  | p :: l, k + 1, a, b, h => by
    have := enc2_at l k a b (by simpa using h)
    simp only [enc2, List.flatMap_cons] at this ⊢
    rw [show 2 * (k + 1) = 2 * k + 1 + 1 by omega]
    simpa using this

def FlatPost (R : List (Nat × Nat)) (w : World) (e : Ending) (w' : World) : Prop :=
  ∃ v, e = .returned v ∧ w'.ownsRow w.heap.size 3 1 v (2 * R.length) (enc2 R) ∧ Below w.heap.size w w'

set_option maxHeartbeats 3200000 in
theorem flat_any (m x n : Nat) (S : Nat → Bool) (w : World) (h : MapAt w m x n S) (hT : Tab w) :
    Calls Tryd.prog 11 #[.pointer (some ⟨m, 0, none⟩)] w (FlatPost (runs S n) w) := by
  obtain ⟨i0, hi, hz0, hz1, hz2⟩ := info_parts Tryd.info3
  have hs := h.small
  have hrl := runs_len S n
  have HX := Lib.hid (runs_any m x n S w h hT)
  clear h hT
  generalize runs S n = R at hrl HX
  go_enter Tryd.func11, Tryd.ntmps11
  go_wp2_with fail
  refine HX.out.mono ?_
  rintro e w1 ⟨v, rfl, hown, hbel⟩
  have HB := Lib.hid hbel
  clear hbel HX
  rcases Joins.ownsRow_forms hown with ⟨rfl, h0⟩ | ⟨g, cap, rfl⟩
  · have hR : R = [] := List.length_eq_zero_iff.1 h0
    subst hR
    clear h0 hown
    go_wp2
    go_loopw [3, 5] (fun s3 s5 wx => s5 = .int .i64 0 ∧ s3 = .slice none 0 0 ∧ wx = w1) (fun _ _ _ => 0)
    case atStart => exact ⟨rfl, rfl, rfl⟩
    case round =>
      obtain ⟨rfl, rfl, rfl⟩ := hrel
      go_wp2
      go_ret
      exact ⟨_, rfl, World.ownsRow_nil _ _ _ _, HB.out⟩
  · obtain ⟨hg1, hg2⟩ := hown.lt g rfl
    have HG := Lib.hid (fun j hj => hown.cellAt j hj)
    clear hown
    go_wp2
    go_loopw [3, 5] (fun s3 s5 wx => ∃ k : Nat, k ≤ R.length ∧ s5 = .int .i64 k ∧ wx.ownsRow w1.heap.size 3 1 s3 (2 * k) (enc2 (R.take k)) ∧ Below w1.heap.size w1 wx)
      (fun _ i _ => R.length - (intOf i).toNat)
    case atStart => exact ⟨0, Nat.zero_le _, rfl, World.ownsRow_nil _ _ _ _, Below.refl _ _⟩
    case round =>
      obtain ⟨k, hk, rfl, hown', hbel⟩ := hrel
      by_cases hlt : k < R.length
      · obtain ⟨a, b, hab⟩ : ∃ a b, R[k]? = some (a, b) := ⟨R[k].1, R[k].2, List.getElem?_eq_getElem hlt⟩
        obtain ⟨c1, c2⟩ := enc2_at R k a b hab
        have q1 : wr.cell? ⟨g, k * 2, none⟩ = some (.int .i64 a) := (hbel.cell (p := ⟨g, k * 2, none⟩) hg2).trans (by rw [HG.out _ (by omega), Nat.mul_comm k 2]; exact c1)
        have q2 : wr.cell? ⟨g, k * 2 + 1, none⟩ = some (.int .i64 b) := (hbel.cell (p := ⟨g, k * 2 + 1, none⟩) hg2).trans (by rw [HG.out _ (by omega), Nat.mul_comm k 2]; exact c2)
        have hne : u3.ownBlock ≠ some g := fun e => by have := (hown'.lt g e).1; omega
        have HT : Hid (enc2 (R.take (k + 1)) = enc2 (R.take k) ++ [.int .i64 a, .int .i64 b]) := by
          show _ = _
          rw [List.take_add_one, hab, ← enc2_snoc]; rfl
        have hlt' : (k : Int) < R.length := by omega
        have hsz := hbel.size
        have HB1 := Lib.hid hbel
        clear c1 c2 hab hbel
        go_wp2
        go_region_held3 (fun w' => w'.cell? ⟨g, k * 2, none⟩ = some (.int .i64 a) ∧ w'.cell? ⟨g, k * 2 + 1, none⟩ = some (.int .i64 b))
          (first | go_keep | (go_split_ands; refine ⟨?_, ?_⟩ <;> (rw [hgrow.cell_far _ (by simp; omega) (Ne.symm hne)]; assumption)))
          ((refine step_append_lies _ (by rfl) _ _ _ (by rfl) w1.heap.size 3 i0 _ 1 8 Tryd.underlying31 hi hz0 hz1 hz2 rfl (by omega) u3 (2 * k) (enc2 (R.take k)) (by rfl) ((hown'.alloc _).drew) ⟨wr.heap.size, 0, none⟩ 2 2 [.int .i64 a, .int .i64 b] (by rfl) (by rfl) (World.news_of_block (cs := #[.int .i64 a, .int .i64 b]) (t := 3) (fr := (0, 0)) (heap_alloc_new wr _)) (by simp [Value.oneCell']) (by omega) (by unfold maxLen; omega) (by omega) (by simp; omega) (wr.heap.size + 1) (by simp) ?_; intro gg cap w2 hown2 hgrow hat hlt2))
        go_wp2
        go_roundw
        case rel => exact ⟨k + 1, by omega, by go_num, by rw [HT.out]; exact hown2, ((HB1.out.alloc hsz _).drew).grown hgrow (by simp; omega) fun j hj => (hown'.lt j hj).1⟩
        case measure => simp [intOf]; omega
      · have HB1 := Lib.hid hbel
        clear hbel
        go_wp2
        go_ret
        have hkR : k = R.length := by omega
        subst hkR
        rw [List.take_length] at hown'
        exact ⟨_, rfl, Joins.ownsRow_le hown' HB.out.size, HB.out.trans (HB1.out.mono HB.out.size)⟩

/-- The slice value v reads as the numbers l. -/
def IntRow (w : World) (v : Value) (l : List Int) : Prop :=
  ∃ a c, v = .slice a l.length c ∧ (l = [] ∨ ∃ b off, a = some ⟨b, off, none⟩ ∧ ∀ i, i < l.length → w.cell? ⟨b, off + i, none⟩ = some (.int .i64 (l.getD i 0)))
/-- Pairs of numbers, one behind the other. -/
def rl (R : List (Nat × Nat)) : List Int := R.flatMap fun p => [(p.1 : Int), (p.2 : Int)]
theorem enc2_rl : ∀ R : List (Nat × Nat), enc2 R = (rl R).map (Value.int .i64)
  | [] => rfl
  | p :: R => by have := enc2_rl R; simp only [enc2, rl, List.flatMap_cons, List.map_append] at this ⊢; rw [this]; rfl
theorem rl_len (R : List (Nat × Nat)) : (rl R).length = 2 * R.length := by
  have := enc2_len R; rw [enc2_rl, List.length_map] at this; exact this
theorem IntRow.below {w w' : World} {v : Value} {l : List Int} (h : IntRow w v l) (b : Below w.heap.size w w') : IntRow w' v l := by
  obtain ⟨a, c, rfl, h⟩ := h
  refine ⟨a, c, rfl, h.imp id fun ⟨b', off, ha, hc⟩ => ⟨b', off, ha, fun i hi => ?_⟩⟩
  have := hc i hi
  exact (b.cell (World.block_lt_of_cell? _ _ this)).trans this
theorem IntRow.but {w w' : World} {v : Value} {l : List Int} {x : Nat} (h : IntRow w v l) (b : But x w w') (hx : ∀ g off n c, v = .slice (some ⟨g, off, none⟩) n c → g ≠ x) : IntRow w' v l := by
  obtain ⟨a, c, rfl, h⟩ := h
  refine ⟨a, c, rfl, h.imp id fun ⟨b', off, ha, hc⟩ => ⟨b', off, ha, fun i hi => ?_⟩⟩
  have := hc i hi
  exact (b.cell (World.block_lt_of_cell? _ _ this) (by subst ha; exact hx _ _ _ _ rfl)).trans this
theorem intRow_own {w : World} {base : Nat} {v : Value} {R : List (Nat × Nat)} (h : w.ownsRow base 3 1 v (2 * R.length) (enc2 R)) : IntRow w v (rl R) := by
  rcases Joins.ownsRow_forms h with ⟨rfl, h0⟩ | ⟨g, cap, rfl⟩
  · have : R = [] := List.length_eq_zero_iff.1 (by omega)
    subst this
    exact ⟨none, 0, rfl, .inl rfl⟩
  · refine ⟨some ⟨g, 0, none⟩, cap, by rw [rl_len], .inr ⟨g, 0, rfl, fun i hi => ?_⟩⟩
    rw [rl_len] at hi
    have h1 := h.cellAt i (by omega)
    rw [Nat.zero_add, h1, enc2_rl, List.getElem?_map, List.getElem?_eq_getElem (by rw [rl_len]; omega)]
    simp [List.getD, List.getElem?_eq_getElem (show i < (rl R).length by rw [rl_len]; omega)]

set_option maxHeartbeats 1000000 in
theorem sameInts_any (v1 v2 : Value) (l : List Int) (w : World) (h1 : IntRow w v1 l) (h2 : IntRow w v2 l) (hl : l.length ≤ 1000000) :
    Calls Tryd.prog 16 #[v1, v2] w fun e w' => e = .returned (.bool true) ∧ ∃ d, w' = w.drewN d := by
  obtain ⟨a1, c1, rfl, h1⟩ := h1
  obtain ⟨a2, c2, rfl, h2⟩ := h2
  have H1 := Lib.hid h1
  have H2 := Lib.hid h2
  clear h1 h2
  go_enter Tryd.func16, Tryd.ntmps16
  go_wp2
  go_loopw [5] (fun s5 wx => ∃ k d : Nat, k ≤ l.length ∧ s5 = .int .i64 k ∧ wx = w.drewN d) (fun i _ => l.length - (intOf i).toNat)
  case atStart => exact ⟨0, 0, Nat.zero_le _, rfl, rfl⟩
  case round =>
    obtain ⟨k, d, hk, rfl, hw⟩ := hrel
    by_cases hlt : k < l.length
    · have hne : l ≠ [] := fun e => by subst e; simp at hlt
      obtain ⟨b1, o1, rfl, q1⟩ := H1.out.resolve_left hne
      obtain ⟨b2, o2, rfl, q2⟩ := H2.out.resolve_left hne
      have r1 : wr.cell? ⟨b1, o1 + k, none⟩ = some (.int .i64 (l.getD k 0)) := by rw [hw]; exact q1 k hlt
      have r2 : wr.cell? ⟨b2, o2 + k, none⟩ = some (.int .i64 (l.getD k 0)) := by rw [hw]; exact q2 k hlt
      have hlt' : (k : Int) < l.length := by omega
      have HW := Lib.hid hw
      clear hw q1 q2
      generalize l.getD k 0 = z at r1 r2
      go_wp2
      go_quiet (fail)
      go_wp2
      go_roundw
      case rel => exact ⟨k + 1, d + nq, by omega, by go_num, by rw [HW.out, World.drewN_drewN]⟩
      case measure => simp [intOf]; omega
    · have HW := Lib.hid hw
      clear hw
      go_wp2
      go_ret
      exact ⟨rfl, d, HW.out⟩
end Go.Proofs.YtdhodglbhfjfaaaDoor
