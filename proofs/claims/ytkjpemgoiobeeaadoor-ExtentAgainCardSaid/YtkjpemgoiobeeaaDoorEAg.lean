/- The walk of the law ExtentAgain. No condition but that math/bits' table lies in memory as its text lays it. -/
import Derived.Test.YtkjpemgoiobeeaaDoorEOne
namespace Go.Proofs.YtkjpemgoiobeeaaDoor.extentAgain
open Go.ChangeShapes Go.WideShapes Go.ChangeAt Go.RowKit
set_option maxRecDepth 1000000
theorem fa3 (n q f : Nat) (b : List Int) (h1 : q ≤ f) (h : q ≤ n) : FirstIs (tk [(f, b)]) n q 0 true := by
  refine .inl ⟨rfl, by omega, fun k hk => ?_, fun b hb => by omega⟩
  rw [one_row, ← Bool.not_eq_true, inR_iff]; dsimp only; omega
theorem rem1 (a b : List Int) : without ([] ++ [(0, a)] ++ [(secs a.length, b)]) (ext (0, a)) = [(secs a.length, b)] := by
  have h1 := secs_pos a.length
  have hne : ext (secs a.length, b) ≠ ext (0, a) := fun e => by
    have := congrArg Ext.f e
    simp only [ext] at this
    omega
  simp [without, hne]
theorem not_live (a b : List Int) : isX [(secs a.length, b)] (ext (0, a)) = false := by
  have h1 := secs_pos a.length
  have hne : ext (secs a.length, b) ≠ ext (0, a) := fun e => by
    have := congrArg Ext.f e
    simp only [ext] at this
    omega
  simp [isX, hne]

set_option maxHeartbeats 2000000 in
theorem walk_long (w : World) (hT : Tab w) (h0 : 0 < w.heap.size) (va : Value) (xa : List Int) (ha : ArgB w va xa) (vb : Value) (xb : List Int) (hb : ArgB w vb xb) (h : 2000 < xa.length ∨ 2000 < xb.length) :
    Calls Tryd.prog 7 #[va, vb] w fun e w' => e = .returned (.bool true) ∧ Below w.heap.size w w' := by
  obtain ⟨a1, c1, rfl, _⟩ := ha.1.form
  obtain ⟨a2, c2, rfl, _⟩ := hb.1.form
  have hla := ha.2.2
  have hlb := hb.2.2
  unfold maxLen at hla hlb
  have HK := Lib.hid (known_true w hT h0)
  clear ha hb hT
  by_cases h1 : 2000 < xa.length
  · have h1' : decide ((2000 : Int) < xa.length) = true := by simp; omega
    clear h
    go_enter Tryd.func7, Tryd.ntmps7
    go_wp2_with fail
    refine HK.out.mono ?_
    rintro e w1 ⟨rfl, hb⟩
    go_wp2_with fail
    go_ret
    exact ⟨rfl, hb⟩
  · have h2 : 2000 < xb.length := h.resolve_left h1
    have h1' : decide ((2000 : Int) < xa.length) = false := by simp; omega
    have h2' : decide ((2000 : Int) < xb.length) = true := by simp; omega
    clear h
    go_enter Tryd.func7, Tryd.ntmps7
    go_wp2_with fail
    refine HK.out.mono ?_
    rintro e w1 ⟨rfl, hb⟩
    go_wp2_with fail
    go_ret
    exact ⟨rfl, hb⟩

set_option maxHeartbeats 4000000 in
theorem walk_main (w : World) (hT : Tab w) (h0 : 0 < w.heap.size) (va : Value) (xa : List Int) (ha : ArgB w va xa) (vb : Value) (xb : List Int) (hb : ArgB w vb xb) (h1 : xa.length ≤ 2000) (h2 : xb.length ≤ 2000) :
    Calls Tryd.prog 7 #[va, vb] w fun e w' => e = .returned (.bool true) ∧ Below w.heap.size w w' := by
  have HA := Lib.hid ha
  have HB := Lib.hid hb
  obtain ⟨a1, c1, rfl, _⟩ := ha.1.form
  obtain ⟨a2, c2, rfl, _⟩ := hb.1.form
  have HT := Lib.hid hT
  have HN := Lib.hid (enew_yes 64 w (by omega) hT h0)
  have hqa : secs xa.length ≤ 32 := by unfold secs; omega
  have hqb : secs xb.length ≤ 32 := by unfold secs; omega
  have hqa1 := secs_pos xa.length
  have hqb1 := secs_pos xb.length
  have h1' : decide ((2000 : Int) < xa.length) = false := by simp; omega
  have h2' : decide ((2000 : Int) < xb.length) = false := by simp; omega
  obtain ⟨qa, hqq⟩ : ∃ q, secs xa.length = q := ⟨_, rfl⟩
  obtain ⟨qb, hqr⟩ : ∃ q, secs xb.length = q := ⟨_, rfl⟩
  have F1 := Lib.hid (fa1 64 (secs xa.length) (by omega))
  have F2 := Lib.hid (fa2 64 (secs xb.length) xa hqb1 (by omega))
  have F3 := Lib.hid (fa3 64 (secs xa.length) (secs xa.length) xb (by omega) (by omega))
  have R1 := Lib.hid (rem1 xa xb)
  have NL := Lib.hid (not_live xa xb)
  have HQA := Lib.hid hqq
  have HQB := Lib.hid hqr
  rw [hqq] at hqa hqa1
  rw [hqr] at hqb hqb1
  clear ha hb hT hqq hqr
  go_enter Tryd.func7, Tryd.ntmps7
  go_wp2_with fail
  refine (show Calls Tryd.prog 10 #[.int .i64 64] _ _ from HN.out).mono ?_
  rintro e w1 ⟨s, rfl, s1, hlo, b1⟩
  have S1 := Lib.hid s1
  have HLO := Lib.hid hlo
  have B1 := Lib.hid b1
  have HF : Hid (∀ i, i < w.heap.size → ¬ s.F i) := fun i hi hf => by have := hf.1; omega
  clear s1 hlo b1 HN
  go_wp2_with fail
  refine (put_yes s 64 0 [] 0 _ xa w1 S1.out (HA.out.1.only (Only.of_below (F := fun _ => False) B1.out) (fun _ _ h => h)) HF.out HA.out.2.1 (by omega) (by omega) F1.out).mono ?_
  rintro e w2 ⟨rfl, s2, o2⟩
  have S2 := Lib.hid s2
  have B2 : Hid (Below w.heap.size w w2) := B1.out.trans (o2.below HF.out B1.out.size)
  rw [HQA.out]
  clear s2 o2
  go_wp2_with fail
  have x7 := box3_new w2 0 qa xa.length 32
  have hb2 : Below w2.heap.size w2 (w2.alloc (.cells #[.int .i64 0, .int .i64 qa, .int .i64 xa.length] 32)) := (Below.refl _ _).alloc (Nat.le_refl _) _
  have S2' := Lib.hid (S2.out.fresh hb2)
  have B2' : Hid (Below w.heap.size w _) := B2.out.trans (hb2.mono B2.out.size)
  have h7 := S2.out.lt
  obtain ⟨p7, hp7⟩ : ∃ p, w2.heap.size = p := ⟨_, rfl⟩
  rw [hp7] at x7 h7 ⊢
  have X7 := Lib.hid x7
  have H7 : Hid (¬ s.F p7) := fun h => by have := h.2; omega
  clear x7 hb2 hp7 S2 B2 h7
  generalize w2.alloc (.cells #[.int .i64 0, .int .i64 qa, .int .i64 xa.length] 32) = w3 at X7 S2' B2' ⊢
  refine (put_yes s 64 1 _ _ _ xb w3 S2'.out (HB.out.1.only (Only.of_below (F := fun _ => False) B2'.out) (fun _ _ h => h)) HF.out HB.out.2.1 (by omega) (by omega) F2.out).mono ?_
  rintro e w4 ⟨rfl, s4, o4⟩
  have S4 := Lib.hid s4
  have B4 : Hid (Below w.heap.size w w4) := B2'.out.trans (o4.below HF.out B2'.out.size)
  have x7 := X7.out.only o4 H7.out
  have X7 := Lib.hid x7
  obtain ⟨y1, y2, y3, _, _⟩ := x7
  have hb4 : Below w4.heap.size w4 (w4.alloc (.cells #[.int .i64 qa, .int .i64 qb, .int .i64 xb.length] 32)) := (Below.refl _ _).alloc (Nat.le_refl _) _
  have x7 := X7.out.fresh hb4
  obtain ⟨z1, z2, z3, _, _⟩ := x7
  rw [HQB.out, HQA.out]
  clear s4 o4 S2' B2' hb4
  go_wp2_with fail
  have x9 := box3_new w4 qa qb xb.length 32
  have hb4 : Below w4.heap.size w4 (w4.alloc (.cells #[.int .i64 qa, .int .i64 qb, .int .i64 xb.length] 32)) := (Below.refl _ _).alloc (Nat.le_refl _) _
  have S5 := Lib.hid (S4.out.fresh hb4)
  have X7 := Lib.hid (X7.out.fresh hb4)
  have B5 : Hid (Below w.heap.size w _) := B4.out.trans (hb4.mono B4.out.size)
  have h9 := S4.out.lt
  have e1 : w4.heap.size + 1 = (w4.alloc (.cells #[.int .i64 qa, .int .i64 qb, .int .i64 xb.length] 32)).heap.size := by rw [World.size_alloc]
  rw [e1]
  obtain ⟨p9, hp9⟩ : ∃ p, w4.heap.size = p := ⟨_, rfl⟩
  rw [hp9] at x9 h9 ⊢
  have X9 := Lib.hid x9
  have H9 : Hid (¬ s.F p9) := fun h => by have := h.2; omega
  clear x9 hb4 hp9 h9 e1 y1 y2 y3 z1 z2 z3 S4 B4
  generalize w4.alloc (.cells #[.int .i64 qa, .int .i64 qb, .int .i64 xb.length] 32) = w5 at X7 X9 S5 B5 ⊢
  have hlx : isX ([] ++ [(0, xa)] ++ [(secs xa.length, xb)]) (ext (0, xa)) = true := isX_iff.2 ⟨(0, xa), by simp, rfl⟩
  have hfr := free_one_yes s 64 2 _ (ext (0, xa)) w5 S5.out (ext_wf S5.out.good (by omega) (by simp)) hlx
  rw [R1.out] at hfr
  have hfr : Calls Tryd.prog 18 #[.pointer (some ⟨s.sp, 0, none⟩), .slice (some ⟨w5.heap.size, 0, none⟩) 1 1] (w5.alloc (.cells #[.int .i64 0, .int .i64 (secs xa.length), .int .i64 xa.length] 32)) (FrPost s 64 2 [(secs xa.length, xb)] 0 w5) := hfr
  rw [HQA.out] at hfr
  refine hfr.mono ?_
  rintro e w6 ⟨rfl, s6, o6⟩
  have S6 := Lib.hid s6
  have x7 := X7.out.only o6 H7.out
  have X7 := Lib.hid x7
  have X9 := Lib.hid (X9.out.only o6 H9.out)
  have B6 : Hid (Below w.heap.size w w6) := B5.out.trans (o6.below HF.out B5.out.size)
  obtain ⟨y1, y2, y3, _, _⟩ := x7
  clear s6 o6 hfr hlx S5 B5
  go_wp2_with fail
  have hg := get_none s 64 2 [(qa, xb)] 0 qa xa.length w6 S6.out ⟨wf_of (by dsimp only; omega) (by dsimp only; omega), wf_of (by dsimp only; omega) (by dsimp only; omega), wf_of (by dsimp only; omega) (by dsimp only; omega)⟩ (by
    have := NL.out
    rw [HQA.out] at this
    have e : ext (0, xa) = ⟨0, qa, xa.length⟩ := by simp [ext, len, HQA.out]
    rw [e] at this
    exact this)
  refine hg.mono ?_
  rintro e w7 ⟨rfl, s7, b7⟩
  have S7 := Lib.hid s7
  have X7 := Lib.hid (X7.out.fresh b7)
  have X9 := Lib.hid (X9.out.fresh b7)
  have B7 : Hid (Below w.heap.size w w7) := B6.out.trans (b7.mono B6.out.size)
  clear s7 b7 hg y1 y2 y3 S6 B6
  go_wp2_with fail
  have hF3 := F3.out
  rw [HQA.out] at hF3
  refine (put_yes s 64 2 [(qa, xb)] 0 _ xa w7 S7.out (HA.out.1.only (Only.of_below (F := fun _ => False) B7.out) (fun _ _ h => h)) HF.out HA.out.2.1 (by omega) (by omega) (by rw [HQA.out]; exact hF3)).mono ?_
  rintro e w8 ⟨rfl, s8, o8⟩
  rw [HQA.out]
  have X7 := Lib.hid (X7.out.only o8 H7.out)
  have X9 := Lib.hid (X9.out.only o8 H9.out)
  have B8 : Hid (Below w.heap.size w w8) := B7.out.trans (o8.below HF.out B7.out.size)
  have S8 := Lib.hid s8
  clear s8 o8 hF3 S7 B7
  go_wp2_with fail
  have x14 := box3_new w8 0 qa xa.length 32
  have hb8 : Below w8.heap.size w8 (w8.alloc (.cells #[.int .i64 0, .int .i64 qa, .int .i64 xa.length] 32)) := (Below.refl _ _).alloc (Nat.le_refl _) _
  have x7 := X7.out.fresh hb8
  have x9 := X9.out.fresh hb8
  have S9 := Lib.hid (S8.out.fresh hb8)
  have B9 : Hid (Below w.heap.size w _) := B8.out.trans (hb8.mono B8.out.size)
  obtain ⟨p14, hp14⟩ : ∃ p, w8.heap.size = p := ⟨_, rfl⟩
  rw [hp14] at x14 ⊢
  clear hb8 hp14 S8 B8 X7 X9
  generalize w8.alloc (.cells #[.int .i64 0, .int .i64 qa, .int .i64 xa.length] 32) = w9 at x7 x9 x14 S9 B9 ⊢
  obtain ⟨y1, y2, y3, _, _⟩ := x7
  obtain ⟨z1, z2, z3, _, _⟩ := x9
  obtain ⟨v1, v2, v3, _, _⟩ := x14
  have htot : total ([(qa, xb)] ++ [(0, xa)]) = qa + qb := by
    have e1 : len (qa, xb) = qb := HQB.out
    have e2 : len (0, xa) = qa := HQA.out
    simp [total, e1, e2]; omega
  have HU : Hid (Calls Tryd.prog 20 #[.pointer (some ⟨s.sp, 0, none⟩)] w9.drew fun e w' => e = .returned (.int .i64 ((qa : Int) + qb)) ∧ SpaceAt w' s 64 3 ([(qa, xb)] ++ [(0, xa)]) ∧ Below w9.heap.size w9 w') := by
    have h := eused_any s 64 3 _ w9.drew (S9.out.fresh ⟨rfl, rfl, rfl, Nat.le_refl _, fun _ _ => rfl⟩)
    rw [htot] at h
    exact h.mono fun e w' ⟨he, hs, hb⟩ => ⟨by rw [he]; congr 2, hs, ⟨hb.os, hb.tape, hb.output, hb.size, hb.block⟩⟩
  have W1 : IntKind.i64.wrap ((qa : Int) + qb) = qa + qb := by rw [IntKind.wrap_i64]; omega
  have HK : Hid (∀ (w5 w6 : World), Below w5.heap.size w5 w6 →
      (w5.cell? ⟨p7, 0, none⟩ = some (.int .i64 0) ∧ w5.cell? ⟨p7, 1, none⟩ = some (.int .i64 qa) ∧ w5.cell? ⟨p7, 2, none⟩ = some (.int .i64 xa.length) ∧ w5.cell? ⟨p9, 0, none⟩ = some (.int .i64 qa) ∧ w5.cell? ⟨p9, 1, none⟩ = some (.int .i64 qb) ∧ w5.cell? ⟨p14, 0, none⟩ = some (.int .i64 0) ∧ w5.cell? ⟨p14, 1, none⟩ = some (.int .i64 qa) ∧ w5.cell? ⟨p14, 2, none⟩ = some (.int .i64 xa.length)) →
      (w6.cell? ⟨p7, 0, none⟩ = some (.int .i64 0) ∧ w6.cell? ⟨p7, 1, none⟩ = some (.int .i64 qa) ∧ w6.cell? ⟨p7, 2, none⟩ = some (.int .i64 xa.length) ∧ w6.cell? ⟨p9, 0, none⟩ = some (.int .i64 qa) ∧ w6.cell? ⟨p9, 1, none⟩ = some (.int .i64 qb) ∧ w6.cell? ⟨p14, 0, none⟩ = some (.int .i64 0) ∧ w6.cell? ⟨p14, 1, none⟩ = some (.int .i64 qa) ∧ w6.cell? ⟨p14, 2, none⟩ = some (.int .i64 xa.length))) := fun w5 w6 o ⟨h1, h2, h3, h4, h5, h6, h7, h8⟩ => by
    have e2 : ∀ (p j : Nat) (v : Value), w5.cell? ⟨p, j, none⟩ = some v → w6.cell? ⟨p, j, none⟩ = some v := fun p j v hv => (o.cell (p := ⟨p, j, none⟩) (World.block_lt_of_cell? _ _ hv)).trans hv
    exact ⟨e2 _ _ _ h1, e2 _ _ _ h2, e2 _ _ _ h3, e2 _ _ _ h4, e2 _ _ _ h5, e2 _ _ _ h6, e2 _ _ _ h7, e2 _ _ _ h8⟩
  have HK9 : Hid (∀ w6, Below w9.heap.size w9 w6 → Below w9.drew.heap.size w9.drew w6) := fun w6 hb => ⟨hb.os, hb.tape, hb.output, hb.size, hb.block⟩
  clear h1 h2 h1' h2' htot
  go_region_held3 (fun w' => w'.cell? ⟨p7, 0, none⟩ = some (.int .i64 0) ∧ w'.cell? ⟨p7, 1, none⟩ = some (.int .i64 qa) ∧ w'.cell? ⟨p7, 2, none⟩ = some (.int .i64 xa.length) ∧ w'.cell? ⟨p9, 0, none⟩ = some (.int .i64 qa) ∧ w'.cell? ⟨p9, 1, none⟩ = some (.int .i64 qb) ∧ w'.cell? ⟨p14, 0, none⟩ = some (.int .i64 0) ∧ w'.cell? ⟨p14, 1, none⟩ = some (.int .i64 qa) ∧ w'.cell? ⟨p14, 2, none⟩ = some (.int .i64 xa.length)) (first | go_keep | (exact HK.out _ _ b11 (by assumption)) | (exact HK.out _ _ (HK9.out _ b10) (by assumption))) (first | (go_at_call 20; refine HU.out.mono ?_; rintro e w10 ⟨rfl, s10, b10⟩) | (go_at_call 9; refine (known_true w10 s10.tab (by have := s10.lt; omega)).mono ?_; rintro e w11 ⟨rfl, b11⟩))
  have B11 : Hid (Below w.heap.size w w11) := by
    have e1 := B9.out.trans (b10.mono B9.out.size)
    exact e1.trans (b11.mono e1.size)
  clear b10 b11 s10
  go_wp2_with fail
  go_ret
  exact ⟨rfl, B11.out⟩

theorem walk (w : World) (hT : Tab w) (h0 : 0 < w.heap.size) (va : Value) (xa : List Int) (ha : ArgB w va xa) (vb : Value) (xb : List Int) (hb : ArgB w vb xb) :
    Calls Tryd.prog 7 #[va, vb] w fun e w' => e = .returned (.bool true) ∧ Below w.heap.size w w' := by
  by_cases h1 : xa.length ≤ 2000
  · by_cases h2 : xb.length ≤ 2000
    · exact walk_main w hT h0 va xa ha vb xb hb h1 h2
    · exact walk_long w hT h0 va xa ha vb xb hb (.inr (by omega))
  · exact walk_long w hT h0 va xa ha vb xb hb (.inl (by omega))
end Go.Proofs.YtkjpemgoiobeeaaDoor.extentAgain
