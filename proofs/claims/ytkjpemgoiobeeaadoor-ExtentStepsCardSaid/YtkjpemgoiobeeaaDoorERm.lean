/- What the functions remove and another of package extent do. No condition but those that each statement names. -/
import Derived.Test.YtkjpemgoiobeeaaDoorESt
namespace Go.Proofs.YtkjpemgoiobeeaaDoor
set_option maxRecDepth 1000000
open Go.ChangeShapes Go.WideShapes Go.ChangeAt Go.RowKit

theorem clr_run (D : Nat → Int) (f : Nat) : ∀ (q p : Nat), clr D (run f q) p = if 64 * f ≤ p ∧ p < 64 * (f + q) then 0 else D p
  | 0, p => by rw [if_neg (by omega)]; rfl
  | q + 1, p => by
    have e : run f (q + 1) = run f q ++ [((f + q : Nat) : Int)] := by simp [run, List.range_succ]
    rw [e]
    unfold clr
    rw [List.foldl_append]
    show put (clr D (run f q)) ((f + q : Nat) : Int).toNat [] p = _
    rw [Int.toNat_natCast]
    simp only [put]
    by_cases h : 64 * (f + q) ≤ p ∧ p < 64 * (f + q) + 64
    · rw [if_pos h, if_pos (by omega)]; rfl
    · rw [if_neg h, clr_run D f q p]
      by_cases h2 : 64 * f ≤ p ∧ p < 64 * (f + q)
      · rw [if_pos h2, if_pos (by omega)]
      · rw [if_neg h2, if_neg (by omega)]
theorem clr_holds {n : Nat} {D : Nat → Int} {R : List Row} (h : Holds D R) (g : Good n R) {r : Row} (hr : r ∈ R) : Holds (clr D (run r.1 (len r))) (without R (ext r)) := by
  intro q hq j hj
  obtain ⟨hq, hne⟩ := mem_without.1 hq
  have h1 := g.off hq hr (fun e => hne (by rw [e]))
  have h2 := secs_le q.2.length
  have h3 : secs q.2.length = len q := rfl
  unfold Off at h1
  rw [clr_run, if_neg (by omega)]
  exact h q hq j hj
theorem span_in (f q n : Nat) (h : f + q ≤ n) : inB n (run f q) = true := by
  simp only [inB, List.all_eq_true, run, List.mem_map, List.mem_range, decide_eq_true_eq]
  rintro x ⟨k, hk, rfl⟩
  omega

def RmPost (s : Sp) (n u : Nat) (R : List Row) (w : World) (e : Ending) (w' : World) : Prop :=
  e = .returned (.tuple #[]) ∧ SpaceAt w' s n u R ∧ Only s.F w w'

set_option maxHeartbeats 2000000 in
theorem remove_any (s : Sp) (n u : Nat) (R : List Row) (r : Row) (w : World) (h : SpaceAt w s n u R) (hr : r ∈ R) :
    Calls Tryd.prog 35 #[.pointer (some ⟨s.sp, 0, none⟩), .agg #[.int .i64 r.1, .int .i64 (len r), .int .i64 r.2.length]] w (RmPost s n u (without R (ext r)) w) := by
  obtain ⟨f, xs⟩ := r
  obtain ⟨q, hq⟩ : ∃ q, len (f, xs) = q := ⟨_, rfl⟩
  have hroom := h.good.room _ hr
  have hq1 := len_pos (f, xs)
  have hsm := h.small
  have HQ := Lib.hid hq
  have HS := Lib.hid h
  have HR := Lib.hid hr
  have hlen := secs_le xs.length
  change xs.length ≤ 64 * len (f, xs) at hlen
  rw [hq] at hroom hq1 hlen ⊢
  show Calls Tryd.prog 35 #[_, .agg #[.int .i64 f, .int .i64 q, .int .i64 xs.length]] w _
  change f + q ≤ n at hroom
  obtain ⟨o0, o1, o2, o3, o4, o5⟩ := h.ord
  have hlw := h.lt
  have X3 : Box3 (w.alloc (.cells #[.int .i64 f, .int .i64 q, .int .i64 xs.length] 32)) w.heap.size f q xs.length := box3_new w f q xs.length 32
  have BW : Below w.heap.size w (w.alloc (.cells #[.int .i64 f, .int .i64 q, .int .i64 xs.length] 32)) := (Below.refl _ _).alloc (Nat.le_refl _) _
  have S0 := h.fresh BW
  obtain ⟨p3, hp3⟩ : ∃ p, w.heap.size = p := ⟨_, rfl⟩
  have HP := Lib.hid hp3
  rw [hp3] at X3 BW
  go_enter Tryd.func35, Tryd.ntmps35
  go_wp2_with fail
  clear hp3
  generalize w.alloc (.cells #[.int .i64 f, .int .i64 q, .int .i64 xs.length] 32) = w0 at X3 BW S0 ⊢
  have x1 := X3.1
  have x2 := X3.2.1
  have x3 := X3.2.2.1
  have c0 := S0.c0
  obtain ⟨rd, cw, D, hd, hrd, hcw, hh⟩ := S0.disk
  have HX3 := Lib.hid X3
  have HBW := Lib.hid BW
  have HS0 := Lib.hid S0
  have HH := Lib.hid hh
  have HC : Hid (∀ (w5 : World) (g : Nat), Below w0.heap.size w0.drew w5 → Ints (· = g) w5 (.slice (some ⟨g, 0, none⟩) q q) (run f q) → w0.heap.size ≤ g →
      Calls Tryd.prog 49 #[.pointer (some ⟨s.dm, 0, none⟩), .slice (some ⟨g, 0, none⟩) q q] w5 (ClearPost s.dm s.lo n rd cw (clr D (run f q)) w5)) := fun w5 g hb hI hg =>
    clear_yes s.dm s.lo n rd cw D _ (run f q) w5 ((hd.heap (w' := w0.drew) rfl).fresh hb) hI (fun b e e' => by
      subst e
      have := BW.size
      rcases e' with e' | e' <;> omega) (by rw [run_len]; omega) (span_in f q n hroom)
  have HK : Hid (∀ (w5 w6 : World), Only (dk s.dm s.lo) w5 w6 →
      (w5.cell? ⟨s.sp, 0, none⟩ = some (.pointer (some ⟨s.dm, 0, none⟩)) ∧ w5.cell? ⟨p3, 0, none⟩ = some (.int .i64 f) ∧ w5.cell? ⟨p3, 1, none⟩ = some (.int .i64 q) ∧ w5.cell? ⟨p3, 2, none⟩ = some (.int .i64 xs.length)) →
      (w6.cell? ⟨s.sp, 0, none⟩ = some (.pointer (some ⟨s.dm, 0, none⟩)) ∧ w6.cell? ⟨p3, 0, none⟩ = some (.int .i64 f) ∧ w6.cell? ⟨p3, 1, none⟩ = some (.int .i64 q) ∧ w6.cell? ⟨p3, 2, none⟩ = some (.int .i64 xs.length))) := fun w5 w6 o ⟨h1, h2, h3, h4⟩ => by
    have hp := HP.out
    have e1 : ∀ (j : Nat) (v : Value), w5.cell? ⟨s.sp, j, none⟩ = some v → w6.cell? ⟨s.sp, j, none⟩ = some v := fun j v hv => (o.cell (p := ⟨s.sp, j, none⟩) (World.block_lt_of_cell? _ _ hv) (by show ¬ (s.sp = s.dm ∨ s.sp = s.lo); omega)).trans hv
    have e2 : ∀ (j : Nat) (v : Value), w5.cell? ⟨p3, j, none⟩ = some v → w6.cell? ⟨p3, j, none⟩ = some v := fun j v hv => (o.cell (p := ⟨p3, j, none⟩) (World.block_lt_of_cell? _ _ hv) (by show ¬ (p3 = s.dm ∨ p3 = s.lo); omega)).trans hv
    exact ⟨e1 _ _ h1, e2 _ _ h2, e2 _ _ h3, e2 _ _ h4⟩
  clear X3 BW S0 hd hh h hr o0 o1 o2 o3 o4 o5
  go_region_held3 (fun w' => w'.cell? ⟨s.sp, 0, none⟩ = some (.pointer (some ⟨s.dm, 0, none⟩)) ∧ w'.cell? ⟨p3, 0, none⟩ = some (.int .i64 f) ∧ w'.cell? ⟨p3, 1, none⟩ = some (.int .i64 q) ∧ w'.cell? ⟨p3, 2, none⟩ = some (.int .i64 xs.length)) (first | go_keep | (refine ⟨?_, ?_, ?_, ?_⟩ <;> exact (hb5.cell (World.block_lt_of_cell? _ _ (by assumption))).trans (by assumption)) | (exact HK.out _ _ o6 (by assumption))) (first | (go_at_call 32; refine (places_any f q _ _ (by omega) (by omega)).mono ?_; rintro e w5 ⟨g, rfl, hg5, hgl5, hI5, hb5⟩) | (go_at_call 49; refine (HC.out w5 g hb5 hI5 hg5).mono ?_; rintro e w6 ⟨rfl, d6, o6⟩))
  have D6 := Lib.hid d6
  have hp := HP.out
  have hs := HS0.out
  obtain ⟨o0, o1, o2, o3, o4, o5⟩ := hs.ord
  have hb5' : Below w0.heap.size w0 w5 := ⟨hb5.os, hb5.tape, hb5.output, hb5.size, hb5.block⟩
  have O6 : Only (dk s.dm s.lo) w0 w6 := (Only.of_below hb5').then_ o6 (fun _ _ h => h)
  have hw0 := HBW.out.size
  have x7 := HX3.out.only O6 (by show ¬ (p3 = s.dm ∨ p3 = s.lo); omega)
  have X3 := Lib.hid x7
  obtain ⟨y1, y2, y3, _, _⟩ := x7
  have c1 := (O6.cell (p := ⟨s.sp, 1, none⟩) hs.lt (by show ¬ (s.sp = s.dm ∨ s.sp = s.lo); omega)).trans hs.c1
  have hM := hs.map.only O6 (by show ¬ (s.bm = s.dm ∨ s.bm = s.lo); omega) (by show ¬ (s.bx = s.dm ∨ s.bx = s.lo); omega)
  have HT := Lib.hid (free_yes s.bm s.bx n (tk R) f q w6.drew (hM.heap rfl) hq1 hroom (by have := cnt_row HR.out; rw [HQ.out] at this; exact this))
  have HO6 := Lib.hid O6
  clear d6 o6 hs hM O6 hb5 hb5' hI5 hg5 hgl5 o0 o1 o2 o3 o4 o5 hw0 hp x1 x2 x3 c0
  go_wp2_with fail
  go_still_tail 8, (by kernel_rfl)
  change wpList _ _ _ _ _ w6.drew
  go_wp2_with fail
  refine HT.out.mono ?_
  rintro e w7 ⟨rfl, m7, b7⟩
  have hs := HS0.out
  obtain ⟨o0, o1, o2, o3, o4, o5⟩ := hs.ord
  have hp := HP.out
  have hw0 := HBW.out.size
  have hw6 := HO6.out.size
  have ob7 : Only (· = s.bx) w6 w7 := Only.then_ (F := (· = s.bx)) (Only.of_below (below_drewN w6 w6.heap.size 1)) (Only.of_but b7) (fun _ _ h => h)
  have x7 := X3.out.only ob7 (by show ¬ p3 = s.bx; omega)
  obtain ⟨z1, z2, z3, _, _⟩ := x7
  have c2 := ((ob7.cell (p := ⟨s.sp, 2, none⟩) (by show s.sp < _; omega) (by show ¬ s.sp = s.bx; omega)).trans (HO6.out.cell (p := ⟨s.sp, 2, none⟩) hs.lt (by show ¬ (s.sp = s.dm ∨ s.sp = s.lo); omega))).trans hs.c2
  have L7 : LiveAt w7.drew s.lm u (isX R) := ((hs.live.only HO6.out (by show ¬ (s.lm = s.dm ∨ s.lm = s.lo); omega)).only ob7 (by show ¬ s.lm = s.bx; omega)).heap rfl
  obtain ⟨w8, hst, l8, o8⟩ := L7.drop ⟨f, q, xs.length⟩ ⟨wf_of (by dsimp only; omega) (by dsimp only; omega), wf_of (by dsimp only; omega) (by dsimp only; omega), wf_of (by dsimp only; omega) (by dsimp only; omega)⟩ 0
  have hst : (Builtin.delete_ #[66, 32] 0 #[.map (some s.lm), .agg #[.int .i64 f, .int .i64 q, .int .i64 xs.length]]).run Tryd.prog w7.drew = .ok (.tuple #[]) w8 := hst
  have M7 := Lib.hid m7
  have OB7 := Lib.hid ob7
  have L8 := Lib.hid l8
  have OB8 : Hid (Only (· = s.lm) w7 w8) := Only.then_ (F := (· = s.lm)) (Only.of_below (below_drewN w7 w7.heap.size 1)) o8 (fun _ _ h => h)
  clear m7 b7 ob7 hs l8 o8 L7 o0 o1 o2 o3 o4 o5 hw0 hw6 hp c1 y1 y2 y3
  go_wp2_with fail
  go_still_tail 5, (by kernel_rfl)
  change wpList _ _ _ _ _ w7.drew
  go_wp2_with fail
  go_end0
  have hs := HS0.out
  obtain ⟨o0, o1, o2, o3, o4, o5⟩ := hs.ord
  have hp := HP.out
  have hq := HQ.out
  have hb0 : Below w.heap.size w w0 := by rw [hp]; exact HBW.out
  have hO : Only s.F w w8 := (((Only.of_below hb0 : Only s.F w w0).then_ HO6.out (fun i _ h => by
    rcases h with h | h
    · exact ⟨by omega, by omega⟩
    · exact ⟨by omega, by omega⟩)).then_ OB7.out (fun i _ h => ⟨by omega, by omega⟩)).then_ OB8.out (fun i _ h => ⟨by omega, by omega⟩)
  have hsp : ∀ j, w8.cell? ⟨s.sp, j, none⟩ = w0.cell? ⟨s.sp, j, none⟩ := fun j => by
    have e1 := HO6.out.cell (p := ⟨s.sp, j, none⟩) hs.lt (by show ¬ (s.sp = s.dm ∨ s.sp = s.lo); omega)
    have e2 := OB7.out.cell (p := ⟨s.sp, j, none⟩) (Nat.lt_of_lt_of_le hs.lt HO6.out.size) (by show ¬ s.sp = s.bx; omega)
    have e3 := OB8.out.cell (p := ⟨s.sp, j, none⟩) (Nat.lt_of_lt_of_le (Nat.lt_of_lt_of_le hs.lt HO6.out.size) OB7.out.size) (by show ¬ s.sp = s.lm; omega)
    rw [e3, e2, e1]
  refine ⟨rfl, ⟨(hsp 0).trans hs.c0, (hsp 1).trans hs.c1, (hsp 2).trans hs.c2, ?_, ?_, ?_, hs.good.without _, hs.ord, Nat.lt_of_lt_of_le hlw hO.size, ?_, hsm⟩, hO⟩
  · refine ⟨rd, cw, _, (D6.out.only OB7.out (by show ¬ s.dm = s.bx; omega) (by show ¬ s.lo = s.bx; omega)).only OB8.out (by show ¬ s.dm = s.lm; omega) (by show ¬ s.lo = s.lm; omega), hrd, hcw, ?_⟩
    have := clr_holds HH.out hs.good HR.out
    rw [hq] at this
    exact this
  · have e := tk_rem hs.good HR.out
    rw [hq] at e
    rw [← e]
    exact M7.out.only OB8.out (by show ¬ s.bm = s.lm; omega) (by show ¬ s.bx = s.lm; omega)
  · refine L8.out.congr fun y => ?_
    rw [← isX_rem R (ext (f, xs)) y]
    have e : ext (f, xs) = ⟨f, q, xs.length⟩ := by simp [ext, hq]
    rw [e]
  · exact HS.out.tab.only hO (by omega) (fun h => by have := h.1; omega)

theorem flip_flip (S : Nat → Bool) (f c : Nat) : flipS (flipS S f c) f c = S := by
  funext i
  simp [flipS]

def AnPost (s : Sp) (n u : Nat) (R : List Row) (S : Nat → Bool) (q : Nat) (w : World) (e : Ending) (w' : World) : Prop :=
  ∃ a ok, e = .returned (.tuple #[.int .i64 (a : Nat), .bool ok]) ∧ FirstIs S n q a ok ∧ SpaceAt w' s n u R ∧ Only s.F w w'

theorem another_same (s : Sp) (f q : Nat) (z : Int) (w : World) :
    Calls Tryd.prog 34 #[.pointer (some ⟨s.sp, 0, none⟩), .agg #[.int .i64 f, .int .i64 q, .int .i64 z], .int .i64 q] w fun e w' => e = .returned (.tuple #[.int .i64 f, .bool true]) ∧ Below w.heap.size w w' := by
  go_enter Tryd.func34, Tryd.ntmps34
  go_wp2
  go_ret2
  exact ⟨rfl, (Below.refl _ _).alloc (Nat.le_refl _) _⟩

set_option maxHeartbeats 2000000 in
theorem another_other (s : Sp) (n u : Nat) (R : List Row) (r : Row) (p : Nat) (w : World) (h : SpaceAt w s n u R) (hr : r ∈ R) (hp : p ≠ len r) (hp1 : 1 ≤ p) (hp2 : p ≤ 9223372036854775807) :
    Calls Tryd.prog 34 #[.pointer (some ⟨s.sp, 0, none⟩), .agg #[.int .i64 r.1, .int .i64 (len r), .int .i64 r.2.length], .int .i64 p] w (AnPost s n u R (tk (without R (ext r))) p w) := by
  obtain ⟨f, xs⟩ := r
  obtain ⟨q, hq⟩ : ∃ q, len (f, xs) = q := ⟨_, rfl⟩
  have hroom := h.good.room _ hr
  have hq1 := len_pos (f, xs)
  have hsm := h.small
  have HQ := Lib.hid hq
  have HS := Lib.hid h
  have HR := Lib.hid hr
  rw [hq] at hroom hq1 hp ⊢
  show Calls Tryd.prog 34 #[_, .agg #[.int .i64 f, .int .i64 q, .int .i64 xs.length], _] w _
  change f + q ≤ n at hroom
  have hlw := h.lt
  have X3 : Box3 (w.alloc (.cells #[.int .i64 f, .int .i64 q, .int .i64 xs.length] 32)) w.heap.size f q xs.length := box3_new w f q xs.length 32
  have BW : Below w.heap.size w (w.alloc (.cells #[.int .i64 f, .int .i64 q, .int .i64 xs.length] 32)) := (Below.refl _ _).alloc (Nat.le_refl _) _
  have S0 := h.fresh BW
  obtain ⟨p4, hp4⟩ : ∃ p, w.heap.size = p := ⟨_, rfl⟩
  have HP := Lib.hid hp4
  have hpq : ((p : Int) == q) = false := by simp; omega
  have HNE := Lib.hid hp
  rw [hp4] at X3 BW
  clear hp
  go_enter Tryd.func34, Tryd.ntmps34
  go_wp2_with fail
  clear hp4
  generalize w.alloc (.cells #[.int .i64 f, .int .i64 q, .int .i64 xs.length] 32) = w0 at X3 BW S0 ⊢
  have x1 := X3.1
  have x2 := X3.2.1
  have c1 := S0.c1
  have HX3 := Lib.hid X3
  have HBW := Lib.hid BW
  have HS0 := Lib.hid S0
  have HT := Lib.hid (free_yes s.bm s.bx n (tk R) f q w0.drew (S0.map.heap rfl) hq1 hroom (by have := cnt_row hr; rw [hq] at this; exact this))
  clear X3 BW S0 h hr hq
  go_still_tail 8, (by kernel_rfl)
  change wpList _ _ _ _ _ w0.drew
  go_wp2_with fail
  refine HT.out.mono ?_
  rintro e w1 ⟨rfl, m1, b1⟩
  have hs := HS0.out
  obtain ⟨o0, o1, o2, o3, o4, o5⟩ := hs.ord
  have hpp := HP.out
  have hw0 := HBW.out.size
  have ob1 : Only (· = s.bx) w0 w1 := Only.then_ (F := (· = s.bx)) (Only.of_below (below_drewN w0 w0.heap.size 1)) (Only.of_but b1) (fun _ _ h => h)
  have x3 := HX3.out.only ob1 (by show ¬ p4 = s.bx; omega)
  have X3 := Lib.hid x3
  have c1' := (ob1.cell (p := ⟨s.sp, 1, none⟩) hs.lt (by show ¬ s.sp = s.bx; omega)).trans hs.c1
  have t1 := hs.tab.only ob1 (by have := hs.lt; omega) (by show ¬ 0 = s.bx; omega)
  have HF := Lib.hid (first_any s.bm s.bx n _ p w1 m1 t1 hp1 hp2)
  have OB1 := Lib.hid ob1
  have M1 := Lib.hid m1
  obtain ⟨y1, y2, y3, _, _⟩ := x3
  clear hs m1 b1 ob1 t1 o0 o1 o2 o3 o4 o5 hpp hw0 x1 x2 c1
  go_wp2_with fail
  refine HF.out.mono ?_
  rintro e w2 ⟨a, ok, d, rfl, hf, rfl⟩
  have HFI := Lib.hid hf
  clear hf
  have y1' : (w1.drewN d).cell? ⟨p4, 0, none⟩ = some (.int .i64 f) := y1
  have y2' : (w1.drewN d).cell? ⟨p4, 1, none⟩ = some (.int .i64 q) := y2
  have c1'' : (w1.drewN d).cell? ⟨s.sp, 1, none⟩ = some (.pointer (some ⟨s.bm, 0, none⟩)) := c1'
  have HT2 := Lib.hid (take_yes s.bm s.bx n (flipS (tk R) f q) f q (w1.drewN d).drew ((M1.out.drewN d).heap rfl) hq1 hroom (cnt_none fun k hk => by
    have h1 : tk R (f + k) = true := tk_iff.2 ⟨(f, xs), HR.out, by show f ≤ f + k; omega, by rw [HQ.out]; show f + k < f + q; omega⟩
    simp only [flipS, h1]
    have : inR f q (f + k) = true := inR_iff.2 (by omega)
    rw [this]; rfl))
  have M2 : Hid (Below w1.heap.size w1 (w1.drewN d)) := below_drewN _ _ _
  generalize w1.drewN d = w2 at y1' y2' c1'' HT2 M2 ⊢
  clear y1 y2 c1'
  go_wp2_with fail
  go_still_tail 8, (by kernel_rfl)
  change wpList _ _ _ _ _ w2.drew
  go_wp2_with fail
  refine HT2.out.mono ?_
  rintro e w3 ⟨rfl, m3, b3⟩
  have M3 := Lib.hid m3
  have ob3 : Hid (Only (· = s.bx) w2 w3) := Only.then_ (F := (· = s.bx)) (Only.of_below (below_drewN w2 w2.heap.size 1)) (Only.of_but b3) (fun _ _ h => h)
  clear m3 b3
  go_wp2_with fail
  go_ret2
  have hs := HS0.out
  obtain ⟨o0, o1, o2, o3, o4, o5⟩ := hs.ord
  have hpp := HP.out
  have hq := HQ.out
  have hb0 : Below w.heap.size w w0 := by rw [hpp]; exact HBW.out
  have hO0 : Only (· = s.bx) w0 w3 := ((OB1.out.then_ (Only.of_below M2.out : Only (· = s.bx) w1 w2) (fun _ _ h => h)).then_ ob3.out (fun _ _ h => h))
  have hO : Only s.F w w3 := (Only.of_below hb0 : Only s.F w w0).then_ hO0 (fun i _ h => ⟨by omega, by omega⟩)
  have hsp : ∀ j, w3.cell? ⟨s.sp, j, none⟩ = w0.cell? ⟨s.sp, j, none⟩ := fun j => hO0.cell (p := ⟨s.sp, j, none⟩) hs.lt (by show ¬ s.sp = s.bx; omega)
  obtain ⟨rd, cw, D, hd, hrd, hcw, hh⟩ := hs.disk
  have e := tk_rem hs.good HR.out
  rw [hq] at e
  refine ⟨a, ok, rfl, by rw [← e]; exact HFI.out, ⟨(hsp 0).trans hs.c0, (hsp 1).trans hs.c1, (hsp 2).trans hs.c2, ⟨rd, cw, D, hd.only hO0 (by show ¬ s.dm = s.bx; omega) (by show ¬ s.lo = s.bx; omega), hrd, hcw, hh⟩, ?_, hs.live.only hO0 (by show ¬ s.lm = s.bx; omega), hs.good, hs.ord, Nat.lt_of_lt_of_le hlw hO.size, HS.out.tab.only hO (by omega) (fun h => by have := h.1; omega), hsm⟩, hO⟩
  have hm := M3.out
  rw [flip_flip] at hm
  exact hm
end Go.Proofs.YtkjpemgoiobeeaaDoor
