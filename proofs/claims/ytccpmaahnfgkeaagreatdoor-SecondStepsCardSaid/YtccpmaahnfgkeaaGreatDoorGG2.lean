/- The chapter's space, texts one behind the other: GFk GFl GFm GFn. -/
import Derived.Test.YtccpmaahnfgkeaaGreatDoorGG1

/- What Drop of the chapter tells of one number. -/
namespace Go.Proofs.YtccpmaahnfgkeaaGreatDoor
set_option maxRecDepth 1000000
open Go.ChangeShapes Go.WideShapes Go.ChangeAt Go.RowKit
open Wd (Ob okO encO refsO ObjAt In64 I64)
open R4 (RV rowsOf RowsV wpList_append_eq step_append_eq)

theorem SpV.take {N : Nat → Prop} {w : World} {a : Option Addr} {c : Nat} {L : List RE} (h : SpV N w (.slice a L.length c) L) (j : Nat) (hj : j ≤ L.length) : SpV N w (.slice a j c) (L.take j) := by
  obtain ⟨a', c', he, hc, ho, h⟩ := h
  injection he with e1 _ e3
  subst e1 e3
  have hl : (L.take j).length = j := by rw [List.length_take]; omega
  refine ⟨a, c, by rw [hl], by rw [hl]; omega, fun p hp => ho p (List.mem_of_mem_take hp), ?_⟩
  rcases h with h | ⟨b, off, ha, hN, h⟩
  · left; rw [h]; simp
  · refine .inr ⟨b, off, ha, hN, fun i u hu => h i u ?_⟩
    have e : flat8 L = flat8 (L.take j) ++ flat8 (L.drop j) := by rw [← flat8_append, List.take_append_drop]
    rw [e, List.getElem?_append_left ((List.getElem?_eq_some_iff.1 hu).1)]
    exact hu
theorem SpV.drop {N : Nat → Prop} {w : World} {b off c : Nat} {L : List RE} (h : SpV N w (.slice (some ⟨b, off, none⟩) L.length c) L) (hL : L ≠ []) (j : Nat) (hj : j ≤ L.length) : SpV N w (.slice (some ⟨b, off + j * 8, none⟩) (L.length - j) (c - j)) (L.drop j) := by
  obtain ⟨a', c', he, hc, ho, h⟩ := h
  injection he with e1 _ e3
  subst e1 e3
  have hl : (L.drop j).length = L.length - j := List.length_drop
  refine ⟨_, _, by rw [hl], by rw [hl]; omega, fun p hp => ho p (List.mem_of_mem_drop hp), ?_⟩
  rcases h with h | ⟨b', off', ha, hN, h⟩
  · exact absurd h hL
  · injection ha with ha
    injection ha with ha hb _
    subst ha hb
    refine .inr ⟨b, off + j * 8, rfl, hN, fun i u hu => ?_⟩
    have e : flat8 L = flat8 (L.take j) ++ flat8 (L.drop j) := by rw [← flat8_append, List.take_append_drop]
    have hl2 : (flat8 (L.take j)).length = j * 8 := by rw [flat8_len, List.length_take]; congr 1; omega
    have := h (j * 8 + i) u (by rw [e, List.getElem?_append_right (by omega), show j * 8 + i - (flat8 (L.take j)).length = i by omega]; exact hu)
    rw [show off + j * 8 + i = off + (j * 8 + i) by omega]
    exact this

theorem dr_entry (w : World) (v : Value) (n m : Int) :
    BoxS ((w.alloc (.cells #[v, .int .i64 n, .int .i64 m] 32)).alloc (.cells #[.slice none 0 0, .int .i64 0, .int .i64 0] 32)) w.heap.size v n m ∧
    BoxS ((w.alloc (.cells #[v, .int .i64 n, .int .i64 m] 32)).alloc (.cells #[.slice none 0 0, .int .i64 0, .int .i64 0] 32)) (w.heap.size + 1) (.slice none 0 0) 0 0 ∧
    Below w.heap.size w ((w.alloc (.cells #[v, .int .i64 n, .int .i64 m] 32)).alloc (.cells #[.slice none 0 0, .int .i64 0, .int .i64 0] 32)) ∧
    ((w.alloc (.cells #[v, .int .i64 n, .int .i64 m] 32)).alloc (.cells #[.slice none 0 0, .int .i64 0, .int .i64 0] 32)).heap.size = w.heap.size + 2 := by
  have b1 : ∀ (w : World) (o : Obj), Below w.heap.size w (w.alloc o) := fun w o => (Below.refl _ _).alloc (Nat.le_refl _) _
  refine ⟨(boxS_new w v n m 32).fresh (b1 _ _), ?_, (b1 w _).alloc (by simp) _, by simp⟩
  have h := boxS_new (w.alloc (.cells #[v, .int .i64 n, .int .i64 m] 32)) (.slice none 0 0) 0 0 32
  rw [World.size_alloc] at h
  exact h

set_option maxHeartbeats 4000000 in
theorem drop6_none {N : Nat → Prop} (v : Value) (n m : Nat) (L : List RE) (g : Nat) (i : Int) (w : World) (h : SpV N w v L) (hc : w.cell? ⟨g, 0, none⟩ = some (.int .i64 i)) (hl : L.length ≤ 1000000) (hf : hasE (entsOf L) i = false) :
    Calls Tryz.prog 15 #[.agg #[v, .int .i64 n, .int .i64 m], .slice (some ⟨g, 0, none⟩) 1 1] w (StNo v n m 4 w) := by
  obtain ⟨a, c, rfl⟩ := h.form
  obtain ⟨x1, x2, x3, x4⟩ := dr_entry w (.slice a L.length c) n m
  have X1 := Lib.hid x1
  have X2 := Lib.hid x2
  have X3 := Lib.hid x3
  have X4 := Lib.hid x4
  have HV := Lib.hid h
  have HC := Lib.hid hc
  have HGL : Hid (g < w.heap.size) := Lib.hid (World.block_lt_of_cell? _ _ hc)
  obtain ⟨p, hp⟩ : ∃ p, w.heap.size = p := ⟨_, rfl⟩
  have HP := Lib.hid hp
  rw [hp] at X1 X2
  obtain ⟨y0, y1, y2, _, _⟩ := X1.out
  clear x1 x2 x3 x4 h hc
  go_enter Tryz.func15, Tryz.ntmps15
  go_wp2_with fail
  clear y0 y1 y2
  generalize (w.alloc (.cells #[.slice a L.length c, .int .i64 n, .int .i64 m] 32)).alloc (.cells #[.slice none 0 0, .int .i64 0, .int .i64 0] 32) = w0 at X1 X2 X3 X4 ⊢
  have hq : w0.heap.size = p + 1 + 1 := by have := HP.out; have := X4.out; omega
  have HQ : Hid (w0.heap.size = p + 1 + 1) := Lib.hid hq
  have B1 : Hid (Below w0.heap.size w0 (w0.alloc (.cells #[.slice a L.length c, .int .i64 n, .int .i64 m] 32))) := Lib.hid ((Below.refl _ _).alloc (Nat.le_refl _) _)
  have T1 := Lib.hid (X1.out.fresh B1.out)
  have T2 := Lib.hid (X2.out.fresh B1.out)
  have T3 := Lib.hid (boxS_new w0 (.slice a L.length c) n m 32)
  rw [hq] at T3
  have HB := Lib.hid (X3.out.trans (B1.out.mono X3.out.size))
  clear hq hp
  have HCG : Hid ((w0.alloc (.cells #[.slice a L.length c, .int .i64 n, .int .i64 m] 32)).cell? ⟨g, 0, none⟩ = some (.int .i64 i)) := Lib.hid ((HB.out.cell (p := ⟨g, 0, none⟩) HGL.out).trans HC.out)
  generalize w0.alloc (.cells #[.slice a L.length c, .int .i64 n, .int .i64 m] 32) = w1 at T1 T2 T3 HB HCG ⊢
  clear B1
  go_loopg [7] 1 (fun gg s7 wr => s7 = .int .i64 0 ∧ wr = w1 ∧ gg = 1)
  case atStart => exact ⟨rfl, rfl, rfl⟩
  case round =>
    obtain ⟨rfl, rfl, rfl⟩ := hrel
    obtain ⟨t0, t1, t2, _, _⟩ := T3.out
    have hcg := HCG.out
    have HF := Lib.hid (find6_no (.slice a L.length c) n m L i wr.drew ((HV.out.fresh HB.out).fresh (below_drewN wr _ 1)) hl hf)
    have HKB : Hid (∀ w5, Below wr.drew.heap.size wr.drew w5 → (w5.cell? ⟨p + 1 + 1, 0, none⟩ = some (.slice a L.length c) ∧ w5.cell? ⟨p + 1 + 1, 1, none⟩ = some (.int .i64 n) ∧ w5.cell? ⟨p + 1 + 1, 2, none⟩ = some (.int .i64 m) ∧ w5.cell? ⟨g, 0, none⟩ = some (.int .i64 i))) := Lib.hid (fun w5 o => by
      have h1 := T3.out.2.2.2.2
      have h2 := Nat.lt_of_lt_of_le HGL.out HB.out.size
      exact ⟨(o.cell (p := ⟨p + 1 + 1, 0, none⟩) h1).trans T3.out.1, (o.cell (p := ⟨p + 1 + 1, 1, none⟩) h1).trans T3.out.2.1, (o.cell (p := ⟨p + 1 + 1, 2, none⟩) h1).trans T3.out.2.2.1, (o.cell (p := ⟨g, 0, none⟩) h2).trans HCG.out⟩)
    have S00 : (wr.drew.cell? ⟨p + 1 + 1, 0, none⟩ = some (.slice a L.length c) ∧ wr.drew.cell? ⟨p + 1 + 1, 1, none⟩ = some (.int .i64 n) ∧ wr.drew.cell? ⟨p + 1 + 1, 2, none⟩ = some (.int .i64 m) ∧ wr.drew.cell? ⟨g, 0, none⟩ = some (.int .i64 i)) := ⟨t0, t1, t2, hcg⟩
    go_wp2_with fail
    go_region_held3 (fun w5 => (w5.cell? ⟨p + 1 + 1, 0, none⟩ = some (.slice a L.length c) ∧ w5.cell? ⟨p + 1 + 1, 1, none⟩ = some (.int .i64 n) ∧ w5.cell? ⟨p + 1 + 1, 2, none⟩ = some (.int .i64 m) ∧ w5.cell? ⟨g, 0, none⟩ = some (.int .i64 i))) (first | (with_reducible exact HKB.out _ hb5) | (exact S00)) (first | (go_at_call 10; refine HF.out.mono ?_; rintro e w5 ⟨rfl, hb5⟩))
    have hb5' : Below wr.heap.size wr w5 := ⟨hb5.os, hb5.tape, hb5.output, hb5.size, hb5.block⟩
    have B5 := Lib.hid (HB.out.trans (hb5'.mono HB.out.size))
    have U1 := Lib.hid (T1.out.fresh hb5')
    have U2 := Lib.hid (T2.out.fresh hb5')
    obtain ⟨u0, u1, u2, _, _⟩ := U1.out
    obtain ⟨v0, v1, v2, vf, _⟩ := U2.out
    have f0 := vf 0
    have f1 := vf 1
    have f2 := vf 2
    clear vf hb5 hb5' t0 t1 t2 hcg S00
    go_wp2_with fail
    (try simp only [Exit.inBlock, Exit.then])
    have hb9 := U2.out.put (.slice a L.length c) n m
    have O9 : Only (· = p + 1) w5 (((w5.setCell ⟨p + 1, 0, none⟩ (.slice a L.length c)).setCell ⟨p + 1, 1, none⟩ (.int .i64 n)).setCell ⟨p + 1, 2, none⟩ (.int .i64 m)) := putS_only (Only.refl _ _) (.inl rfl)
    have hpp := HP.out
    have B9 := B5.out
    refine bodyPost_ret (res_S2 rfl rfl hb9) rfl ⟨rfl, B9.trans (O9.below (fun i hi e => by omega) B9.size)⟩
end Go.Proofs.YtccpmaahnfgkeaaGreatDoor

/- What Drop of the chapter tells of one number that is there. -/
namespace Go.Proofs.YtccpmaahnfgkeaaGreatDoor
set_option maxRecDepth 1000000
open Go.ChangeShapes Go.WideShapes Go.ChangeAt Go.RowKit
open Wd (Ob okO encO refsO ObjAt In64 I64)
open R4 (RV rowsOf RowsV wpList_append_eq step_append_eq)

def DrYes (N : Nat → Prop) (L : List RE) (j n m : Nat) (w : World) (e : Ending) (w' : World) : Prop :=
  ∃ a' c', e = .returned (.tuple #[.agg #[.slice a' (L.take j ++ L.drop (j + 1)).length c', .int .i64 n, .int .i64 m], .int .i64 0]) ∧ SpV (fun k => N k ∨ w.heap.size ≤ k) w' (.slice a' (L.take j ++ L.drop (j + 1)).length c') (L.take j ++ L.drop (j + 1)) ∧ Below w.heap.size w w'
structure DrMid (N : Nat → Prop) (L : List RE) (j n m p : Nat) (w wr : World) (u : Value) : Prop where
  box : BoxS wr (p + 1 + 1) u n m
  res : BoxS wr (p + 1) (.slice none 0 0) 0 0
  sp : SpV (fun k => N k ∧ k < w.heap.size ∨ p + 2 < k) wr u (L.take j ++ L.drop (j + 1))
  below : Below w.heap.size w wr

set_option maxHeartbeats 4000000 in
theorem drop6_at {N : Nat → Prop} (v : Value) (n m M : Nat) (L : List RE) (g : Nat) (j : Nat) (hj : j < L.length) (i : Int) (hi : (L[j].1.id : Int) = i) (w : World) (h : SpV N w v L) (hc : w.cell? ⟨g, 0, none⟩ = some (.int .i64 i)) (hl : L.length ≤ 1000000) (hg : GoodE M (entsOf L)) :
    Calls Tryz.prog 15 #[.agg #[v, .int .i64 n, .int .i64 m], .slice (some ⟨g, 0, none⟩) 1 1] w (DrYes N L j n m w) := by
  obtain ⟨b0, off, c, rfl, hNb, hrow⟩ := h.at_ j hj
  obtain ⟨x1, x2, x3, x4⟩ := dr_entry w (.slice (some ⟨b0, off, none⟩) L.length c) n m
  have X1 := Lib.hid x1
  have X2 := Lib.hid x2
  have X3 := Lib.hid x3
  have X4 := Lib.hid x4
  have HV := Lib.hid h
  have HC := Lib.hid hc
  have HGL : Hid (g < w.heap.size) := Lib.hid (World.block_lt_of_cell? _ _ hc)
  obtain ⟨p, hp⟩ : ∃ p, w.heap.size = p := ⟨_, rfl⟩
  have HP := Lib.hid hp
  rw [hp] at X1 X2
  obtain ⟨y0, y1, y2, _, _⟩ := X1.out
  have HL := Lib.hid hl
  have HJ := Lib.hid hj
  have hlc : L.length ≤ c := by
    obtain ⟨_, _, he, hlc, _⟩ := h
    injection he with _ _ e3
    omega
  have HLC := Lib.hid hlc
  have hj0 : decide ((j : Int) < 0) = false := decide_eq_false (by omega)
  have HFA : Hid (∀ w', SpV N w' (.slice (some ⟨b0, off, none⟩) L.length c) L → Calls Tryz.prog 10 #[.agg #[.slice (some ⟨b0, off, none⟩) L.length c, .int .i64 n, .int .i64 m], .int .i64 i] w' (FindAt j w')) := Lib.hid (fun w' hs => by
    have := find6_at (.slice (some ⟨b0, off, none⟩) L.length c) n m M L j hj w' hs hl hg
    rw [hi] at this
    exact this)
  clear x1 x2 x3 x4 h hc hrow hNb hi hg hlc hl hj
  go_enter Tryz.func15, Tryz.ntmps15
  go_wp2_with fail
  clear y0 y1 y2
  generalize (w.alloc (.cells #[.slice (some ⟨b0, off, none⟩) L.length c, .int .i64 n, .int .i64 m] 32)).alloc (.cells #[.slice none 0 0, .int .i64 0, .int .i64 0] 32) = w0 at X1 X2 X3 X4 ⊢
  have hq : w0.heap.size = p + 1 + 1 := by have := HP.out; have := X4.out; omega
  have HQ : Hid (w0.heap.size = p + 1 + 1) := Lib.hid hq
  have B1 : Hid (Below w0.heap.size w0 (w0.alloc (.cells #[.slice (some ⟨b0, off, none⟩) L.length c, .int .i64 n, .int .i64 m] 32))) := Lib.hid ((Below.refl _ _).alloc (Nat.le_refl _) _)
  have T1 := Lib.hid (X1.out.fresh B1.out)
  have T2 := Lib.hid (X2.out.fresh B1.out)
  have T3 := Lib.hid (boxS_new w0 (.slice (some ⟨b0, off, none⟩) L.length c) n m 32)
  rw [hq] at T3
  have HB := Lib.hid (X3.out.trans (B1.out.mono X3.out.size))
  clear hq hp
  have HCG : Hid ((w0.alloc (.cells #[.slice (some ⟨b0, off, none⟩) L.length c, .int .i64 n, .int .i64 m] 32)).cell? ⟨g, 0, none⟩ = some (.int .i64 i)) := Lib.hid ((HB.out.cell (p := ⟨g, 0, none⟩) HGL.out).trans HC.out)
  generalize w0.alloc (.cells #[.slice (some ⟨b0, off, none⟩) L.length c, .int .i64 n, .int .i64 m] 32) = w1 at T1 T2 T3 HB HCG ⊢
  clear B1
  go_loopg [7] 1 (fun gg s7 wr => (s7 = .int .i64 0 ∧ wr = w1 ∧ gg = 1) ∨ (s7 = .int .i64 1 ∧ gg = 0 ∧ ∃ u, Hid (DrMid N L j n m p w wr u)))
  case atStart => exact .inl ⟨rfl, rfl, rfl⟩
  case round =>
    rcases hrel with ⟨rfl, rfl, rfl⟩ | ⟨rfl, rfl, u, MID⟩
    · obtain ⟨t0, t1, t2, _, _⟩ := T3.out
      have hcg := HCG.out
      have HF := Lib.hid (HFA.out wr.drew ((HV.out.fresh HB.out).fresh (below_drewN wr _ 1)))
      have hj := HJ.out
      have HKB : Hid (∀ w5, Below wr.drew.heap.size wr.drew w5 → (w5.cell? ⟨p + 1 + 1, 0, none⟩ = some (.slice (some ⟨b0, off, none⟩) L.length c) ∧ w5.cell? ⟨p + 1 + 1, 1, none⟩ = some (.int .i64 n) ∧ w5.cell? ⟨p + 1 + 1, 2, none⟩ = some (.int .i64 m) ∧ w5.cell? ⟨g, 0, none⟩ = some (.int .i64 i))) := Lib.hid (fun w5 o => by
        have h1 := T3.out.2.2.2.2
        have h2 := Nat.lt_of_lt_of_le HGL.out HB.out.size
        exact ⟨(o.cell (p := ⟨p + 1 + 1, 0, none⟩) h1).trans T3.out.1, (o.cell (p := ⟨p + 1 + 1, 1, none⟩) h1).trans T3.out.2.1, (o.cell (p := ⟨p + 1 + 1, 2, none⟩) h1).trans T3.out.2.2.1, (o.cell (p := ⟨g, 0, none⟩) h2).trans HCG.out⟩)
      have S00 : (wr.drew.cell? ⟨p + 1 + 1, 0, none⟩ = some (.slice (some ⟨b0, off, none⟩) L.length c) ∧ wr.drew.cell? ⟨p + 1 + 1, 1, none⟩ = some (.int .i64 n) ∧ wr.drew.cell? ⟨p + 1 + 1, 2, none⟩ = some (.int .i64 m) ∧ wr.drew.cell? ⟨g, 0, none⟩ = some (.int .i64 i)) := ⟨t0, t1, t2, hcg⟩
      clear hj
      go_wp2_with fail
      go_region_held3 (fun w5 => (w5.cell? ⟨p + 1 + 1, 0, none⟩ = some (.slice (some ⟨b0, off, none⟩) L.length c) ∧ w5.cell? ⟨p + 1 + 1, 1, none⟩ = some (.int .i64 n) ∧ w5.cell? ⟨p + 1 + 1, 2, none⟩ = some (.int .i64 m) ∧ w5.cell? ⟨g, 0, none⟩ = some (.int .i64 i))) (first | (with_reducible exact HKB.out _ hb5) | (exact S00)) (first | (go_at_call 10; refine HF.out.mono ?_; rintro e w5 ⟨rfl, hb5⟩))
      have hj := HJ.out
      have hb5' : Below wr.heap.size wr w5 := ⟨hb5.os, hb5.tape, hb5.output, hb5.size, hb5.block⟩
      have B5 := Lib.hid (HB.out.trans (hb5'.mono HB.out.size))
      have BR5 := Lib.hid hb5'
      have U1 := Lib.hid (T1.out.fresh hb5')
      have U2 := Lib.hid (T2.out.fresh hb5')
      have U3 := Lib.hid (T3.out.fresh hb5')
      have V5 : Hid (SpV (fun k => N k ∧ k < w.heap.size) w5 (.slice (some ⟨b0, off, none⟩) L.length c) L) := (HV.out.kind (M := fun k => N k ∧ k < w.heap.size) (fun k hk hN => ⟨hN, hk⟩)).fresh B5.out
      obtain ⟨v3, w6, happ, en6, hg6, _⟩ := append_ents (N := fun k => N k ∧ k < w.heap.size) (M := fun k => N k ∧ k < w.heap.size) (B := w5.heap.size) w5 (.slice none 0 0) _ [] (L.take j) ⟨World.ownsRow_nil _ _ _ _, fun p hp => by cases hp⟩ (fun k _ e => by cases e) (V5.out.take j (by omega)) (fun k hk => ⟨fun e => (by cases e), hk⟩) (by have := HL.out; rw [List.length_take]; simp; omega) (Nat.le_refl _) 30
      rw [List.nil_append] at en6
      have hb6 : Below w5.heap.size w5 w6 := (Below.refl _ _).grown hg6 (Nat.le_refl _) (fun k hk => by simp [Value.ownBlock] at hk)
      obtain ⟨a3, c3, hv3⟩ := en6.sp.form
      have hl3 : (L.take j).length = j := by rw [List.length_take]; omega
      rw [hl3] at hv3
      subst hv3
      have hlc := HLC.out
      have TL : SpV (fun k => N k ∧ k < w.heap.size) w6 (.slice (some ⟨b0, (if c = j + 1 then off else off + (j + 1) * 8), none⟩) (L.length - (j + 1)) (c - (j + 1))) (L.drop (j + 1)) := by
        by_cases hce : c = j + 1
        · have e0 : L.drop (j + 1) = [] := List.drop_eq_nil_iff.2 (by omega)
          rw [e0]
          exact ⟨_, _, by rw [show L.length - (j + 1) = 0 by omega]; rfl, Nat.zero_le _, fun p hp => (by cases hp), .inl rfl⟩
        · rw [if_neg hce]
          exact (V5.out.fresh hb6).drop (fun e => by rw [e] at hj; simp at hj) (j + 1) hj
      obtain ⟨v4, w7, happ2, en7, hg7, _⟩ := append_ents (N := fun k => N k ∧ k < w.heap.size) (M := fun k => N k ∧ k < w.heap.size) (B := w5.heap.size) w6 _ _ (L.take j) (L.drop (j + 1)) en6 (fun k hk e => by have := (en6.own.lt k e).1; have := hk.2; have := B5.out.size; omega) TL (fun k hk => ⟨fun e => by have := (en6.own.lt k e).1; have := hk.2; have := B5.out.size; omega, hk⟩) (by have := HL.out; rw [List.length_take, List.length_drop]; omega) hb6.size 30
      have hb7 : Below w5.heap.size w5 w7 := hb6.trans ((Only.grown (F := (w5.heap.size ≤ ·)) (Only.refl _ _) hg7 (fun k hk => .inl (en6.own.lt k hk).1)).below (fun i hi e => by omega) hb6.size)
      obtain ⟨a4, c4, hv4⟩ := en7.sp.form
      obtain ⟨y, hy⟩ : ∃ y, (L.take j ++ L.drop (j + 1)).length = y := ⟨_, rfl⟩
      have HY := Lib.hid hy
      rw [hy] at hv4
      subst hv4
      clear hy
      have HA1 := Lib.hid happ
      have HA2 := Lib.hid happ2
      have EN7 := Lib.hid en7
      have B6 := Lib.hid hb6
      have B7 := Lib.hid hb7
      obtain ⟨s0, s1, s2, _, _⟩ := U3.out
      obtain ⟨r0, r1, r2, _, _⟩ := (U3.out.fresh hb6)
      have W1 := Lib.hid (U1.out.fresh hb7)
      have W3 := Lib.hid (U3.out.fresh hb7)
      have W2 := Lib.hid (U2.out.fresh hb7)
      obtain ⟨m0, m1, m2, _, _⟩ := W1.out
      obtain ⟨n0, n1, n2, nf, _⟩ := W3.out
      have nf0 := nf 0
      have nf1 := nf 1
      have nf2 := nf 2
      have hjw : wrap64 ((j : Int) + 1) = (j : Int) + 1 := IntWalk.wrap64_in _ (by have := HL.out; omega)
      clear nf hb5 hb5' t0 t1 t2 hcg S00 happ happ2 en6 en7 hg6 hg7 hb6 hb7 TL hl3
      have MIDF : Hid (DrMid N L j n m p w (((w7.setCell ⟨p + 1 + 1, 0, none⟩ (.slice a4 y c4)).setCell ⟨p + 1 + 1, 1, none⟩ (.int .i64 n)).setCell ⟨p + 1 + 1, 2, none⟩ (.int .i64 m)) (.slice a4 y c4)) := Lib.hid (by
        have hpp := HP.out
        have o : Only (· = p + 1 + 1) w7 (((w7.setCell ⟨p + 1 + 1, 0, none⟩ (.slice a4 y c4)).setCell ⟨p + 1 + 1, 1, none⟩ (.int .i64 n)).setCell ⟨p + 1 + 1, 2, none⟩ (.int .i64 m)) := putS_only (Only.refl _ _) (.inl rfl)
        have hsz := T3.out.2.2.2.2
        have h5 := B5.out.size
        have h57 : Below w.heap.size w w7 := B5.out.trans (B7.out.mono h5)
        have hq : wr.heap.size ≤ w5.heap.size := BR5.out.size
        refine ⟨W3.out.put _ _ _, W2.out.only o (by show ¬ p + 1 = p + 1 + 1; omega), (EN7.out.sp.only o (fun k hk e => ?_)).kind (fun k _ hk => ?_), h57.trans (o.below (fun i hi e => by omega) h57.size)⟩
        · rcases hk with hk | hk
          · have := hk.2; omega
          · omega
        · rcases hk with hk | hk
          · exact .inl hk
          · exact .inr (by omega))
      by_cases hce : c = j + 1
      · rw [if_pos hce] at HA2
        subst hce
        rw [Nat.sub_self, show L.length - (j + 1) = 0 by omega] at HA2
        go_wp2_with (at_builtin; first | ((with_reducible change wpList _ _ _ _ _ w5); refine wpList_append_eq w5 rfl _ _ 30 rfl _ _ _ _ rfl rfl HA1.out ?_) | ((with_reducible change wpList _ _ _ _ _ w6); refine wpList_append_eq w6 rfl _ _ 30 rfl _ _ _ _ rfl rfl HA2.out ?_))
        go_roundg 0
        case measure => omega
        case rel => exact .inr ⟨rfl, rfl, _, MIDF.out⟩
      · rw [if_neg hce] at HA2
        go_wp2_with (at_builtin; first | ((with_reducible change wpList _ _ _ _ _ w5); refine wpList_append_eq w5 rfl _ _ 30 rfl _ _ _ _ rfl rfl HA1.out ?_) | ((with_reducible change wpList _ _ _ _ _ w6); refine wpList_append_eq w6 rfl _ _ 30 rfl _ _ _ _ rfl rfl HA2.out ?_))
        go_roundg 0
        case measure => omega
        case rel => exact .inr ⟨rfl, rfl, _, MIDF.out⟩
    · obtain ⟨a', c', hu⟩ := MID.out.sp.form
      obtain ⟨y, hy⟩ : ∃ y, (L.take j ++ L.drop (j + 1)).length = y := ⟨_, rfl⟩
      have HY := Lib.hid hy
      rw [hy] at hu
      subst hu
      obtain ⟨e0, e1, e2, _, _⟩ := MID.out.box
      obtain ⟨v0, v1, v2, vf, _⟩ := MID.out.res
      have f0 := vf 0
      have f1 := vf 1
      have f2 := vf 2
      clear vf hy
      go_wp2_with fail
      (try simp only [Exit.inBlock, Exit.then])
      have hb9 := MID.out.res.put (.slice a' y c') n m
      have O9 : Only (· = p + 1) wr (((wr.setCell ⟨p + 1, 0, none⟩ (.slice a' y c')).setCell ⟨p + 1, 1, none⟩ (.int .i64 n)).setCell ⟨p + 1, 2, none⟩ (.int .i64 m)) := putS_only (Only.refl _ _) (.inl rfl)
      have hpp := HP.out
      have B9 := MID.out.below
      have SP9 := MID.out.sp
      refine bodyPost_ret (res_S2 rfl rfl hb9) rfl ⟨a', c', by rw [HY.out]; rfl, by
        rw [HY.out]
        exact (SP9.only O9 (fun k hk e => by
          rcases hk with hk | hk
          · have := hk.2; omega
          · omega)).kind (fun k _ hk => by
          rcases hk with hk | hk
          · exact .inl hk.1
          · exact .inr (by omega)), B9.trans (O9.below (fun i hi e => by omega) B9.size)⟩
end Go.Proofs.YtccpmaahnfgkeaaGreatDoor

/- What the chapter's Near tells: plain facts on what is named, again and again, till there is no more. -/
namespace Go.Proofs.YtccpmaahnfgkeaaGreatDoor
set_option maxRecDepth 1000000
open Go.ChangeShapes Go.WideShapes Go.ChangeAt Go.RowKit
open Wd (Ob okO encO refsO ObjAt In64 I64)

def namedB (E : List Ent) (roots xs : List Int) (x : Int) (k : Nat) : Bool := decide (x ∈ roots) || (E.take k).any fun e => decide ((e.id : Int) ∈ xs) && decide (x ∈ refsO e.o)
theorem named_zero (E : List Ent) (roots xs : List Int) (x : Int) : namedB E roots xs x 0 = decide (x ∈ roots) := by simp [namedB]
theorem named_succ {E : List Ent} (roots xs : List Int) (x : Int) {k : Nat} (hk : k < E.length) : namedB E roots xs x (k + 1) = (namedB E roots xs x k || (decide ((E[k].id : Int) ∈ xs) && decide (x ∈ refsO E[k].o))) := by
  simp only [namedB, List.take_succ_eq_append_getElem hk, List.any_append, List.any_cons, List.any_nil, Bool.or_false, Bool.or_assoc]
structure NrG (E : List Ent) (roots xs : List Int) : Prop where
  nodup : xs.Nodup
  reach : ∀ x ∈ xs, Reach E roots x
theorem nrg_nil (E : List Ent) (roots : List Int) : NrG E roots [] := ⟨by simp, fun x h => by cases h⟩
theorem NrG.len {E : List Ent} {roots xs : List Int} (h : NrG E roots xs) : xs.length ≤ E.length := by
  have h1 := len_le_of_sub h.nodup (ys := idsE E) fun x hx => hasE_iff.1 (reach_has (h.reach x hx))
  have h2 : (idsE E).length = E.length := List.length_map _
  omega
theorem hasE_at {E : List Ent} {i : Nat} (hi : i < E.length) : hasE E (E[i].id : Int) = true := hasE_iff.2 (List.mem_map.2 ⟨E[i], List.getElem_mem hi, rfl⟩)
theorem NrG.push {E : List Ent} {roots xs : List Int} (h : NrG E roots xs) {i : Nat} (hi : i < E.length) (hx : ¬ (E[i].id : Int) ∈ xs) (hn : namedB E roots xs E[i].id E.length = true) : NrG E roots (xs ++ [(E[i].id : Int)]) := by
  refine ⟨List.nodup_append.2 ⟨h.nodup, by simp, fun a ha b hb => by rw [List.mem_singleton.1 hb]; exact fun e => hx (e ▸ ha)⟩, fun y hy => ?_⟩
  rcases List.mem_append.1 hy with hy | hy
  · exact h.reach y hy
  · rw [List.mem_singleton.1 hy]
    rw [namedB, List.take_length, Bool.or_eq_true, decide_eq_true_eq, List.any_eq_true] at hn
    rcases hn with hn | ⟨e, he, hn⟩
    · exact reach_root hn (hasE_at hi)
    · rw [Bool.and_eq_true, decide_eq_true_eq, decide_eq_true_eq] at hn
      exact reach_step he (h.reach _ hn.1) hn.2 (hasE_at hi)
def ClosedTo (E : List Ent) (roots xs : List Int) (i : Nat) : Prop := ∀ j (h : j < E.length), j < i → (E[j].id : Int) ∈ xs ∨ namedB E roots xs E[j].id E.length = false
theorem closed_zero (E : List Ent) (roots xs : List Int) : ClosedTo E roots xs 0 := fun j _ h => by omega
theorem ClosedTo.next {E : List Ent} {roots xs : List Int} {i : Nat} (h : ClosedTo E roots xs i) (hi : i < E.length) (hx : (E[i].id : Int) ∈ xs ∨ namedB E roots xs E[i].id E.length = false) : ClosedTo E roots xs (i + 1) := fun j hj hji => by
  by_cases e : j = i
  · subst e; exact hx
  · exact h j hj (by omega)
theorem near_filter {m : Nat} {E : List Ent} (hg : GoodE m E) {roots xs : List Int} (h : NrG E roots xs) (hc : ClosedTo E roots xs E.length) : NearIs E roots ((idsE E).filter fun x => decide (x ∈ xs)) := by
  refine ⟨(ids_rise hg).filter _, fun i => ?_⟩
  rw [List.mem_filter, decide_eq_true_eq]
  refine ⟨fun hi => h.reach i hi.2, fun hi => ⟨hasE_iff.1 (reach_has hi), ?_⟩⟩
  refine hi (fun j => j ∈ xs) (fun j hj hh => ?_) (fun e j he hp hj hh => ?_)
  · obtain ⟨e, he, rfl⟩ := List.mem_map.1 (hasE_iff.1 hh)
    obtain ⟨q, hq, rfl⟩ := List.mem_iff_getElem.1 he
    rcases hc q hq hq with h1 | h1
    · exact h1
    · rw [namedB, Bool.or_eq_false_iff, decide_eq_false_iff_not] at h1
      exact absurd hj h1.1
  · obtain ⟨e', he', rfl⟩ := List.mem_map.1 (hasE_iff.1 hh)
    obtain ⟨q, hq, rfl⟩ := List.mem_iff_getElem.1 he'
    rcases hc q hq hq with h1 | h1
    · exact h1
    · rw [namedB, List.take_length, Bool.or_eq_false_iff, List.any_eq_false] at h1
      exact absurd (by simp [hp, hj]) (h1.2 e he)
theorem ent_at {L : List RE} {k : Nat} (h : k < L.length) (h' : k < (entsOf L).length) : (entsOf L)[k] = L[k].1 := by simp [entsOf]
end Go.Proofs.YtccpmaahnfgkeaaGreatDoor

/- What Near of the chapter tells. -/
namespace Go.Proofs.YtccpmaahnfgkeaaGreatDoor
set_option maxRecDepth 1000000
open Go.ChangeShapes Go.WideShapes Go.ChangeAt Go.RowKit
open Wd (Ob okO encO refsO ObjAt In64 I64)

theorem app_one {P : Int → Prop} [DecidablePred P] (xs : List Int) (k : Nat) (h : k < xs.length) : ((xs.take (k + 1)).filter fun x => decide (P x)) = ((xs.take k).filter fun x => decide (P x)) ++ (if P xs[k] then [xs[k]] else []) := by
  rw [List.take_succ_eq_append_getElem h, List.filter_append]
  by_cases hp : P xs[k] <;> simp [hp]
def GaveNear (E : List Ent) (roots : List Int) (w : World) (e : Ending) (w' : World) : Prop := ∃ v ys, e = .returned v ∧ NearIs E roots ys ∧ Ints (w.heap.size ≤ ·) w' v ys ∧ Below w.heap.size w w'
theorem refs_len (o : Ob) : (refsO o).length ≤ o.w.length + 1 := Wd.refsL_len _
theorem ok_len {o : Ob} (h : okO o = true) : o.w.length ≤ 1200 := by
  obtain ⟨_, ⟨_, h1, h2, _⟩ | ⟨_, h1, h2⟩⟩ := (Wd.okO_iff o).1 h
  · omega
  · rw [h1]; simp

set_option maxHeartbeats 16000000 in
theorem near6_any {N M : Nat → Prop} (v : Value) (n m K : Nat) (L : List RE) (vr : Value) (roots : List Int) (w : World) (h : SpV N w v L) (hr : Ints M w vr roots) (hl : L.length ≤ 1000000) (hrl : roots.length ≤ 9000000000000000000) (hg : GoodE K (entsOf L)) :
    Calls Tryz.prog 24 #[.agg #[v, .int .i64 n, .int .i64 m], vr] w (GaveNear (entsOf L) roots w) := by
  obtain ⟨i3, hi3, hz0, hz1, hz2⟩ := info_parts Wd.Tryz.info3
  have BW : Below w.heap.size w (w.alloc (.cells #[v, .int .i64 n, .int .i64 m] 32)) := (Below.refl _ _).alloc (Nat.le_refl _) _
  have HV := Lib.hid (h.fresh BW)
  have HRO : Hid (Ints M (w.alloc (.cells #[v, .int .i64 n, .int .i64 m] 32)) vr roots) := Lib.hid (Vals.only hr (Only.of_below (F := fun _ => False) BW) (fun _ _ h => h))
  have HB := Lib.hid BW
  have HG := Lib.hid hg
  have HRL := Lib.hid hrl
  obtain ⟨a, c, rfl⟩ := h.form
  have hx : (w.alloc (.cells #[.slice a L.length c, .int .i64 n, .int .i64 m] 32)).cell? ⟨w.heap.size, 0, none⟩ = some (.slice a L.length c) := by rw [World.cell?_alloc_at _ _ _ _ rfl]; rfl
  obtain ⟨p, hp⟩ : ∃ p, w.heap.size = p := ⟨_, rfl⟩
  have HS : Hid (p < (w.alloc (.cells #[.slice a L.length c, .int .i64 n, .int .i64 m] 32)).heap.size) := Lib.hid (by rw [World.size_alloc]; omega)
  rw [hp] at hx
  have HP := Lib.hid hp
  have HX := Lib.hid hx
  have HI := Lib.hid (And.intro hi3 (And.intro hz0 (And.intro hz1 hz2)))
  have HLL := Lib.hid hl
  clear h BW hr hg hrl hi3 hz0 hz1 hz2
  go_enter Tryz.func24, Tryz.ntmps24
  go_wp2
  clear hp hx
  generalize w.alloc (.cells #[.slice a L.length c, .int .i64 n, .int .i64 m] 32) = w0 at HV HX HB HS HRO ⊢
  go_loopg [5, 6] (L.length + 2) (fun g s5 s6 wr => ∃ (u : Value) (xs : List Int) (mb : Bool), u = s5 ∧ s6 = .bool mb ∧ L.length - xs.length + mb.toNat ≤ g ∧ Hid (NrG (entsOf L) roots xs) ∧ Hid (mb = false → ClosedTo (entsOf L) roots xs L.length) ∧ Hid (wr.ownsRow w0.heap.size 3 1 u xs.length (xs.map (Value.int .i64))) ∧ Hid (Below w0.heap.size w0 wr))
  case atStart => exact ⟨_, [], true, rfl, rfl, by simp, Lib.hid (nrg_nil _ _), Lib.hid (fun h => by cases h), Lib.hid (World.ownsRow_nil _ _ _ _), Lib.hid (Below.refl _ _)⟩
  case round =>
    obtain ⟨u, xs, mb, rfl, rfl, hgk, HN, HC, OW, BL⟩ := hrel
    cases mb with
    | true =>
      obtain ⟨g1, rfl⟩ : ∃ g, gk = g + 1 := ⟨gk - 1, by simp at hgk; omega⟩
      have HGK : Hid (L.length - xs.length ≤ g1) := Lib.hid (by simp at hgk; omega)
      clear hgk HC
      go_wp2_with fail
      go_loopg [5, 6, 7] L.length (fun g s5 s6 s7 wr2 => ∃ (u : Value) (ys : List Int) (mb : Bool) (i : Nat), u = s5 ∧ s6 = .bool mb ∧ s7 = .int .i64 i ∧ i ≤ L.length ∧ L.length - i ≤ g ∧ Hid (NrG (entsOf L) roots ys ∧ xs.length ≤ ys.length ∧ (mb = false → ClosedTo (entsOf L) roots ys i) ∧ (mb = true → xs.length < ys.length)) ∧ Hid (wr2.ownsRow w0.heap.size 3 1 u ys.length (ys.map (Value.int .i64))) ∧ Hid (Below w0.heap.size w0 wr2))
      case atStart => exact ⟨u, xs, false, 0, rfl, rfl, rfl, Nat.zero_le _, by omega, Lib.hid ⟨HN.out, Nat.le_refl _, fun _ => closed_zero _ _ _, fun h => by cases h⟩, OW, BL⟩
      case round =>
        clear OW BL HN
        obtain ⟨u, ys, mb, i, rfl, rfl, rfl, hil, hgi, HN, OW, BL⟩ := hrel
        have hx : wr.cell? ⟨p, 0, none⟩ = some (.slice a L.length c) := (BL.out.cell (p := ⟨p, 0, none⟩) HS.out).trans HX.out
        by_cases hlt : i < L.length
        · obtain ⟨g2, rfl⟩ : ∃ g, gk = g + 1 := ⟨gk - 1, by omega⟩
          obtain ⟨b0, off, c', he, _, hrow⟩ := (HV.out.fresh BL.out).at_ i hlt
          injection he with e1 e2 e3
          subst e1 e3
          have h0 := hrow.c0
          clear hrow e2
          obtain ⟨x, hxx⟩ : ∃ x, (L[i].1.id : Int) = x := ⟨_, rfl⟩
          have HXX := Lib.hid hxx
          rw [hxx] at h0
          clear hxx
          have IY : Hid (Ints (w0.heap.size ≤ ·) wr u ys) := Lib.hid (ints_own OW.out)
          have HLT : Hid (i < L.length) := Lib.hid hlt
          by_cases hin : x ∈ ys
          · have HIN : Hid (Calls Tryz.prog 45 #[u, .int .i64 x] wr fun e w' => e = .returned (.bool true) ∧ wr = w') := Lib.hid ((in_any u ys x wr IY.out (by have := HN.out.1.len; rw [ents_len] at this; have := HLL.out; omega)).mono fun e w' ⟨he, hw⟩ => ⟨by rw [he, decide_eq_true hin], hw⟩)
            have HN2 : Hid (NrG (entsOf L) roots ys ∧ xs.length ≤ ys.length ∧ (mb = false → ClosedTo (entsOf L) roots ys (i + 1)) ∧ (mb = true → xs.length < ys.length)) := Lib.hid ⟨HN.out.1, HN.out.2.1, fun h => (HN.out.2.2.1 h).next (by rw [ents_len]; exact HLT.out) (.inl (by rw [ent_at HLT.out, HXX.out]; exact hin)), HN.out.2.2.2⟩
            clear hin
            go_wp2_with fail
            refine HIN.out.mono ?_
            rintro e w' ⟨rfl, rfl⟩
            go_wp2_with fail
            go_roundg g2
            case measure => omega
            case rel => exact ⟨u, ys, mb, i + 1, rfl, rfl, by go_num, by omega, by omega, HN2, OW, BL⟩
          · have HIN : Hid (Calls Tryz.prog 45 #[u, .int .i64 x] wr fun e w' => e = .returned (.bool false) ∧ wr = w') := Lib.hid ((in_any u ys x wr IY.out (by have := HN.out.1.len; rw [ents_len] at this; have := HLL.out; omega)).mono fun e w' ⟨he, hw⟩ => ⟨by rw [he, decide_eq_false hin], hw⟩)
            have HNIN : Hid (¬ x ∈ ys) := Lib.hid hin
            obtain ⟨nb0, hnb⟩ : ∃ b, decide (x ∈ roots) = b := ⟨_, rfl⟩
            have HNB0 : Hid (nb0 = namedB (entsOf L) roots ys x 0) := Lib.hid (by rw [named_zero, hnb])
            have HINR : Hid (Calls Tryz.prog 45 #[vr, .int .i64 x] wr fun e w' => e = .returned (.bool nb0) ∧ wr = w') := Lib.hid ((in_any vr roots x wr (Vals.only HRO.out (Only.of_below (F := fun _ => False) BL.out) (fun _ _ h => h)) HRL.out).mono fun e w' ⟨he, hw⟩ => ⟨by rw [he, hnb], hw⟩)
            clear hin hnb
            go_wp2_with fail
            refine HIN.out.mono ?_
            rintro e w' ⟨rfl, rfl⟩
            go_wp2_with fail
            refine HINR.out.mono ?_
            rintro e w' ⟨rfl, rfl⟩
            go_wp2_with fail
            obtain ⟨ws, hws⟩ : ∃ ws, wr = ws := ⟨_, rfl⟩
            rw [hws] at OW BL IY
            have BS : Hid (Below ws.heap.size ws wr) := Lib.hid (by rw [hws]; exact Below.refl _ _)
            clear hws HIN HINR hx h0
            go_loopg [8, 9] L.length (fun g s8 s9 wr3 => ∃ (nb : Bool) (k : Nat), s8 = .bool nb ∧ s9 = .int .i64 k ∧ k ≤ L.length ∧ L.length - k ≤ g ∧ Hid (nb = namedB (entsOf L) roots ys x k) ∧ Hid (Below ws.heap.size ws wr3))
            case atStart => exact ⟨nb0, 0, rfl, rfl, Nat.zero_le _, by omega, HNB0, BS⟩
            case round =>
              clear BS
              obtain ⟨nb, k, rfl, rfl, hkl, hgk3, HNB, BS⟩ := hrel
              have BL3 : Hid (Below w0.heap.size w0 wr) := Lib.hid (BL.out.trans (BS.out.mono BL.out.size))
              have hx : wr.cell? ⟨p, 0, none⟩ = some (.slice (some ⟨b0, off, none⟩) L.length c) := (BL3.out.cell (p := ⟨p, 0, none⟩) HS.out).trans HX.out
              by_cases hlk : k < L.length
              · obtain ⟨g3, rfl⟩ : ∃ g, gk = g + 1 := ⟨gk - 1, by omega⟩
                have HLK := Lib.hid hlk
                obtain ⟨b', off', c', he, _, hrow⟩ := (HV.out.fresh BL3.out).at_ k hlk
                injection he with e1 e2 e3
                injection e1 with e1
                injection e1 with e1 e4 _
                subst e1 e4 e3
                have HOB := Lib.hid hrow.ob
                have OKL : Hid (L[k].1.o.w.length ≤ 1200) := Lib.hid (ok_len (HG.out.ok _ (List.mem_map.2 ⟨L[k], List.getElem_mem hlk, rfl⟩)))
                obtain ⟨y, hyy⟩ : ∃ y, (L[k].1.id : Int) = y := ⟨_, rfl⟩
                obtain ⟨oc, hoc⟩ : ∃ y, L[k].1.o.c = y := ⟨_, rfl⟩
                obtain ⟨ok, hok⟩ : ∃ y, L[k].1.o.k = y := ⟨_, rfl⟩
                obtain ⟨wv, hwv⟩ : ∃ y, L[k].2.1 = y := ⟨_, rfl⟩
                obtain ⟨bv, hbv⟩ : ∃ y, L[k].2.2 = y := ⟨_, rfl⟩
                obtain ⟨rs, hrs⟩ : ∃ r, refsO L[k].1.o = r := ⟨_, rfl⟩
                have HSA : Hid (∀ wa, Below wr.heap.size wr wa → (wa.cell? ⟨p, 0, none⟩ = some (.slice (some ⟨b0, off, none⟩) L.length c) ∧ wa.cell? ⟨b0, off + k * 8, none⟩ = some (.int .i64 y) ∧ wa.cell? ⟨b0, off + k * 8 + 1, none⟩ = some (.int .i64 oc) ∧ wa.cell? ⟨b0, off + k * 8 + 1 + 1, none⟩ = some (.int .i64 ok) ∧ wa.cell? ⟨b0, off + k * 8 + 1 + 2, none⟩ = some wv ∧ wa.cell? ⟨b0, off + k * 8 + 1 + 3, none⟩ = some bv ∧ wa.cell? ⟨b0, off + i * 8, none⟩ = some (.int .i64 x) ∧ Hid (Below wr.heap.size wr wa))) := Lib.hid (fun wa hb => by
                  have hb0 : Below w0.heap.size w0 wa := BL3.out.trans (hb.mono BL3.out.size)
                  have key : ∀ (q : Nat) (hq : q < L.length), RowAt N wa b0 off q L[q] := fun q hq => by
                    obtain ⟨b', off', c', he, _, hrow⟩ := (HV.out.fresh hb0).at_ q hq
                    injection he with e1 _ _
                    injection e1 with e1
                    injection e1 with e1 e4 _
                    subst e1 e4
                    exact hrow
                  have r := key k HLK.out
                  have q := key i HLT.out
                  refine ⟨(hb0.cell (p := ⟨p, 0, none⟩) HS.out).trans HX.out, ?_, ?_, ?_, ?_, ?_, ?_, Lib.hid hb⟩
                  · rw [← hyy]; exact r.c0
                  · rw [← hoc]; exact r.c1
                  · rw [← hok]; exact r.c2
                  · rw [← hwv]; exact r.c3
                  · rw [← hbv]; exact r.c4
                  · rw [← HXX.out]; exact q.c0)
                have HIN1 : Hid (∀ (wa : World) (b : Bool), decide (y ∈ ys) = b → Below wr.heap.size wr wa → Calls Tryz.prog 45 #[u, .int .i64 y] wa fun e w' => e = .returned (.bool b) ∧ wa = w') := Lib.hid (fun wa b hb h =>
                  (in_any u ys y wa (ints_own (own_kept OW.out (BS.out.trans (h.mono BS.out.size)))) (by have := HN.out.1.len; rw [ents_len] at this; have := HLL.out; omega)).mono fun e w' ⟨he, hw⟩ => ⟨by rw [he, hb], hw⟩)
                have HREF : Hid (∀ wa, (wa.cell? ⟨p, 0, none⟩ = some (.slice (some ⟨b0, off, none⟩) L.length c) ∧ wa.cell? ⟨b0, off + k * 8, none⟩ = some (.int .i64 y) ∧ wa.cell? ⟨b0, off + k * 8 + 1, none⟩ = some (.int .i64 oc) ∧ wa.cell? ⟨b0, off + k * 8 + 1 + 1, none⟩ = some (.int .i64 ok) ∧ wa.cell? ⟨b0, off + k * 8 + 1 + 2, none⟩ = some wv ∧ wa.cell? ⟨b0, off + k * 8 + 1 + 3, none⟩ = some bv ∧ wa.cell? ⟨b0, off + i * 8, none⟩ = some (.int .i64 x) ∧ Hid (Below wr.heap.size wr wa)) → Calls Tryz.prog 46 #[.agg #[.int .i64 oc, .int .i64 ok, wv, bv]] wa (Wd.GaveI rs wa)) := Lib.hid (fun wa h => by
                  have ho := (HOB.out.fresh h.2.2.2.2.2.2.2.out).at_
                  have := Wd.refrefs_any _ L[k].1.o wa ho OKL.out
                  unfold objV at this
                  subst hoc hok hwv hbv hrs
                  exact this)
                have HNS : Hid (namedB (entsOf L) roots ys x (k + 1) = (nb || (decide (y ∈ ys) && decide (x ∈ rs)))) := Lib.hid (by
                  subst hyy hrs
                  rw [named_succ _ _ _ (by rw [ents_len]; exact HLK.out), ent_at HLK.out, HNB.out]
                  rfl)
                have HRS : Hid (rs.length ≤ 9000000000000000000) := Lib.hid (by rw [← hrs]; have := OKL.out; exact Nat.le_trans (refs_len _) (by omega))
                clear hrow hyy hoc hok hwv hbv hrs e2
                cases nb with
                | true =>
                  clear HSA HIN1 HREF
                  go_wp2_with fail
                  go_quiet (fail)
                  go_wp2_with fail
                  go_roundg g3
                  case measure => omega
                  case rel => exact ⟨true, k + 1, rfl, by go_num, by omega, by omega, Lib.hid (by rw [HNS.out]; rfl), Lib.hid (BS.out.trans ((below_drewN _ _ _).mono BS.out.size))⟩
                | false =>
                  by_cases hyn : y ∈ ys
                  · have HYN := Lib.hid (decide_eq_true hyn)
                    obtain ⟨rb, hrb⟩ : ∃ b, decide (x ∈ rs) = b := ⟨_, rfl⟩
                    have HRB := Lib.hid hrb
                    have S00 : (wr.drew.cell? ⟨p, 0, none⟩ = some (.slice (some ⟨b0, off, none⟩) L.length c) ∧ wr.drew.cell? ⟨b0, off + k * 8, none⟩ = some (.int .i64 y) ∧ wr.drew.cell? ⟨b0, off + k * 8 + 1, none⟩ = some (.int .i64 oc) ∧ wr.drew.cell? ⟨b0, off + k * 8 + 1 + 1, none⟩ = some (.int .i64 ok) ∧ wr.drew.cell? ⟨b0, off + k * 8 + 1 + 2, none⟩ = some wv ∧ wr.drew.cell? ⟨b0, off + k * 8 + 1 + 3, none⟩ = some bv ∧ wr.drew.cell? ⟨b0, off + i * 8, none⟩ = some (.int .i64 x) ∧ Hid (Below wr.heap.size wr wr.drew)) := HSA.out _ (below_drewN _ _ 1)
                    have HSB : Hid (∀ wa, (wa.cell? ⟨p, 0, none⟩ = some (.slice (some ⟨b0, off, none⟩) L.length c) ∧ wa.cell? ⟨b0, off + k * 8, none⟩ = some (.int .i64 y) ∧ wa.cell? ⟨b0, off + k * 8 + 1, none⟩ = some (.int .i64 oc) ∧ wa.cell? ⟨b0, off + k * 8 + 1 + 1, none⟩ = some (.int .i64 ok) ∧ wa.cell? ⟨b0, off + k * 8 + 1 + 2, none⟩ = some wv ∧ wa.cell? ⟨b0, off + k * 8 + 1 + 3, none⟩ = some bv ∧ wa.cell? ⟨b0, off + i * 8, none⟩ = some (.int .i64 x) ∧ Hid (Below wr.heap.size wr wa)) → Below wr.heap.size wr wa) := Lib.hid (fun wa h => h.2.2.2.2.2.2.2.out)
                    have HSK : Hid (∀ wa wb : World, (wa.cell? ⟨p, 0, none⟩ = some (.slice (some ⟨b0, off, none⟩) L.length c) ∧ wa.cell? ⟨b0, off + k * 8, none⟩ = some (.int .i64 y) ∧ wa.cell? ⟨b0, off + k * 8 + 1, none⟩ = some (.int .i64 oc) ∧ wa.cell? ⟨b0, off + k * 8 + 1 + 1, none⟩ = some (.int .i64 ok) ∧ wa.cell? ⟨b0, off + k * 8 + 1 + 2, none⟩ = some wv ∧ wa.cell? ⟨b0, off + k * 8 + 1 + 3, none⟩ = some bv ∧ wa.cell? ⟨b0, off + i * 8, none⟩ = some (.int .i64 x) ∧ Hid (Below wr.heap.size wr wa)) → Below wa.heap.size wa wb → (wb.cell? ⟨p, 0, none⟩ = some (.slice (some ⟨b0, off, none⟩) L.length c) ∧ wb.cell? ⟨b0, off + k * 8, none⟩ = some (.int .i64 y) ∧ wb.cell? ⟨b0, off + k * 8 + 1, none⟩ = some (.int .i64 oc) ∧ wb.cell? ⟨b0, off + k * 8 + 1 + 1, none⟩ = some (.int .i64 ok) ∧ wb.cell? ⟨b0, off + k * 8 + 1 + 2, none⟩ = some wv ∧ wb.cell? ⟨b0, off + k * 8 + 1 + 3, none⟩ = some bv ∧ wb.cell? ⟨b0, off + i * 8, none⟩ = some (.int .i64 x) ∧ Hid (Below wr.heap.size wr wb))) := Lib.hid (fun wa wb h hb => HSA.out wb ((HSB.out _ h).trans (hb.mono (HSB.out _ h).size)))
                    have hlt := HLT.out
                    clear hyn hrb
                    go_wp2_with fail
                    go_region_held3 (fun wa => (wa.cell? ⟨p, 0, none⟩ = some (.slice (some ⟨b0, off, none⟩) L.length c) ∧ wa.cell? ⟨b0, off + k * 8, none⟩ = some (.int .i64 y) ∧ wa.cell? ⟨b0, off + k * 8 + 1, none⟩ = some (.int .i64 oc) ∧ wa.cell? ⟨b0, off + k * 8 + 1 + 1, none⟩ = some (.int .i64 ok) ∧ wa.cell? ⟨b0, off + k * 8 + 1 + 2, none⟩ = some wv ∧ wa.cell? ⟨b0, off + k * 8 + 1 + 3, none⟩ = some bv ∧ wa.cell? ⟨b0, off + i * 8, none⟩ = some (.int .i64 x) ∧ Hid (Below wr.heap.size wr wa))) (first | assumption | (exact S00) | (refine HSK.out _ _ (by assumption) hb4)) (first | (go_at_call 45; refine (in_any v4 rs x w4 (ints_own own4) HRS.out).mono ?_; rintro e w5 ⟨rfl, rfl⟩; rw [HRB.out]) | (go_at_call 45; refine (HIN1.out _ true HYN.out (HSB.out _ (by assumption))).mono ?_; rintro e w3 ⟨rfl, rfl⟩) | (go_at_call 46; refine (HREF.out _ (by assumption)).mono ?_; rintro e w4 ⟨v4, rfl, own4, hb4⟩))
                    go_wp2_with fail
                    go_roundg g3
                    case measure => omega
                    case rel => exact ⟨rb, k + 1, rfl, by go_num, by omega, by omega, Lib.hid (by rw [HNS.out, HYN.out, HRB.out]; rfl), Lib.hid (BS.out.trans ((HSB.out _ (by assumption)).mono BS.out.size))⟩
                  · have HYN := Lib.hid (decide_eq_false hyn)
                    have HQ : Hid (∀ wa, Below wr.heap.size wr wa → Calls Tryz.prog 45 #[u, .int .i64 y] wa fun e w' => e = .returned (.bool false) ∧ ∃ d, w' = wa.drewN d) := Lib.hid (fun wa h => (HIN1.out wa false HYN.out h).mono fun e w' ⟨he, hw⟩ => ⟨he, 0, hw.symm⟩)
                    obtain ⟨_, q0, _⟩ := HSA.out wr (Below.refl _ _)
                    clear hyn HIN1 HREF
                    go_wp2_with fail
                    go_quiet (first | (go_at_call 45; exact Calls.quiet_of (HQ.out _ (by first | exact Below.refl _ _ | exact below_drewN _ _ _))))
                    go_wp2_with fail
                    go_roundg g3
                    case measure => omega
                    case rel => exact ⟨false, k + 1, rfl, by go_num, by omega, by omega, Lib.hid (by rw [HNS.out, HYN.out]; rfl), Lib.hid (BS.out.trans ((below_drewN _ _ _).mono BS.out.size))⟩
              · obtain rfl : L.length = k := by omega
                have HNF : Hid (nb = namedB (entsOf L) roots ys x (entsOf L).length) := Lib.hid (by rw [ents_len]; exact HNB.out)
                have OW3 : Hid (wr.ownsRow w0.heap.size 3 1 u ys.length (ys.map (Value.int .i64))) := Lib.hid (own_kept OW.out BS.out)
                cases nb with
                | false =>
                  have HN2 : Hid (NrG (entsOf L) roots ys ∧ xs.length ≤ ys.length ∧ (mb = false → ClosedTo (entsOf L) roots ys (i + 1)) ∧ (mb = true → xs.length < ys.length)) := Lib.hid ⟨HN.out.1, HN.out.2.1, fun h => (HN.out.2.2.1 h).next (by rw [ents_len]; exact HLT.out) (.inr (by rw [ent_at HLT.out, HXX.out]; exact HNF.out.symm)), HN.out.2.2.2⟩
                  go_wp2_with fail
                  go_roundg g2
                  case measure => omega
                  case rel => exact ⟨u, ys, mb, i + 1, rfl, rfl, by go_num, by omega, by omega, HN2, OW3, BL3⟩
                | true =>
                  have HPU : Hid (NrG (entsOf L) roots (ys ++ [x])) := Lib.hid (by
                    have := HN.out.1.push (i := i) (by rw [ents_len]; exact HLT.out) (by rw [ent_at HLT.out, HXX.out]; exact HNIN.out) (by rw [ent_at HLT.out, HXX.out]; exact HNF.out.symm)
                    rw [ent_at HLT.out, HXX.out] at this
                    exact this)
                  have HYL : Hid (ys.length ≤ 1000000) := Lib.hid (by have := HN.out.1.len; rw [ents_len] at this; have := HLL.out; omega)
                  have hri : wr.cell? ⟨b0, off + i * 8, none⟩ = some (.int .i64 x) := by
                    obtain ⟨b', off', c', he, _, hrow⟩ := (HV.out.fresh BL3.out).at_ i HLT.out
                    injection he with e1 _ _
                    injection e1 with e1
                    injection e1 with e1 e4 _
                    subst e1 e4
                    rw [← HXX.out]
                    exact hrow.c0
                  have hlt := HLT.out
                  obtain ⟨hi3, hz0, hz1, hz2⟩ := HI.out
                  go_wp2_with (at_builtin; refine wpList_append_own _ rfl _ _ 23 rfl w0.heap.size 3 i3 (.int .i64 0) 1 8 Tryz.underlying23 hi3 hz0 hz1 hz2 rfl (by decide) _ _ _ rfl (OW3.out.alloc _) ⟨wr.heap.size, 0, none⟩ 1 1 [.int .i64 x] rfl rfl (cell_one_new _ _ _) ?c2 ?c3 ?c4 ?c5 ?_)
                  case c2 => intro u hu; simp at hu; subst hu; rfl
                  case c3 => have := HYL.out; unfold maxLen; omega
                  case c4 => have := HYL.out; omega
                  case c5 => simp; have := BL3.out.size; omega
                  intro v' w3 hown hgrow _
                  have B4 : Hid (Below w0.heap.size w0 w3) := Lib.hid ((BL3.out.alloc BL3.out.size _).grown hgrow (by simp; have := BL3.out.size; omega) (fun j hj => (OW3.out.lt j hj).1))
                  have O4 : Hid (w3.ownsRow w0.heap.size 3 1 v' (ys ++ [x]).length ((ys ++ [x]).map (Value.int .i64))) := Lib.hid (by
                    rw [List.map_append, List.length_append]
                    exact hown)
                  have HN2 : Hid (NrG (entsOf L) roots (ys ++ [x]) ∧ xs.length < (ys ++ [x]).length) := Lib.hid ⟨HPU.out, by rw [List.length_append]; have := HN.out.2.1; simp; omega⟩
                  clear hown hgrow hi3 hz0 hz1 hz2 hri hx
                  go_wp2_with fail
                  go_roundg g2
                  case measure => omega
                  case rel => exact ⟨v', ys ++ [x], true, i + 1, rfl, rfl, by go_num, by omega, by omega, Lib.hid ⟨HN2.out.1, Nat.le_of_lt HN2.out.2, (fun h => by cases h), fun _ => HN2.out.2⟩, O4, B4⟩
        · obtain rfl : L.length = i := by omega
          have hlen := HN.out.1.len
          rw [ents_len] at hlen
          have HLEN := Lib.hid hlen
          clear hlen
          go_wp2_with fail
          go_roundg g1
          case measure => omega
          case rel =>
            refine ⟨u, ys, mb, rfl, rfl, ?_, Lib.hid HN.out.1, Lib.hid HN.out.2.2.1, OW, BL⟩
            have h1 := HGK.out
            have h2 := HN.out.2.1
            have h3 := HLEN.out
            cases mb with
            | true => have := HN.out.2.2.2 rfl; simp; omega
            | false => simp; omega
    | false =>
      have HCL : Hid (ClosedTo (entsOf L) roots xs (entsOf L).length) := Lib.hid (by rw [ents_len]; exact HC.out rfl)
      have HXL : Hid (xs.length ≤ 1000000) := Lib.hid (by have := HN.out.len; rw [ents_len] at this; have := HLL.out; omega)
      clear HC hgk
      go_wp2_with fail
      obtain ⟨ws, hws⟩ : ∃ ws, wr = ws := ⟨_, rfl⟩
      rw [hws] at OW BL
      have BS : Hid (Below ws.heap.size ws wr) := Lib.hid (by rw [hws]; exact Below.refl _ _)
      clear hws
      go_loopg [10, 11] L.length (fun g s10 s11 wr4 => ∃ (v : Value) (k : Nat), v = s10 ∧ s11 = .int .i64 k ∧ k ≤ L.length ∧ L.length - k ≤ g ∧ Hid (wr4.ownsRow ws.heap.size 3 1 v (((idsE (entsOf L)).take k).filter fun x => decide (x ∈ xs)).length ((((idsE (entsOf L)).take k).filter fun x => decide (x ∈ xs)).map (Value.int .i64))) ∧ Hid (Below ws.heap.size ws wr4))
      case atStart => exact ⟨_, 0, rfl, rfl, Nat.zero_le _, by omega, Lib.hid (World.ownsRow_nil _ _ _ _), BS⟩
      case round =>
        clear BS
        obtain ⟨v, k, rfl, rfl, hkl, hgk4, OV, BS⟩ := hrel
        have BL3 : Hid (Below w0.heap.size w0 wr) := Lib.hid (BL.out.trans (BS.out.mono BL.out.size))
        have hx : wr.cell? ⟨p, 0, none⟩ = some (.slice a L.length c) := (BL3.out.cell (p := ⟨p, 0, none⟩) HS.out).trans HX.out
        have HIL : Hid ((idsE (entsOf L)).length = L.length) := Lib.hid (by simp [idsE, entsOf])
        by_cases hlk : k < L.length
        · obtain ⟨g3, rfl⟩ : ∃ g, gk = g + 1 := ⟨gk - 1, by omega⟩
          obtain ⟨b0, off, c', he, _, hrow⟩ := (HV.out.fresh BL3.out).at_ k hlk
          injection he with e1 e2 e3
          subst e1 e3
          have h0 := hrow.c0
          clear hrow e2
          obtain ⟨x, hxx⟩ : ∃ x, (L[k].1.id : Int) = x := ⟨_, rfl⟩
          have HXX := Lib.hid hxx
          rw [hxx] at h0
          have HK2 : Hid (k < (idsE (entsOf L)).length) := Lib.hid (by rw [HIL.out]; exact hlk)
          have HXK : Hid ((idsE (entsOf L))[k]'HK2.out = x) := Lib.hid (by rw [← hxx]; simp [idsE, entsOf])
          have HTK := Lib.hid (app_one (P := fun y => y ∈ xs) (idsE (entsOf L)) k HK2.out)
          have OW3 : Hid (Ints (w0.heap.size ≤ ·) wr u xs) := Lib.hid (ints_own (own_kept OW.out BS.out))
          have HFL : Hid ((((idsE (entsOf L)).take k).filter fun x => decide (x ∈ xs)).length ≤ 1000000) := Lib.hid (by
            have h1 := List.length_filter_le (fun x => decide (x ∈ xs)) ((idsE (entsOf L)).take k)
            rw [List.length_take] at h1
            have h2 := HLL.out
            omega)
          have hlk' := hlk
          clear hxx
          by_cases hin : x ∈ xs
          · have HIN : Hid (Calls Tryz.prog 45 #[u, .int .i64 x] wr fun e w' => e = .returned (.bool true) ∧ wr = w') := Lib.hid ((in_any u xs x wr OW3.out (by have := HXL.out; omega)).mono fun e w' ⟨he, hw⟩ => ⟨by rw [he, decide_eq_true hin], hw⟩)
            have HNX := Lib.hid hin
            obtain ⟨fs, hfs⟩ : ∃ fs, (((idsE (entsOf L)).take k).filter fun x => decide (x ∈ xs)) = fs := ⟨_, rfl⟩
            rw [hfs] at OV HFL HTK
            have HNT : Hid ((((idsE (entsOf L)).take (k + 1)).filter fun x => decide (x ∈ xs)) = fs ++ [x]) := Lib.hid (by
              have := HTK.out
              rw [this, HXK.out, if_pos HNX.out])
            obtain ⟨hi3, hz0, hz1, hz2⟩ := HI.out
            clear hin hfs HTK
            go_wp2_with fail
            refine HIN.out.mono ?_
            rintro e w' ⟨rfl, rfl⟩
            go_wp2_with (at_builtin; refine wpList_append_own _ rfl _ _ 23 rfl ws.heap.size 3 i3 (.int .i64 0) 1 8 Tryz.underlying23 hi3 hz0 hz1 hz2 rfl (by decide) _ _ _ rfl (OV.out.alloc _) ⟨wr.heap.size, 0, none⟩ 1 1 [.int .i64 x] rfl rfl (cell_one_new _ _ _) ?c2 ?c3 ?c4 ?c5 ?_)
            case c2 => intro u hu; simp at hu; subst hu; rfl
            case c3 => have := HFL.out; unfold maxLen; omega
            case c4 => have := HFL.out; omega
            case c5 => simp; have := BS.out.size; omega
            intro v' w3 hown hgrow _
            have B4 : Hid (Below ws.heap.size ws w3) := Lib.hid ((BS.out.alloc BS.out.size _).grown hgrow (by simp; have := BS.out.size; omega) (fun j hj => (OV.out.lt j hj).1))
            have O4 : Hid (w3.ownsRow ws.heap.size 3 1 v' (((idsE (entsOf L)).take (k + 1)).filter fun x => decide (x ∈ xs)).length ((((idsE (entsOf L)).take (k + 1)).filter fun x => decide (x ∈ xs)).map (Value.int .i64))) := Lib.hid (by
              rw [HNT.out, List.map_append, List.length_append]
              exact hown)
            clear hown hgrow hi3 hz0 hz1 hz2 hx h0
            go_wp2_with fail
            go_roundg g3
            case measure => omega
            case rel => exact ⟨v', k + 1, rfl, by go_num, by omega, by omega, O4, B4⟩
          · have HIN : Hid (Calls Tryz.prog 45 #[u, .int .i64 x] wr fun e w' => e = .returned (.bool false) ∧ wr = w') := Lib.hid ((in_any u xs x wr OW3.out (by have := HXL.out; omega)).mono fun e w' ⟨he, hw⟩ => ⟨by rw [he, decide_eq_false hin], hw⟩)
            have O4 : Hid (wr.ownsRow ws.heap.size 3 1 v (((idsE (entsOf L)).take (k + 1)).filter fun x => decide (x ∈ xs)).length ((((idsE (entsOf L)).take (k + 1)).filter fun x => decide (x ∈ xs)).map (Value.int .i64))) := Lib.hid (by
              have h1 := HTK.out
              rw [HXK.out, if_neg hin, List.append_nil] at h1
              rw [h1]
              exact OV.out)
            clear hin HTK
            go_wp2_with fail
            refine HIN.out.mono ?_
            rintro e w' ⟨rfl, rfl⟩
            go_wp2_with fail
            go_roundg g3
            case measure => omega
            case rel => exact ⟨v, k + 1, rfl, by go_num, by omega, by omega, O4, BS⟩
        · obtain rfl : L.length = k := by omega
          have HR : Hid (Ints (w.heap.size ≤ ·) wr v ((idsE (entsOf L)).filter fun x => decide (x ∈ xs))) := Lib.hid (by
            have ho := OV.out
            rw [← HIL.out, List.take_length] at ho
            refine Vals.kind (ints_own ho) (fun b _ hN => ?_)
            have h1 := HB.out.size
            have h2 := BL.out.size
            have h3 : ws.heap.size ≤ b := hN
            omega)
          have HNR := Lib.hid (near_filter HG.out HN.out HCL.out)
          have BR : Hid (Below w.heap.size w wr) := Lib.hid (HB.out.trans (BL3.out.mono HB.out.size))
          go_wp2_with fail
          go_ret
          exact ⟨_, _, rfl, HNR.out, HR.out, BR.out⟩
end Go.Proofs.YtccpmaahnfgkeaaGreatDoor
