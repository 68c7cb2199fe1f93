/- What the chapter's own function Step (package websterref03) does: what it tells of something done, and the sectors behind it. No condition but those that each statement names. -/
import Derived.Test.YtpijefkkhhgbfaaRef
namespace Go.Proofs.Ytpijefkkhhgbfaa
open Go.ChangeShapes Go.WideShapes Go.ChangeAt Go.RowKit

/-- What Step leaves. -/
def StepPost (N : Nat → Prop) (n : Nat) (D : Nat → Int) (k f : Int) (bs : List Int) (w : World) (e : Ending) (w' : World) : Prop :=
  ∃ v vb, e = .returned (.tuple #[v, vb, .int .i64 (toldE n k f bs)]) ∧ RefAt (fun b => N b ∨ w.heap.size ≤ b) w' v n (nextD n D k f bs) ∧ Bts (fun _ => True) w' vb (toldB n D k f) ∧ Below w.heap.size w w'

theorem step_told {N : Nat → Prop} {n : Nat} {D : Nat → Int} {k f : Int} {bs : List Int} {w w' : World} {e : Ending} {v vb : Value} {E : Int} {B : List Int} {R C : Nat} {D' : Nat → Int}
    (ht : toldE n k f bs = E ∧ toldB n D k f = B ∧ nextD n D k f bs = D' ∧ nextR 0 E k = R ∧ nextC 0 E k = C) (he : e = .returned (.tuple #[v, vb, .int .i64 E]))
    (hr : RefAt (fun b => N b ∨ w.heap.size ≤ b) w' v n D') (hb : Bts (fun _ => True) w' vb B) (ho : Below w.heap.size w w') : StepPost N n D k f bs w e w' := by
  obtain ⟨h1, h2, h3, _, _⟩ := ht
  exact ⟨v, vb, by rw [h1]; exact he, by rw [h3]; exact hr, by rw [h2]; exact hb, ho⟩
theorem none_bts (w : World) : Bts (fun _ => True) w (.slice none 0 0) [] := ⟨none, 0, rfl, Nat.le_refl _, .inl rfl⟩

theorem step_shut {N : Nat → Prop} {w wr w4 : World} {n i z g cap : Nat} {D : Nat → Int} {ys : List Int} {vs : List Value} (hl : vs.length = n) (hi : i < n) (hy : ys.length ≤ 64)
    (hb : Below w.heap.size w wr) (hr : ∀ t u, vs[t]? = some u → Bts N w u (sec D t)) (hz : w.heap.size ≤ z) (hzr : ∀ t, t < 64 → wr.cell? ⟨z, t, none⟩ = some (.int .u8 (ys.getD t 0)))
    (hown : w4.ownsRow wr.heap.size 30 1 (.slice (some ⟨g, 0, none⟩) n cap) n vs) (hg : wr.grownBy w4 none) :
    RefAt (fun b => N b ∨ w.heap.size ≤ b) (w4.setCell ⟨g, i, none⟩ (.slice (some ⟨z, 0, none⟩) 64 64)) (.slice (some ⟨g, 0, none⟩) n cap) n (put D i ys) ∧ Below w.heap.size w (w4.setCell ⟨g, i, none⟩ (.slice (some ⟨z, 0, none⟩) 64 64)) := by
  have hs := hb.size
  have hgl : wr.heap.size ≤ g := (hown.lt g rfl).1
  have hcl : n ≤ cap := by
    rcases hown.2 with ⟨he, _⟩ | ⟨g', cap', cur, he, _, _, hn, _⟩
    · cases he
    · injection he with e1 e2 e3
      omega
  have b4 : Below w.heap.size w w4 := hb.trans ⟨hg.os, hg.tape, hg.output, hg.size, fun k hk => hg.block k (by omega) (by simp)⟩
  have b5 : Below w.heap.size w (w4.setCell ⟨g, i, none⟩ (.slice (some ⟨z, 0, none⟩) 64 64)) := b4.setCell (p := ⟨g, i, none⟩) (by show _ ≤ g; omega) _
  have hcells : ∀ j u, vs[j]? = some u → w4.cell? ⟨g, j, none⟩ = some u := fun j u hu => by
    have := hown.cells (g := g) rfl j u hu
    rwa [add_plain, Nat.zero_add] at this
  refine ⟨⟨vs.set i (.slice (some ⟨z, 0, none⟩) 64 64), by simp [hl], ⟨_, cap, by rw [List.length_set, hl], by rw [List.length_set, hl]; exact hcl, .inr ⟨g, 0, rfl, .inr (by omega), fun j u hu => ?_⟩⟩, fun t u hu => ?_⟩, b5⟩
  · rw [Nat.zero_add]
    by_cases hji : j = i
    · subst hji
      rw [List.getElem?_set_self (by omega)] at hu
      rw [World.cell?_setCell_same _ _ _ (hcells j vs[j] (List.getElem?_eq_getElem (by omega))), hu]
    · rw [List.getElem?_set_ne (Ne.symm hji)] at hu
      rw [World.cell?_setCell_other _ _ _ _ (by intro e; injection e; omega)]
      exact hcells j u hu
  · by_cases hti : t = i
    · subst hti
      rw [List.getElem?_set_self (by omega)] at hu
      injection hu with hu
      subst hu
      rw [sec_put _ _ _ hy]
      refine ⟨_, 64, by rw [List.length_map, pad_len _ hy], by rw [List.length_map, pad_len _ hy]; exact Nat.le_refl _, .inr ⟨z, 0, rfl, .inr hz, fun j u hu => ?_⟩⟩
      have hj : j < 64 := by
        have := (List.getElem?_eq_some_iff.1 hu).1
        rwa [List.length_map, pad_len _ hy] at this
      have hzl : z < wr.heap.size := World.block_lt_of_cell? _ _ (hzr j hj)
      rw [Nat.zero_add, World.cell?_setCell_other _ _ _ _ (by intro e; injection e; omega), World.cell?_of_block (w := wr) (hg.block z hzl (by simp)), hzr j hj, ← hu, List.getElem?_map]
      congr 1
      simp only [pad]
      by_cases hb : j < ys.length
      · rw [List.getElem?_append_left hb, List.getD, List.getElem?_eq_getElem hb]; rfl
      · rw [List.getElem?_append_right (by omega), List.getD, List.getElem?_eq_none (by omega), List.getElem?_replicate, if_pos (by omega)]; rfl
    · rw [List.getElem?_set_ne (Ne.symm hti)] at hu
      rw [sec_put_other _ _ _ _ hti]
      exact ((hr t u hu).only (Only.of_below (F := fun _ => False) b5) (fun _ _ h => h)).kind (fun _ _ h => .inl h)

/-- The new row, up to place k. -/
def RowInv (z k : Nat) (bs : List Int) (w2 wr : World) : Prop :=
  (∀ t, t < 64 → wr.cell? ⟨z, t, none⟩ = some (.int .u8 ((bs.take k).getD t 0))) ∧ (∀ t, wr.frozen? ⟨z, t, none⟩ = false) ∧ Only (· = z) w2 wr
theorem row_step {z k : Nat} {bs : List Int} {w2 wr : World} (h : RowInv z k bs w2 wr) (hk : k < bs.length) : RowInv z (k + 1) bs w2 (wr.setCell ⟨z, k, none⟩ (.int .u8 bs[k])) := by
  obtain ⟨hc, hf, ho⟩ := h
  refine ⟨fun t ht => ?_, fun t => ?_, ho.setCell ⟨z, k, none⟩ (.inl rfl) _⟩
  · by_cases e : t = k
    · subst e
      rw [World.cell?_setCell_same _ _ _ (hc t ht)]
      simp [List.getD, List.getElem?_eq_getElem hk]
    · rw [World.cell?_setCell_other _ _ _ _ (by intro h; injection h; omega), hc t ht]
      congr 2
      simp only [List.getD, List.getElem?_take]
      by_cases h1 : t < k
      · rw [if_pos h1, if_pos (by omega)]
      · rw [if_neg h1, if_neg (by omega)]
  · rw [World.frozen?_setCell]; exact hf t


set_option maxHeartbeats 1000000 in
theorem step_write {N M : Nat → Prop} (v : Value) (n : Nat) (D : Nat → Int) (i : Nat) (bv : Value) (bs : List Int) (w : World) (h : RefAt N w v n D) (hn : n ≤ 20000) (hi : i < n) (hb : Bts M w bv bs) (hl : bs.length ≤ 64) :
    Calls Try.prog 12 #[v, .agg #[.int .i64 2, .int .i64 i, bv]] w (StepPost N n D 2 i bs w) := by
  obtain ⟨i30, hi30, hz30, hz31, hz32⟩ := info_parts Try.info30
  obtain ⟨a, c, rfl, hc⟩ := h.form
  obtain ⟨ba, bc, rfl, _⟩ := hb.form
  obtain ⟨sb, so, ra, rc, rfl, _, _⟩ := h.at_ hi
  have H := Lib.hid h
  have HB := Lib.hid hb
  clear h hb
  have hi1 : ¬ (i : Int) < 0 := by omega
  have hi2 : ¬ (n : Int) ≤ i := by omega
  have hi3 : (i : Int) < n := by omega
  have hm := mk_bytes (w.alloc (.cells #[.int .i64 2, .int .i64 i, .slice ba bs.length bc] 34)) 64 (by omega)
  have hb2 : Below w.heap.size w ((w.alloc (.cells #[.int .i64 2, .int .i64 i, .slice ba bs.length bc] 34)).alloc (.cells (madeCells (Value.int .u8 0).cells 64) 5)) := ((Below.refl _ _).alloc (Nat.le_refl _) _).alloc (by simp) _
  have hrow : RowInv (w.heap.size + 1) 0 bs ((w.alloc (.cells #[.int .i64 2, .int .i64 i, .slice ba bs.length bc] 34)).alloc (.cells (madeCells (Value.int .u8 0).cells 64) 5)) ((w.alloc (.cells #[.int .i64 2, .int .i64 i, .slice ba bs.length bc] 34)).alloc (.cells (madeCells (Value.int .u8 0).cells 64) 5)) :=
    ⟨fun t ht => by
      have := made_cell (w.alloc (.cells #[.int .i64 2, .int .i64 i, .slice ba bs.length bc] 34)) 64 t ht
      rw [show (w.alloc (.cells #[.int .i64 2, .int .i64 i, .slice ba bs.length bc] 34)).heap.size = w.heap.size + 1 by simp] at this
      rw [this]; rfl, fun t => by
      have := frozen_top (w.alloc (.cells #[.int .i64 2, .int .i64 i, .slice ba bs.length bc] 34)) (madeCells (Value.int .u8 0).cells 64) 5 t
      rwa [show (w.alloc (.cells #[.int .i64 2, .int .i64 i, .slice ba bs.length bc] 34)).heap.size = w.heap.size + 1 by simp] at this, Only.refl _ _⟩
  have hbox : ∀ t, ((w.alloc (.cells #[.int .i64 2, .int .i64 i, .slice ba bs.length bc] 34)).alloc (.cells (madeCells (Value.int .u8 0).cells 64) 5)).cell? ⟨w.heap.size, t, none⟩ = #[Value.int .i64 2, .int .i64 i, .slice ba bs.length bc][t]? := fun t => by
    rw [World.cell?_alloc_lt _ _ _ (by simp), World.cell?_alloc_at _ _ _ _ rfl]
  have hsz : w.heap.size + 1 < ((w.alloc (.cells #[.int .i64 2, .int .i64 i, .slice ba bs.length bc] 34)).alloc (.cells (madeCells (Value.int .u8 0).cells 64) 5)).heap.size := by simp
  rw [show (w.alloc (.cells #[.int .i64 2, .int .i64 i, .slice ba bs.length bc] 34)).heap.size = w.heap.size + 1 by simp] at hm
  generalize (w.alloc (.cells #[.int .i64 2, .int .i64 i, .slice ba bs.length bc] 34)).alloc (.cells (madeCells (Value.int .u8 0).cells 64) 5) = w2 at hm hb2 hrow hbox hsz
  have hm : (Instr.makeSlice 30 (.int .i64 64) (.int .i64 64)).run Try.prog (w.alloc (.cells #[.int .i64 2, .int .i64 i, .slice ba bs.length bc] 34)) = .ok (.slice (some ⟨w.heap.size + 1, 0, none⟩) 64 64) w2 := hm
  have HBX := Lib.hid hbox
  have HB2 := Lib.hid hb2
  have HR := Lib.hid hrow
  clear hb2 hrow hbox
  have hl' : ¬ (64 : Int) < bs.length := by omega
  go_enter Try.func12, Try.ntmps12
  go_wp2
  clear hm
  go_loopw [8] (fun j wr => ∃ k : Nat, k ≤ bs.length ∧ j = .int .i64 k ∧ RowInv (w.heap.size + 1) k bs w2 wr) (fun j _ => bs.length - (intOf j).toNat)
  case atStart => exact ⟨0, Nat.zero_le _, rfl, HR.out⟩
  case round =>
    obtain ⟨k, hk, rfl, hri⟩ := hrel
    have RI := Lib.hid hri
    clear hri
    have BX : Hid (∀ t, wr.cell? ⟨w.heap.size, t, none⟩ = #[Value.int .i64 2, .int .i64 i, .slice ba bs.length bc][t]?) := fun t => (RI.out.2.2.cell (p := ⟨w.heap.size, t, none⟩) (by show w.heap.size < w2.heap.size; omega) (by show ¬ w.heap.size = w.heap.size + 1; omega)).trans (HBX.out t)
    have k0 : wr.cell? ⟨w.heap.size, 0, none⟩ = some (.int .i64 2) := BX.out 0
    have k1 : wr.cell? ⟨w.heap.size, 1, none⟩ = some (.int .i64 i) := BX.out 1
    have k2 : wr.cell? ⟨w.heap.size, 2, none⟩ = some (.slice ba bs.length bc) := BX.out 2
    have BW : Hid (Below w.heap.size w wr) := HB2.out.trans (RI.out.2.2.below (fun q hq h => by omega) (by omega))
    by_cases hlt : k < bs.length
    · have hlt' : (k : Int) < bs.length := by omega
      obtain ⟨b, off, c', he, _, _, hbl, hcb⟩ := Vals.at_ (k := k) HB.out (by simpa using hlt)
      rw [List.length_map] at he
      injection he with e1 e2 e3
      subst e1 e3
      rw [List.getElem_map] at hcb
      have hcb' : wr.cell? ⟨b, off + k, none⟩ = some (.int .u8 bs[k]) := (BW.out.cell (p := ⟨b, off + k, none⟩) hbl).trans hcb
      have RS := Lib.hid (row_step RI.out hlt)
      have hzc := RI.out.1 k (by omega)
      have hzf := RI.out.2.1 k
      generalize bs[k] = q at hcb' RS hcb
      generalize (bs.take k).getD k 0 = old at hzc
      clear hcb
      go_wp2_with fail
      go_roundw
      case rel => exact ⟨k + 1, by omega, by go_num, RS.out⟩
      case measure => simp [intOf]; omega
    · have hke : Hid (bs.take k = bs) := List.take_of_length_le (by omega)
      obtain ⟨vs, hvl, hvv, hvr⟩ := H.out
      have hsrc : Hid (∀ j u, vs[j]? = some u → wr.cell? ((⟨sb, so, none⟩ : Addr).add j) = some u) := fun j u hu => by
        obtain ⟨a', c', he, _, h'⟩ := hvv
        injection he with e1 e2 e3
        rcases h' with h' | ⟨b', o', ha, _, h'⟩
        · rw [h'] at hu; simp at hu
        · rw [← e1] at ha
          injection ha with ha
          injection ha with e4 e5
          subst e4 e5
          rw [add_plain, BW.out.cell (p := ⟨sb, so + j, none⟩) (World.block_lt_of_cell? _ _ (h' j u hu))]
          exact h' j u hu
      have h1c : Hid (∀ u ∈ vs, u.oneCell' = true) := fun u hu => by
        obtain ⟨t, ht, rfl⟩ := List.mem_iff_getElem.1 hu
        obtain ⟨a', c', he, _⟩ := (hvr t _ (List.getElem?_eq_getElem ht)).form
        rw [he]; rfl
      have VR := Lib.hid hvr
      have VL := Lib.hid hvl
      clear hvv hvr hvl
      go_wp2_with (at_builtin; refine wpList_append_own _ rfl _ _ 28 rfl wr.heap.size 30 i30 (.slice none 0 0) 1 24 Try.underlying28 hi30 hz30 hz31 hz32 rfl (by decide) _ 0 [] rfl ?c0 ⟨sb, so, none⟩ n c vs rfl ?c6 ?c1 ?c2 ?c3 ?c4 ?c5 ?_)
      case c0 => exact World.ownsRow_nil _ _ _ _
      case c6 => rw [VL.out]; omega
      case c1 => exact hsrc.out
      case c2 => exact h1c.out
      case c3 => unfold maxLen; omega
      case c4 => omega
      case c5 => exact Nat.le_refl _
      intro v' w4 hown' hgrow _
      have hown' : w4.ownsRow wr.heap.size 30 1 v' n vs := by simpa using hown'
      obtain ⟨g, cap, rfl⟩ : ∃ g cap, v' = .slice (some ⟨g, 0, none⟩) n cap := by
        rcases hown'.2 with ⟨_, h0⟩ | ⟨g, cap, _, hv, _⟩
        · omega
        · exact ⟨g, cap, hv⟩
      have hgl := (hown'.lt g rfl).1
      have SH := Lib.hid (step_shut (z := w.heap.size + 1) (ys := bs) VL.out hi hl BW.out VR.out (by omega) (fun t ht => by have := RI.out.1 t ht; rwa [hke.out] at this) hown' hgrow)
      have hck : w4.cell? ⟨g, i, none⟩ = some (vs[i]'(by have := VL.out; omega)) := by
        have := hown'.cells (g := g) rfl i _ (List.getElem?_eq_getElem (by have := VL.out; omega))
        rwa [add_plain, Nat.zero_add] at this
      have hfk : w4.frozen? ⟨g, i, none⟩ = false := by
        rcases hown'.2 with ⟨he, _⟩ | ⟨g', cap', cur, he, _, hh, _⟩
        · cases he
        · injection he with e1
          injection e1 with e1
          injection e1 with e1
          subst e1
          unfold World.frozen?
          simp only [hh]
          simp
      have j1 : w4.cell? ⟨w.heap.size, 1, none⟩ = some (.int .i64 i) := (World.cell?_of_block (w := wr) (hgrow.block w.heap.size (by have := RI.out.2.2.size; omega) (by simp [Value.ownBlock]))).trans k1
      generalize vs[i]'(by have := VL.out; omega) = old at hck
      clear hown' hgrow k0 k1 k2
      go_wp2_with fail
      go_ret3
      exact step_told (told_write hi hl) rfl SH.out.1 (none_bts _) SH.out.2

set_option maxHeartbeats 1000000 in
theorem step_clear_long {N M : Nat → Prop} (v : Value) (n : Nat) (D : Nat → Int) (k : Int) (i : Nat) (bv : Value) (bs : List Int) (w : World) (h : RefAt N w v n D) (hn : n ≤ 20000) (hi : i < n) (hb : Bts M w bv bs) (hl : 64 < bs.length) (hm1 : bs.length ≤ maxLen) (h1 : k ≠ 1) (h2 : k ≠ 2) :
    Calls Try.prog 12 #[v, .agg #[.int .i64 k, .int .i64 i, bv]] w (StepPost N n D k i bs w) := by
  obtain ⟨i30, hi30, hz30, hz31, hz32⟩ := info_parts Try.info30
  obtain ⟨a, c, rfl, hc⟩ := h.form
  obtain ⟨ba, bc, rfl, _⟩ := hb.form
  obtain ⟨sb, so, ra, rc, rfl, _, _⟩ := h.at_ hi
  have H := Lib.hid h
  have HB := Lib.hid hb
  clear h hb
  have hi1 : ¬ (i : Int) < 0 := by omega
  have hi2 : ¬ (n : Int) ≤ i := by omega
  have hi3 : (i : Int) < n := by omega
  have hm := mk_bytes (w.alloc (.cells #[.int .i64 k, .int .i64 i, .slice ba bs.length bc] 34)) 64 (by omega)
  have hb2 : Below w.heap.size w ((w.alloc (.cells #[.int .i64 k, .int .i64 i, .slice ba bs.length bc] 34)).alloc (.cells (madeCells (Value.int .u8 0).cells 64) 5)) := ((Below.refl _ _).alloc (Nat.le_refl _) _).alloc (by simp) _
  have hrow : RowInv (w.heap.size + 1) 0 bs ((w.alloc (.cells #[.int .i64 k, .int .i64 i, .slice ba bs.length bc] 34)).alloc (.cells (madeCells (Value.int .u8 0).cells 64) 5)) ((w.alloc (.cells #[.int .i64 k, .int .i64 i, .slice ba bs.length bc] 34)).alloc (.cells (madeCells (Value.int .u8 0).cells 64) 5)) :=
    ⟨fun t ht => by
      have := made_cell (w.alloc (.cells #[.int .i64 k, .int .i64 i, .slice ba bs.length bc] 34)) 64 t ht
      rw [show (w.alloc (.cells #[.int .i64 k, .int .i64 i, .slice ba bs.length bc] 34)).heap.size = w.heap.size + 1 by simp] at this
      rw [this]; rfl, fun t => by
      have := frozen_top (w.alloc (.cells #[.int .i64 k, .int .i64 i, .slice ba bs.length bc] 34)) (madeCells (Value.int .u8 0).cells 64) 5 t
      rwa [show (w.alloc (.cells #[.int .i64 k, .int .i64 i, .slice ba bs.length bc] 34)).heap.size = w.heap.size + 1 by simp] at this, Only.refl _ _⟩
  have hbox : ∀ t, ((w.alloc (.cells #[.int .i64 k, .int .i64 i, .slice ba bs.length bc] 34)).alloc (.cells (madeCells (Value.int .u8 0).cells 64) 5)).cell? ⟨w.heap.size, t, none⟩ = #[Value.int .i64 k, .int .i64 i, .slice ba bs.length bc][t]? := fun t => by
    rw [World.cell?_alloc_lt _ _ _ (by simp), World.cell?_alloc_at _ _ _ _ rfl]
  have hsz : w.heap.size + 1 < ((w.alloc (.cells #[.int .i64 k, .int .i64 i, .slice ba bs.length bc] 34)).alloc (.cells (madeCells (Value.int .u8 0).cells 64) 5)).heap.size := by simp
  rw [show (w.alloc (.cells #[.int .i64 k, .int .i64 i, .slice ba bs.length bc] 34)).heap.size = w.heap.size + 1 by simp] at hm
  generalize (w.alloc (.cells #[.int .i64 k, .int .i64 i, .slice ba bs.length bc] 34)).alloc (.cells (madeCells (Value.int .u8 0).cells 64) 5) = w2 at hm hb2 hrow hbox hsz
  have hm : (Instr.makeSlice 30 (.int .i64 64) (.int .i64 64)).run Try.prog (w.alloc (.cells #[.int .i64 k, .int .i64 i, .slice ba bs.length bc] 34)) = .ok (.slice (some ⟨w.heap.size + 1, 0, none⟩) 64 64) w2 := hm
  have HBX := Lib.hid hbox
  have HB2 := Lib.hid hb2
  have HR := Lib.hid hrow
  clear hb2 hrow hbox
  have hl' : (64 : Int) < bs.length := by omega
  have h1' : (k == 1) = false := by simpa using h1
  have h2' : (k == 2) = false := by simpa using h2
  unfold maxLen at hm1
  have H12 : Hid (k ≠ 1 ∧ k ≠ 2) := ⟨h1, h2⟩
  clear h1 h2
  go_enter Try.func12, Try.ntmps12
  go_wp2
  clear hm
  go_loopw [8] (fun j wr => j = .int .i64 0 ∧ RowInv (w.heap.size + 1) 0 bs w2 wr) (fun _ _ => 0)
  case atStart => exact ⟨rfl, HR.out⟩
  case round =>
    obtain ⟨rfl, hri⟩ := hrel
    have RI := Lib.hid hri
    clear hri
    have BX : Hid (∀ t, wr.cell? ⟨w.heap.size, t, none⟩ = #[Value.int .i64 k, .int .i64 i, .slice ba bs.length bc][t]?) := fun t => (RI.out.2.2.cell (p := ⟨w.heap.size, t, none⟩) (by show w.heap.size < w2.heap.size; omega) (by show ¬ w.heap.size = w.heap.size + 1; omega)).trans (HBX.out t)
    have k0 : wr.cell? ⟨w.heap.size, 0, none⟩ = some (.int .i64 k) := BX.out 0
    have k1 : wr.cell? ⟨w.heap.size, 1, none⟩ = some (.int .i64 i) := BX.out 1
    have k2 : wr.cell? ⟨w.heap.size, 2, none⟩ = some (.slice ba bs.length bc) := BX.out 2
    have BW : Hid (Below w.heap.size w wr) := HB2.out.trans (RI.out.2.2.below (fun q hq h => by omega) (by omega))
    by_cases hz : (0 : Int) < bs.length
    · have hz' : 0 < bs.length := by omega
      obtain ⟨vs, hvl, hvv, hvr⟩ := H.out
      have hsrc : Hid (∀ j u, vs[j]? = some u → wr.cell? ((⟨sb, so, none⟩ : Addr).add j) = some u) := fun j u hu => by
        obtain ⟨a', c', he, _, h'⟩ := hvv
        injection he with e1 e2 e3
        rcases h' with h' | ⟨b', o', ha, _, h'⟩
        · rw [h'] at hu; simp at hu
        · rw [← e1] at ha
          injection ha with ha
          injection ha with e4 e5
          subst e4 e5
          rw [add_plain, BW.out.cell (p := ⟨sb, so + j, none⟩) (World.block_lt_of_cell? _ _ (h' j u hu))]
          exact h' j u hu
      have h1c : Hid (∀ u ∈ vs, u.oneCell' = true) := fun u hu => by
        obtain ⟨t, ht, rfl⟩ := List.mem_iff_getElem.1 hu
        obtain ⟨a', c', he, _⟩ := (hvr t _ (List.getElem?_eq_getElem ht)).form
        rw [he]; rfl
      have VR := Lib.hid hvr
      have VL := Lib.hid hvl
      clear hvv hvr hvl
      go_wp2_with (at_builtin; refine wpList_append_own _ rfl _ _ 28 rfl wr.heap.size 30 i30 (.slice none 0 0) 1 24 Try.underlying28 hi30 hz30 hz31 hz32 rfl (by decide) _ 0 [] rfl ?c0 ⟨sb, so, none⟩ n c vs rfl ?c6 ?c1 ?c2 ?c3 ?c4 ?c5 ?_)
      case c0 => exact World.ownsRow_nil _ _ _ _
      case c6 => rw [VL.out]; omega
      case c1 => exact hsrc.out
      case c2 => exact h1c.out
      case c3 => unfold maxLen; omega
      case c4 => omega
      case c5 => exact Nat.le_refl _
      intro v' w4 hown' hgrow _
      have hown' : w4.ownsRow wr.heap.size 30 1 v' n vs := by simpa using hown'
      obtain ⟨g, cap, rfl⟩ : ∃ g cap, v' = .slice (some ⟨g, 0, none⟩) n cap := by
        rcases hown'.2 with ⟨_, h0⟩ | ⟨g, cap, _, hv, _⟩
        · omega
        · exact ⟨g, cap, hv⟩
      have hgl := (hown'.lt g rfl).1
      have SH := Lib.hid (step_shut (z := w.heap.size + 1) (ys := []) VL.out hi (by simp) BW.out VR.out (by omega) (fun t ht => RI.out.1 t ht) hown' hgrow)
      have hck : w4.cell? ⟨g, i, none⟩ = some (vs[i]'(by have := VL.out; omega)) := by
        have := hown'.cells (g := g) rfl i _ (List.getElem?_eq_getElem (by have := VL.out; omega))
        rwa [add_plain, Nat.zero_add] at this
      have hfk : w4.frozen? ⟨g, i, none⟩ = false := by
        rcases hown'.2 with ⟨he, _⟩ | ⟨g', cap', cur, he, _, hh, _⟩
        · cases he
        · injection he with e1
          injection e1 with e1
          injection e1 with e1
          subst e1
          unfold World.frozen?
          simp only [hh]
          simp
      have j1 : w4.cell? ⟨w.heap.size, 1, none⟩ = some (.int .i64 i) := (World.cell?_of_block (w := wr) (hgrow.block w.heap.size (by have := RI.out.2.2.size; omega) (by simp [Value.ownBlock]))).trans k1
      generalize vs[i]'(by have := VL.out; omega) = old at hck
      clear hown' hgrow k0 k1 k2
      go_wp2_with fail
      go_ret3
      exact step_told (told_clear hi H12.out.1 H12.out.2) rfl SH.out.1 (none_bts _) SH.out.2
    · exact absurd hl' (by omega)

set_option maxHeartbeats 1000000 in
theorem step_clear_short {N M : Nat → Prop} (v : Value) (n : Nat) (D : Nat → Int) (k : Int) (i : Nat) (bv : Value) (bs : List Int) (w : World) (h : RefAt N w v n D) (hn : n ≤ 20000) (hi : i < n) (hb : Bts M w bv bs) (hl : bs.length ≤ 64) (h1 : k ≠ 1) (h2 : k ≠ 2) :
    Calls Try.prog 12 #[v, .agg #[.int .i64 k, .int .i64 i, bv]] w (StepPost N n D k i bs w) := by
  obtain ⟨i30, hi30, hz30, hz31, hz32⟩ := info_parts Try.info30
  obtain ⟨a, c, rfl, hc⟩ := h.form
  obtain ⟨ba, bc, rfl, _⟩ := hb.form
  obtain ⟨sb, so, ra, rc, rfl, _, _⟩ := h.at_ hi
  have H := Lib.hid h
  have HB := Lib.hid hb
  clear h hb
  have hi1 : ¬ (i : Int) < 0 := by omega
  have hi2 : ¬ (n : Int) ≤ i := by omega
  have hi3 : (i : Int) < n := by omega
  have hm := mk_bytes (w.alloc (.cells #[.int .i64 k, .int .i64 i, .slice ba bs.length bc] 34)) 64 (by omega)
  have hb2 : Below w.heap.size w ((w.alloc (.cells #[.int .i64 k, .int .i64 i, .slice ba bs.length bc] 34)).alloc (.cells (madeCells (Value.int .u8 0).cells 64) 5)) := ((Below.refl _ _).alloc (Nat.le_refl _) _).alloc (by simp) _
  have hrow : RowInv (w.heap.size + 1) 0 bs ((w.alloc (.cells #[.int .i64 k, .int .i64 i, .slice ba bs.length bc] 34)).alloc (.cells (madeCells (Value.int .u8 0).cells 64) 5)) ((w.alloc (.cells #[.int .i64 k, .int .i64 i, .slice ba bs.length bc] 34)).alloc (.cells (madeCells (Value.int .u8 0).cells 64) 5)) :=
    ⟨fun t ht => by
      have := made_cell (w.alloc (.cells #[.int .i64 k, .int .i64 i, .slice ba bs.length bc] 34)) 64 t ht
      rw [show (w.alloc (.cells #[.int .i64 k, .int .i64 i, .slice ba bs.length bc] 34)).heap.size = w.heap.size + 1 by simp] at this
      rw [this]; rfl, fun t => by
      have := frozen_top (w.alloc (.cells #[.int .i64 k, .int .i64 i, .slice ba bs.length bc] 34)) (madeCells (Value.int .u8 0).cells 64) 5 t
      rwa [show (w.alloc (.cells #[.int .i64 k, .int .i64 i, .slice ba bs.length bc] 34)).heap.size = w.heap.size + 1 by simp] at this, Only.refl _ _⟩
  have hbox : ∀ t, ((w.alloc (.cells #[.int .i64 k, .int .i64 i, .slice ba bs.length bc] 34)).alloc (.cells (madeCells (Value.int .u8 0).cells 64) 5)).cell? ⟨w.heap.size, t, none⟩ = #[Value.int .i64 k, .int .i64 i, .slice ba bs.length bc][t]? := fun t => by
    rw [World.cell?_alloc_lt _ _ _ (by simp), World.cell?_alloc_at _ _ _ _ rfl]
  have hsz : w.heap.size + 1 < ((w.alloc (.cells #[.int .i64 k, .int .i64 i, .slice ba bs.length bc] 34)).alloc (.cells (madeCells (Value.int .u8 0).cells 64) 5)).heap.size := by simp
  rw [show (w.alloc (.cells #[.int .i64 k, .int .i64 i, .slice ba bs.length bc] 34)).heap.size = w.heap.size + 1 by simp] at hm
  generalize (w.alloc (.cells #[.int .i64 k, .int .i64 i, .slice ba bs.length bc] 34)).alloc (.cells (madeCells (Value.int .u8 0).cells 64) 5) = w2 at hm hb2 hrow hbox hsz
  have hm : (Instr.makeSlice 30 (.int .i64 64) (.int .i64 64)).run Try.prog (w.alloc (.cells #[.int .i64 k, .int .i64 i, .slice ba bs.length bc] 34)) = .ok (.slice (some ⟨w.heap.size + 1, 0, none⟩) 64 64) w2 := hm
  have HBX := Lib.hid hbox
  have HB2 := Lib.hid hb2
  have HR := Lib.hid hrow
  clear hb2 hrow hbox
  have hl' : ¬ (64 : Int) < bs.length := by omega
  have h1' : (k == 1) = false := by simpa using h1
  have h2' : (k == 2) = false := by simpa using h2
  have H12 : Hid (k ≠ 1 ∧ k ≠ 2) := ⟨h1, h2⟩
  clear h1 h2
  go_enter Try.func12, Try.ntmps12
  go_wp2
  clear hm
  go_loopw [8] (fun j wr => j = .int .i64 0 ∧ RowInv (w.heap.size + 1) 0 bs w2 wr) (fun _ _ => 0)
  case atStart => exact ⟨rfl, HR.out⟩
  case round =>
    obtain ⟨rfl, hri⟩ := hrel
    have RI := Lib.hid hri
    clear hri
    have BX : Hid (∀ t, wr.cell? ⟨w.heap.size, t, none⟩ = #[Value.int .i64 k, .int .i64 i, .slice ba bs.length bc][t]?) := fun t => (RI.out.2.2.cell (p := ⟨w.heap.size, t, none⟩) (by show w.heap.size < w2.heap.size; omega) (by show ¬ w.heap.size = w.heap.size + 1; omega)).trans (HBX.out t)
    have k0 : wr.cell? ⟨w.heap.size, 0, none⟩ = some (.int .i64 k) := BX.out 0
    have k1 : wr.cell? ⟨w.heap.size, 1, none⟩ = some (.int .i64 i) := BX.out 1
    have k2 : wr.cell? ⟨w.heap.size, 2, none⟩ = some (.slice ba bs.length bc) := BX.out 2
    have BW : Hid (Below w.heap.size w wr) := HB2.out.trans (RI.out.2.2.below (fun q hq h => by omega) (by omega))
    by_cases hz : (0 : Int) < bs.length
    · have hz' : 0 < bs.length := by omega
      obtain ⟨vs, hvl, hvv, hvr⟩ := H.out
      have hsrc : Hid (∀ j u, vs[j]? = some u → wr.cell? ((⟨sb, so, none⟩ : Addr).add j) = some u) := fun j u hu => by
        obtain ⟨a', c', he, _, h'⟩ := hvv
        injection he with e1 e2 e3
        rcases h' with h' | ⟨b', o', ha, _, h'⟩
        · rw [h'] at hu; simp at hu
        · rw [← e1] at ha
          injection ha with ha
          injection ha with e4 e5
          subst e4 e5
          rw [add_plain, BW.out.cell (p := ⟨sb, so + j, none⟩) (World.block_lt_of_cell? _ _ (h' j u hu))]
          exact h' j u hu
      have h1c : Hid (∀ u ∈ vs, u.oneCell' = true) := fun u hu => by
        obtain ⟨t, ht, rfl⟩ := List.mem_iff_getElem.1 hu
        obtain ⟨a', c', he, _⟩ := (hvr t _ (List.getElem?_eq_getElem ht)).form
        rw [he]; rfl
      have VR := Lib.hid hvr
      have VL := Lib.hid hvl
      clear hvv hvr hvl
      go_wp2_with (at_builtin; refine wpList_append_own _ rfl _ _ 28 rfl wr.heap.size 30 i30 (.slice none 0 0) 1 24 Try.underlying28 hi30 hz30 hz31 hz32 rfl (by decide) _ 0 [] rfl ?c0 ⟨sb, so, none⟩ n c vs rfl ?c6 ?c1 ?c2 ?c3 ?c4 ?c5 ?_)
      case c0 => exact World.ownsRow_nil _ _ _ _
      case c6 => rw [VL.out]; omega
      case c1 => exact hsrc.out
      case c2 => exact h1c.out
      case c3 => unfold maxLen; omega
      case c4 => omega
      case c5 => exact Nat.le_refl _
      intro v' w4 hown' hgrow _
      have hown' : w4.ownsRow wr.heap.size 30 1 v' n vs := by simpa using hown'
      obtain ⟨g, cap, rfl⟩ : ∃ g cap, v' = .slice (some ⟨g, 0, none⟩) n cap := by
        rcases hown'.2 with ⟨_, h0⟩ | ⟨g, cap, _, hv, _⟩
        · omega
        · exact ⟨g, cap, hv⟩
      have hgl := (hown'.lt g rfl).1
      have SH := Lib.hid (step_shut (z := w.heap.size + 1) (ys := []) VL.out hi (by simp) BW.out VR.out (by omega) (fun t ht => RI.out.1 t ht) hown' hgrow)
      have hck : w4.cell? ⟨g, i, none⟩ = some (vs[i]'(by have := VL.out; omega)) := by
        have := hown'.cells (g := g) rfl i _ (List.getElem?_eq_getElem (by have := VL.out; omega))
        rwa [add_plain, Nat.zero_add] at this
      have hfk : w4.frozen? ⟨g, i, none⟩ = false := by
        rcases hown'.2 with ⟨he, _⟩ | ⟨g', cap', cur, he, _, hh, _⟩
        · cases he
        · injection he with e1
          injection e1 with e1
          injection e1 with e1
          subst e1
          unfold World.frozen?
          simp only [hh]
          simp
      have j1 : w4.cell? ⟨w.heap.size, 1, none⟩ = some (.int .i64 i) := (World.cell?_of_block (w := wr) (hgrow.block w.heap.size (by have := RI.out.2.2.size; omega) (by simp [Value.ownBlock]))).trans k1
      generalize vs[i]'(by have := VL.out; omega) = old at hck
      clear hown' hgrow k0 k1 k2
      go_wp2_with fail
      go_ret3
      exact step_told (told_clear hi H12.out.1 H12.out.2) rfl SH.out.1 (none_bts _) SH.out.2
    · have t1 : decide ((0 : Int) < bs.length) = false := decide_eq_false hz
      have t2 : decide (0 < bs.length) = false := decide_eq_false (by omega)
      clear hz
      obtain ⟨vs, hvl, hvv, hvr⟩ := H.out
      have hsrc : Hid (∀ j u, vs[j]? = some u → wr.cell? ((⟨sb, so, none⟩ : Addr).add j) = some u) := fun j u hu => by
        obtain ⟨a', c', he, _, h'⟩ := hvv
        injection he with e1 e2 e3
        rcases h' with h' | ⟨b', o', ha, _, h'⟩
        · rw [h'] at hu; simp at hu
        · rw [← e1] at ha
          injection ha with ha
          injection ha with e4 e5
          subst e4 e5
          rw [add_plain, BW.out.cell (p := ⟨sb, so + j, none⟩) (World.block_lt_of_cell? _ _ (h' j u hu))]
          exact h' j u hu
      have h1c : Hid (∀ u ∈ vs, u.oneCell' = true) := fun u hu => by
        obtain ⟨t, ht, rfl⟩ := List.mem_iff_getElem.1 hu
        obtain ⟨a', c', he, _⟩ := (hvr t _ (List.getElem?_eq_getElem ht)).form
        rw [he]; rfl
      have VR := Lib.hid hvr
      have VL := Lib.hid hvl
      clear hvv hvr hvl
      go_wp2_with (at_builtin; refine wpList_append_own _ rfl _ _ 28 rfl wr.heap.size 30 i30 (.slice none 0 0) 1 24 Try.underlying28 hi30 hz30 hz31 hz32 rfl (by decide) _ 0 [] rfl ?c0 ⟨sb, so, none⟩ n c vs rfl ?c6 ?c1 ?c2 ?c3 ?c4 ?c5 ?_)
      case c0 => exact World.ownsRow_nil _ _ _ _
      case c6 => rw [VL.out]; omega
      case c1 => exact hsrc.out
      case c2 => exact h1c.out
      case c3 => unfold maxLen; omega
      case c4 => omega
      case c5 => exact Nat.le_refl _
      intro v' w4 hown' hgrow _
      have hown' : w4.ownsRow wr.heap.size 30 1 v' n vs := by simpa using hown'
      obtain ⟨g, cap, rfl⟩ : ∃ g cap, v' = .slice (some ⟨g, 0, none⟩) n cap := by
        rcases hown'.2 with ⟨_, h0⟩ | ⟨g, cap, _, hv, _⟩
        · omega
        · exact ⟨g, cap, hv⟩
      have hgl := (hown'.lt g rfl).1
      have SH := Lib.hid (step_shut (z := w.heap.size + 1) (ys := []) VL.out hi (by simp) BW.out VR.out (by omega) (fun t ht => RI.out.1 t ht) hown' hgrow)
      have hck : w4.cell? ⟨g, i, none⟩ = some (vs[i]'(by have := VL.out; omega)) := by
        have := hown'.cells (g := g) rfl i _ (List.getElem?_eq_getElem (by have := VL.out; omega))
        rwa [add_plain, Nat.zero_add] at this
      have hfk : w4.frozen? ⟨g, i, none⟩ = false := by
        rcases hown'.2 with ⟨he, _⟩ | ⟨g', cap', cur, he, _, hh, _⟩
        · cases he
        · injection he with e1
          injection e1 with e1
          injection e1 with e1
          subst e1
          unfold World.frozen?
          simp only [hh]
          simp
      have j1 : w4.cell? ⟨w.heap.size, 1, none⟩ = some (.int .i64 i) := (World.cell?_of_block (w := wr) (hgrow.block w.heap.size (by have := RI.out.2.2.size; omega) (by simp [Value.ownBlock]))).trans k1
      generalize vs[i]'(by have := VL.out; omega) = old at hck
      clear hown' hgrow k0 k1 k2
      go_wp2_with fail
      go_ret3
      exact step_told (told_clear hi H12.out.1 H12.out.2) rfl SH.out.1 (none_bts _) SH.out.2

/-- What leaves the sectors as they are. -/
theorem RefAt.stay {N : Nat → Prop} {w w' : World} {v : Value} {n : Nat} {D : Nat → Int} (h : RefAt N w v n D) (b : Below w.heap.size w w') : RefAt (fun q => N q ∨ w.heap.size ≤ q) w' v n D :=
  (h.only (Only.of_below (F := fun _ => False) b) (fun _ _ h => h)).kind (fun _ _ h => .inl h)

set_option maxHeartbeats 1000000 in
theorem step_any {N M : Nat → Prop} (v : Value) (n : Nat) (D : Nat → Int) (k f : Int) (bv : Value) (bs : List Int) (w : World) (h : RefAt N w v n D) (hn : n ≤ 20000) (hb : Bts M w bv bs) (hm : bs.length ≤ maxLen) :
    Calls Try.prog 12 #[v, .agg #[.int .i64 k, .int .i64 f, bv]] w (StepPost N n D k f bs w) := by
  by_cases hi : 0 ≤ f ∧ f < n
  · obtain ⟨i, rfl⟩ := Int.eq_ofNat_of_zero_le hi.1
    have hin : i < n := by omega
    by_cases h1 : k = 1
    · subst h1
      obtain ⟨a, c, rfl, hc⟩ := h.form
      obtain ⟨ba, bc, rfl, _⟩ := hb.form
      obtain ⟨sb, so, ra, rc, rfl, hcell, hrow⟩ := h.at_ hin
      have b1 : ∀ o, Below w.heap.size w (w.alloc o) := fun o => (Below.refl _ _).alloc (Nat.le_refl _) o
      have hcell' : ∀ o, (w.alloc o).cell? ⟨sb, so + i, none⟩ = some (.slice ra 64 rc) := fun o => ((b1 o).cell (p := ⟨sb, so + i, none⟩) (World.block_lt_of_cell? _ _ hcell)).trans hcell
      have hcell'' := hcell' (.cells #[.int .i64 1, .int .i64 i, .slice ba bs.length bc] 34)
      have HC := Lib.hid (fun o => copy_any (.slice ra 64 rc) (sec D i) (w.alloc o) (hrow.only (Only.of_below (F := fun _ => False) (b1 o)) (fun _ _ h => h)) (by rw [sec_len]; omega))
      have HS := Lib.hid h
      have B1 := Lib.hid b1
      have hi1 : ¬ (i : Int) < 0 := by omega
      have hi2 : ¬ (n : Int) ≤ i := by omega
      have hi3 : (i : Int) < n := by omega
      clear h hb hcell hcell' hrow b1
      go_enter Try.func12, Try.ntmps12
      go_wp2_with fail
      refine (HC.out _).mono ?_
      rintro e w2 ⟨vb, rfl, hown, b2⟩
      have b3 : Below w.heap.size w w2 := (B1.out _).trans (b2.mono (by simp))
      have P : Hid (StepPost N n D 1 i bs w (.returned (.tuple #[.slice (some ⟨sb, so, none⟩) n c, vb, .int .i64 0])) w2) :=
        step_told (told_read hin) rfl (HS.out.stay b3) ((Vals.of_own (by simpa using hown)).kind (fun _ _ _ => trivial)) b3
      clear hown b2 b3
      go_wp2_with fail
      go_ret3
      exact P.out
    · by_cases h2 : k = 2
      · subst h2
        by_cases hl : bs.length ≤ 64
        · exact step_write v n D i bv bs w h hn hin hb hl
        · obtain ⟨a, c, rfl, hc⟩ := h.form
          obtain ⟨ba, bc, rfl, _⟩ := hb.form
          unfold maxLen at hm
          have HS := Lib.hid h
          have hl' : (64 : Int) < bs.length := by omega
          have hi1 : ¬ (i : Int) < 0 := by omega
          have hi2 : ¬ (n : Int) ≤ i := by omega
          have P : Hid (∀ o, StepPost N n D 2 i bs w (.returned (.tuple #[.slice a n c, .slice none 0 0, .int .i64 2])) (w.alloc o)) := fun o =>
            step_told (told_long hin (by omega)) rfl (HS.out.stay ((Below.refl _ _).alloc (Nat.le_refl _) o)) (none_bts _) ((Below.refl _ _).alloc (Nat.le_refl _) o)
          clear h hb
          go_enter Try.func12, Try.ntmps12
          go_wp2_with fail
          go_ret3
          exact P.out _
      · by_cases hl : 64 < bs.length
        · exact step_clear_long v n D k i bv bs w h hn hin hb hl hm h1 h2
        · exact step_clear_short v n D k i bv bs w h hn hin hb (by omega) h1 h2
  · obtain ⟨a, c, rfl, hc⟩ := h.form
    obtain ⟨ba, bc, rfl, _⟩ := hb.form
    have P : Hid (∀ o, StepPost N n D k f bs w (.returned (.tuple #[.slice a n c, .slice none 0 0, .int .i64 4])) (w.alloc o)) := fun o =>
      step_told (told_out hi) rfl (h.stay ((Below.refl _ _).alloc (Nat.le_refl _) o)) (none_bts _) ((Below.refl _ _).alloc (Nat.le_refl _) o)
    clear h hb
    by_cases h1 : f < 0
    · clear hi
      go_enter Try.func12, Try.ntmps12
      go_wp2_with fail
      go_ret3
      exact P.out _
    · have h2 : (n : Int) ≤ f := by omega
      clear hi
      go_enter Try.func12, Try.ntmps12
      go_wp2_with fail
      go_ret3
      exact P.out _
end Go.Proofs.Ytpijefkkhhgbfaa
