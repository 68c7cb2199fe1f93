/- What the chapter's own functions New, Step and Used (package websterref03) do. No condition but those that each statement names. -/
import Derived.Test.YtpijefkkhhgbfaaDo
namespace Go.Proofs.Ytpijefkkhhgbfaa
open Go.ChangeShapes Go.WideShapes Go.ChangeAt Go.RowKit

theorem Try.info30 : (Try.prog.info? 30).map (fun i => (i.zero, i.size, i.bytes)) = some (some (.slice none 0 0), 1, 24) := by kernel_rfl

/-- The slice value v holds n rows of bytes, which are the sectors of D. -/
def RefAt (N : Nat → Prop) (w : World) (v : Value) (n : Nat) (D : Nat → Int) : Prop :=
  ∃ vs : List Value, vs.length = n ∧ Vals N w v vs ∧ ∀ t u, vs[t]? = some u → Bts N w u (sec D t)
theorem RefAt.only {N F : Nat → Prop} {w w' : World} {v : Value} {n : Nat} {D : Nat → Int} (h : RefAt N w v n D) (o : Only F w w') (hF : ∀ b, N b → ¬ F b) : RefAt N w' v n D := by
  obtain ⟨vs, hl, hv, hr⟩ := h
  exact ⟨vs, hl, hv.only o hF, fun t u hu => (hr t u hu).only o hF⟩
theorem RefAt.kind {N M : Nat → Prop} {w : World} {v : Value} {n : Nat} {D : Nat → Int} (h : RefAt N w v n D) (hM : ∀ b, b < w.heap.size → N b → M b) : RefAt M w v n D := by
  obtain ⟨vs, hl, hv, hr⟩ := h
  exact ⟨vs, hl, hv.kind hM, fun t u hu => (hr t u hu).kind hM⟩
theorem RefAt.form {N : Nat → Prop} {w : World} {v : Value} {n : Nat} {D : Nat → Int} (h : RefAt N w v n D) : ∃ a c, v = .slice a n c ∧ n ≤ c := by
  obtain ⟨vs, hl, ⟨a, c, rfl, hc, _⟩, _⟩ := h
  exact ⟨a, c, by rw [hl], by omega⟩
/-- Row number t. -/
theorem RefAt.at_ {N : Nat → Prop} {w : World} {a : Option Addr} {n c t : Nat} {D : Nat → Int} (h : RefAt N w (.slice a n c) n D) (ht : t < n) :
    ∃ b off ra rc, a = some ⟨b, off, none⟩ ∧ w.cell? ⟨b, off + t, none⟩ = some (.slice ra 64 rc) ∧ Bts N w (.slice ra 64 rc) (sec D t) := by
  obtain ⟨vs, hl, hv, hr⟩ := h
  obtain ⟨b, off, c', he, _, _, _, hc⟩ := hv.at_ (k := t) (by omega)
  injection he with e1 e2 e3
  have hu := List.getElem?_eq_getElem (l := vs) (i := t) (by omega)
  have hb := hr t _ hu
  obtain ⟨ra, rc, hf, _⟩ := hb.form
  rw [hf, sec_len] at hb hc
  exact ⟨b, off, ra, rc, e1, hc, hb⟩

theorem row_kept {B j : Nat} {w w4 : World} {v : Value} {vs : List Value} (hv : w.ownsRow B 30 1 v j vs) (hg : w.grownBy w4 v.ownBlock) (u : Value) (xs : List Value) (hu : w.ownsRow B 5 1 u 64 xs) : w4.ownsRow B 5 1 u 64 xs :=
  hu.kept (row := v.ownBlock) hg (by
    cases hq : u.ownBlock with
    | none => simp
    | some q =>
      refine .inr fun he => ?_
      rcases hu.2 with ⟨rfl, h0⟩ | ⟨q', cap, cur, rfl, _, hq', _⟩
      · cases h0
      · rcases hv.2 with ⟨rfl, _⟩ | ⟨q'', cap', cur', rfl, _, hq'', _⟩
        · simp [Value.ownBlock] at he
        · simp [Value.ownBlock] at he hq
          subst hq he
          rw [hq'] at hq''
          injection hq'' with hq''
          injection hq'' with _ e
          cases e)

def NewInv (B j : Nat) (w : World) (v : Value) (wr : World) : Prop :=
  (∃ vs : List Value, vs.length = j ∧ wr.ownsRow B 30 1 v j vs ∧ ∀ (t : Nat) (u : Value), vs[t]? = some u → wr.ownsRow B 5 1 u 64 ((List.replicate 64 (0 : Int)).map (Value.int .u8))) ∧ Below B w wr
theorem new_step {B j : Nat} {w wr w2 : World} {v : Value} {z : Nat} (o : Obj) (hB : B ≤ wr.heap.size) (h : NewInv B j w v wr) (b2 : Below wr.heap.size wr w2) (hz : w2.ownsRow B 5 1 (.slice (some ⟨z, 0, none⟩) 64 64) 64 ((List.replicate 64 (0 : Int)).map (Value.int .u8))) :
    ∃ vs : List Value, vs.length = j ∧ (w2.alloc o).ownsRow B 30 1 v j vs ∧ (∀ w4 v', (w2.alloc o).grownBy w4 v.ownBlock → w4.ownsRow B 30 1 v' (j + 1) (vs ++ [.slice (some ⟨z, 0, none⟩) 64 64]) → NewInv B (j + 1) w v' w4) := by
  obtain ⟨⟨vs, hl, hv, hr⟩, hb⟩ := h
  have a3 : Only (fun _ => False) wr (w2.alloc o) := Only.alloc (Only.of_below b2) o
  have hv3 : (w2.alloc o).ownsRow B 30 1 v j vs := own_only hv a3 (fun _ _ h => h)
  refine ⟨vs, hl, hv3, fun w4 v' hg hv4 => ⟨⟨_, by simp [hl], hv4, fun t u hu => ?_⟩, ?_⟩⟩
  · by_cases ht : t < vs.length
    · rw [List.getElem?_append_left ht] at hu
      exact row_kept hv3 hg u _ (own_only (hr t u hu) a3 (fun _ _ h => h))
    · rw [List.getElem?_append_right (by omega)] at hu
      have ht0 : t - vs.length = 0 := by
        by_cases h0 : t - vs.length = 0
        · exact h0
        · rw [List.getElem?_eq_none (by simp; omega)] at hu; cases hu
      rw [ht0] at hu
      simp at hu
      subst hu
      exact row_kept hv3 hg _ _ (own_only hz ((Only.refl (fun _ => False) w2).alloc o) (fun _ _ h => h))
  · have hz2 := b2.size
    exact ((hb.trans (b2.mono hB)).alloc (by omega) o).grown hg (by simp; omega) (fun k hk => (hv3.lt k hk).1)

theorem made_own {B : Nat} (w : World) (hB : B ≤ w.heap.size) : (w.alloc (.cells (madeCells (Value.int .u8 0).cells 64) 5)).ownsRow B 5 1 (.slice (some ⟨w.heap.size, 0, none⟩) 64 64) 64 ((List.replicate 64 (0 : Int)).map (Value.int .u8)) :=
  ⟨by simp, .inr ⟨w.heap.size, 64, _, rfl, hB, heap_alloc_new w _, Nat.le_refl _, by decide, by simp [size_madeCells], by
    show (madeCells #[Value.int .u8 0] 64).toList.take 64 = _
    rw [toList_madeCells_one, List.map_replicate]
    rfl⟩⟩

/-- What gives rows. -/
def RefPost (N : Nat → Prop) (n : Nat) (D : Nat → Int) (w : World) (e : Ending) (w' : World) : Prop := ∃ v, e = .returned v ∧ RefAt N w' v n D ∧ Below w.heap.size w w'

set_option maxHeartbeats 1000000 in
theorem newref_any (n : Nat) (w : World) (hn : n ≤ 20000) : Calls Try.prog 10 #[.int .i64 n] w (RefPost (w.heap.size ≤ ·) n (fun _ => 0) w) := by
  obtain ⟨i30, hi30, hz30, hz31, hz32⟩ := info_parts Try.info30
  obtain ⟨B, hB⟩ : ∃ B, B = w.heap.size := ⟨_, rfl⟩
  have HB := Lib.hid hB
  rw [← hB]
  clear hB
  go_enter Try.func10, Try.ntmps10
  go_wp2
  go_loopw [3, 4] (fun v i wr => ∃ j : Nat, j ≤ n ∧ i = .int .i64 j ∧ NewInv B j w v wr) (fun _ i _ => n - (intOf i).toNat)
  case atStart => exact ⟨0, Nat.zero_le _, rfl, ⟨[], rfl, World.ownsRow_nil _ _ _ _, fun t u h => by simp at h⟩, Below.refl _ _⟩
  case round =>
    obtain ⟨j, hj, rfl, hinv⟩ := hrel
    have HI := Lib.hid hinv
    have hBr : B ≤ wr.heap.size := by have := hinv.2.size; have := HB.out; omega
    clear hinv
    by_cases hlt : j < n
    · have hlt' : (j : Int) < n := by omega
      have hm := mk_bytes wr 64 (by omega)
      have h2 : Below wr.heap.size wr (wr.alloc (.cells (madeCells (Value.int .u8 0).cells 64) 5)) := (Below.refl _ _).alloc (Nat.le_refl _) _
      have ho := made_own wr hBr
      obtain ⟨z, hz⟩ : ∃ z, z = wr.heap.size := ⟨_, rfl⟩
      have hs2 : wr.heap.size ≤ (wr.alloc (.cells (madeCells (Value.int .u8 0).cells 64) 5)).heap.size := by simp
      rw [← hz] at hm ho
      generalize wr.alloc (.cells (madeCells (Value.int .u8 0).cells 64) 5) = w2 at hm h2 ho hs2
      have hm : (Instr.makeSlice 30 (.int .i64 64) (.int .i64 64)).run Try.prog wr = .ok (.slice (some ⟨z, 0, none⟩) 64 64) w2 := hm
      obtain ⟨vs, hvl, hv5, hstep⟩ := new_step (.cells #[.slice (some ⟨z, 0, none⟩) 64 64] 30) hBr HI.out h2 ho
      have HS := Lib.hid hstep
      clear hstep hvl h2 ho hz
      go_wp2_with (at_builtin; refine wpList_append_own _ rfl _ _ 28 rfl B 30 i30 (.slice none 0 0) 1 24 Try.underlying28 hi30 hz30 hz31 hz32 rfl (by decide) _ _ _ rfl hv5 ⟨w2.heap.size, 0, none⟩ 1 1 [.slice (some ⟨z, 0, none⟩) 64 64] rfl rfl ?c1 ?c2 ?c3 ?c4 ?c5 ?_)
      case c1 =>
        intro t u ht
        match t, ht with
        | 0, ht => simp at ht; subst ht; simp [Addr.add]
      case c2 => intro u hu; simp at hu; subst hu; rfl
      case c3 => unfold maxLen; omega
      case c4 => omega
      case c5 => simp; omega
      intro v' w4 hown' hgrow _
      have R := Lib.hid (HS.out w4 v' hgrow hown')
      clear hown' hgrow hv5
      go_wp2_with fail
      go_roundw
      case rel => exact ⟨j + 1, by omega, by go_num, R.out⟩
      case measure => simp [intOf]; omega
    · obtain rfl : n = j := by omega
      go_wp2_with fail
      go_ret
      obtain ⟨⟨vs, hl, hv, hr⟩, hb⟩ := HI.out
      refine ⟨_, rfl, ⟨vs, hl, Vals.of_own (by rw [hl]; exact hv), fun t u hu => ?_⟩, by rw [← HB.out]; exact hb⟩
      rw [sec_zero]
      exact Vals.of_own (by simpa using hr t u hu)

/-- Has the sector i, up to place k, anything but noughts? -/
def somN (D : Nat → Int) (i : Nat) : Nat → Nat
  | 0 => 0
  | k + 1 => if D (64 * i + k) = 0 then somN D i k else 1
theorem somN_le (D : Nat → Int) (i k : Nat) : somN D i k ≤ 1 := by
  induction k with
  | zero => simp [somN]
  | succ k ih => simp only [somN]; split <;> omega
theorem somN_zero (D : Nat → Int) (i k : Nat) : somN D i k = 0 ↔ ∀ t, t < k → D (64 * i + t) = 0 := by
  induction k with
  | zero => simp [somN]
  | succ k ih =>
    simp only [somN]
    split
    · rename_i h
      rw [ih]
      exact ⟨fun g t ht => by
        by_cases e : t = k
        · rw [e]; exact h
        · exact g t (by omega), fun g t ht => g t (by omega)⟩
    · rename_i h
      exact ⟨fun g => by omega, fun g => absurd (g k (by omega)) h⟩
theorem cntU_som (D : Nat → Int) (i : Nat) : cntU D (i + 1) = cntU D i + somN D i 64 := by
  by_cases h : sec D i = List.replicate 64 0
  · have : somN D i 64 = 0 := (somN_zero D i 64).2 fun t ht => by
      have := sec_get D i t ht
      rw [h, List.getElem?_replicate, if_pos ht] at this
      injection this with this
      exact this.symm
    rw [cntU_zero h, this]
    rfl
  · have h1 : somN D i 64 ≠ 0 := fun e => h (by
      apply List.ext_getElem?
      intro t
      by_cases ht : t < 64
      · rw [sec_get D i t ht, (somN_zero D i 64).1 e t ht, List.getElem?_replicate, if_pos ht]
      · rw [List.getElem?_eq_none (by rw [sec_len]; omega), List.getElem?_eq_none (by rw [List.length_replicate]; omega)])
    have h2 := somN_le D i 64
    rw [cntU_one h]
    omega
theorem som_keep {D : Nat → Int} {i k : Nat} (h : D (64 * i + k) = 0) : somN D i (k + 1) = somN D i k := by simp [somN, h]
theorem som_one {D : Nat → Int} {i k : Nat} (h : D (64 * i + k) ≠ 0) : somN D i (k + 1) = 1 := by simp [somN, h]

set_option maxHeartbeats 1000000 in
theorem usedref_any {N : Nat → Prop} (v : Value) (n : Nat) (D : Nat → Int) (w : World) (h : RefAt N w v n D) (hn : n ≤ 20000) :
    Calls Try.prog 18 #[v] w fun e w' => e = .returned (.int .i64 (cntU D n)) ∧ w = w' := by
  obtain ⟨a, c, rfl, hc⟩ := h.form
  have H := Lib.hid h
  clear h
  go_enter Try.func18, Try.ntmps18
  go_wp2
  go_loop [3, 4] (fun t i => ∃ k : Nat, k ≤ n ∧ i = .int .i64 k ∧ t = .int .i64 (cntU D k)) (fun _ i => n - (intOf i).toNat)
  case atStart => exact ⟨0, Nat.zero_le _, rfl, rfl⟩
  case round =>
    obtain ⟨i, hi, rfl, rfl⟩ := hrel
    have hcl := cntU_le D i
    have HC := Lib.hid (cntU_som D i)
    by_cases hlt : i < n
    · have hlt' : (i : Int) < n := by omega
      generalize cntU D i = q at hcl HC ⊢
      obtain ⟨b, off, ra, rc, rfl, hcell, hrow⟩ := H.out.at_ hlt
      have HR := Lib.hid hrow
      clear hrow
      go_wp2
      go_loop [5, 6] (fun t j => ∃ k : Nat, k ≤ 64 ∧ j = .int .i64 k ∧ t = .int .i64 (somN D i k)) (fun _ j => 64 - (intOf j).toNat)
      case atStart => exact ⟨0, Nat.zero_le _, rfl, rfl⟩
      case round =>
        obtain ⟨k, hk, rfl, rfl⟩ := hrel
        have hsl := somN_le D i k
        by_cases hk6 : k < 64
        · have hk' : (k : Int) < 64 := by omega
          obtain ⟨rb, ro, rc', he, _, _, _, hc2⟩ := Vals.at_ (k := k) HR.out (by rw [List.length_map, sec_len]; exact hk6)
          injection he with e1 e2 e3
          subst e1
          have hd : w.cell? ⟨rb, ro + k, none⟩ = some (.int .u8 (D (64 * i + k))) := by
            rw [hc2, List.getElem_map]
            congr 2
            have := sec_get D i k hk6
            rw [List.getElem?_eq_getElem (by rw [sec_len]; exact hk6)] at this
            injection this
          clear hc2 e2 e3
          by_cases hz : D (64 * i + k) = 0
          · have HS := Lib.hid (som_keep hz)
            rw [hz] at hd
            clear hz
            generalize somN D i k = s at HS hsl ⊢
            go_wp2
            go_round
            case rel => exact ⟨k + 1, by omega, by go_num, by rw [HS.out]⟩
            case measure => simp [intOf]; omega
          · have HS := Lib.hid (som_one hz)
            have hz' : (D (64 * i + k) == 0) = false := by simpa using hz
            have hz'' : (D (64 * i + k) != 0) = true := by simpa using hz
            generalize D (64 * i + k) = dv at hd hz' hz'' hz
            generalize somN D i k = s at hsl ⊢
            clear hz
            go_wp2
            go_round
            case rel => exact ⟨k + 1, by omega, by go_num, by rw [HS.out]; rfl⟩
            case measure => simp [intOf]; omega
        · obtain rfl : 64 = k := by omega
          generalize somN D i 64 = s at hsl HC ⊢
          go_wp2
          go_round
          case rel => exact ⟨i + 1, by omega, by go_num, by rw [HC.out]; go_num⟩
          case measure => simp [intOf]; omega
    · obtain rfl : n = i := by omega
      clear HC
      go_wp2
      go_ret
      exact ⟨rfl, rfl⟩
end Go.Proofs.Ytpijefkkhhgbfaa
