/- What the function check of package extent does. No condition but those that each statement names. -/
import Derived.Test.YtkjpemgoiobeeaaDoorERm
import Derived.BigRegion
namespace Go.Proofs.YtkjpemgoiobeeaaDoor
set_option maxRecDepth 1000000
open Go.ChangeShapes Go.WideShapes Go.ChangeAt Go.RowKit

/-- The slice value v holds the extents xs, in a block of the kind N. -/
def Exts (N : Nat → Prop) (w : World) (v : Value) (xs : List Ext) : Prop :=
  ∃ a c, v = .slice a xs.length c ∧ xs.length ≤ c ∧ (xs = [] ∨ ∃ b off, a = some ⟨b, off, none⟩ ∧ N b ∧ ∀ j x, xs[j]? = some x →
    w.cell? ⟨b, off + j * 3, none⟩ = some (.int .i64 x.f) ∧ w.cell? ⟨b, off + j * 3 + 1, none⟩ = some (.int .i64 x.n) ∧ w.cell? ⟨b, off + j * 3 + 2, none⟩ = some (.int .i64 x.s))
theorem Exts.only {N F : Nat → Prop} {w w' : World} {v : Value} {xs : List Ext} (h : Exts N w v xs) (o : Only F w w') (hF : ∀ b, N b → ¬ F b) : Exts N w' v xs := by
  obtain ⟨a, c, hv, hc, h⟩ := h
  refine ⟨a, c, hv, hc, h.imp id ?_⟩
  rintro ⟨b, off, ha, hN, h⟩
  refine ⟨b, off, ha, hN, fun j x hx => ?_⟩
  obtain ⟨h1, h2, h3⟩ := h j x hx
  have hl : b < w.heap.size := World.block_lt_of_cell? _ _ h1
  exact ⟨(o.cell (p := ⟨b, _, none⟩) hl (hF b hN)).trans h1, (o.cell (p := ⟨b, _, none⟩) hl (hF b hN)).trans h2, (o.cell (p := ⟨b, _, none⟩) hl (hF b hN)).trans h3⟩
theorem Exts.fresh {N : Nat → Prop} {w w' : World} {v : Value} {xs : List Ext} (h : Exts N w v xs) (o : Below w.heap.size w w') : Exts N w' v xs :=
  h.only (F := fun _ => False) (Only.of_below o) (fun _ _ h => h)

/-- Do they all live, and none twice? -/
def okX (R : List Row) (xs : List Ext) : Prop := (∀ x ∈ xs, isX R x = true) ∧ xs.Nodup
def CkInv (s : Sp) (n u : Nat) (R : List Row) (m k : Nat) (xs : List Ext) (w wr : World) : Prop :=
  SpaceAt wr s n u R ∧ LiveAt wr m k (fun y => decide (y ∈ xs.take k)) ∧ okX R (xs.take k) ∧ Below m w wr
/-- What check tells, and leaves. -/
def CkPost (s : Sp) (n u : Nat) (R : List Row) (t : Int) (w : World) (e : Ending) (w' : World) : Prop :=
  e = .returned (.int .i64 t) ∧ SpaceAt w' s n u R ∧ Below w.heap.size w w'

theorem okX_snoc {R : List Row} {xs : List Ext} {k : Nat} (h : k < xs.length) (h1 : okX R (xs.take k)) (h2 : isX R xs[k] = true) (h3 : ¬ xs[k] ∈ xs.take k) : okX R (xs.take (k + 1)) := by
  rw [List.take_succ_eq_append_getElem h]
  refine ⟨fun x hx => ?_, List.nodup_append.2 ⟨h1.2, by simp, fun a ha b hb => ?_⟩⟩
  · rcases List.mem_append.1 hx with hx | hx
    · exact h1.1 x hx
    · rw [List.mem_singleton.1 hx]; exact h2
  · rw [List.mem_singleton.1 hb]
    exact fun e => h3 (e ▸ ha)
theorem okX_bad {R : List Row} {xs : List Ext} {k : Nat} (h : k < xs.length) (h2 : isX R xs[k] = false ∨ xs[k] ∈ xs.take k) : ¬ okX R xs := by
  rintro ⟨h3, h4⟩
  rcases h2 with h2 | h2
  · rw [h3 _ (List.getElem_mem h)] at h2; cases h2
  · obtain ⟨j, hj, e⟩ := List.getElem_of_mem h2
    rw [List.length_take] at hj
    rw [List.getElem_take] at e
    exact (List.pairwise_iff_getElem.1 h4) j k (by omega) h (by omega) e

theorem check_nilx (v : Value) (w : World) : Calls Tryd.prog 31 #[.pointer none, v] w fun e w' => e = .returned (.int .i64 1) ∧ w = w' := by
  go_enter Tryd.func31, Tryd.ntmps31
  go_wp2
  go_ret
  exact ⟨rfl, rfl⟩

set_option maxHeartbeats 4000000 in
theorem check_exts {N : Nat → Prop} (s : Sp) (n u : Nat) (R : List Row) (v : Value) (xs : List Ext) (t : Int) (w : World) (h : SpaceAt w s n u R) (hv : Exts N w v xs) (hw : ∀ x ∈ xs, x.wf) (hl : xs.length ≤ 100000)
    (ht : okX R xs → t = 0) (ht' : ¬ okX R xs → t = 4) :
    Calls Tryd.prog 31 #[.pointer (some ⟨s.sp, 0, none⟩), v] w (CkPost s n u R t w) := by
  have hmm := @run_makeMap Tryd.prog
  have HS := Lib.hid h
  have HV := Lib.hid hv
  have HW := Lib.hid hw
  have HT := Lib.hid ht
  have HT' := Lib.hid ht'
  obtain ⟨a, c, rfl, hc, hcell⟩ := hv
  have hI : CkInv s n u R w.heap.size 0 xs w (w.alloc (.map #[] 0)) := ⟨h.fresh ((Below.refl _ _).alloc (Nat.le_refl _) _), (live_made w).congr fun y => by simp, ⟨fun x hx => by simp at hx, by simp⟩, (Below.refl _ _).alloc (Nat.le_refl _) _⟩
  obtain ⟨m, hm⟩ : ∃ m, w.heap.size = m := ⟨_, rfl⟩
  have HM := Lib.hid hm
  rw [hm] at hI
  have HI := Lib.hid hI
  clear h hw ht ht' hcell hI
  go_enter Tryd.func31, Tryd.ntmps31
  go_wp2
  clear hm
  go_loopw [17] (fun i wr => ∃ k : Nat, k ≤ xs.length ∧ i = .int .i64 k ∧ CkInv s n u R m k xs w wr) (fun i _ => xs.length - (intOf i).toNat)
  case atStart => exact ⟨0, Nat.zero_le _, rfl, HI.out⟩
  case round =>
    obtain ⟨k, hk, rfl, hs, hlv, hok, hb⟩ := hrel
    by_cases hlt : k < xs.length
    · have hm := HM.out
      obtain ⟨a', c', he, _, hcell⟩ := HV.out.only (Only.of_below (F := fun _ => False) (by rw [hm]; exact hb)) (fun _ _ h => h)
      injection he with e1 e2 e3
      subst e1 e3
      obtain ⟨b, off, rfl, _, hcell⟩ := hcell.resolve_left (fun e => by rw [e] at hlt; simp at hlt)
      obtain ⟨h1, h2, h3⟩ := hcell k xs[k] (List.getElem?_eq_getElem hlt)
      have hwf := HW.out _ (List.getElem_mem hlt)
      have HG := Lib.hid (okX_snoc hlt hok)
      have HB := Lib.hid (okX_bad (R := R) hlt)
      have HE : Hid (∀ y, (decide (y = xs[k]) || decide (y ∈ xs.take k)) = decide (y ∈ xs.take (k + 1))) := fun y => by
        rw [Bool.eq_iff_iff]
        simp only [Bool.or_eq_true, decide_eq_true_eq]
        rw [List.take_succ_eq_append_getElem hlt, List.mem_append, List.mem_singleton]
        exact Or.comm
      generalize xs[k] = x at h1 h2 h3 hwf HG HB HE
      obtain ⟨f, q, z⟩ := x
      have h1 : wr.cell? ⟨b, off + k * 3, none⟩ = some (.int .i64 f) := h1
      have h2 : wr.cell? ⟨b, off + k * 3 + 1, none⟩ = some (.int .i64 q) := h2
      have h3 : wr.cell? ⟨b, off + k * 3 + 2, none⟩ = some (.int .i64 z) := h3
      have X7 := box3_new wr f q z 32
      have BW : Below wr.heap.size wr (wr.alloc (.cells #[.int .i64 f, .int .i64 q, .int .i64 z] 32)) := (Below.refl _ _).alloc (Nat.le_refl _) _
      have S0 := hs.fresh BW
      have L0 := hlv.fresh BW
      have HBB := Lib.hid hb
      clear hs hlv hcell hb hok
      go_wp2_with fail
      obtain ⟨p7, hp7⟩ : ∃ p, wr.heap.size = p := ⟨_, rfl⟩
      have HP7 := Lib.hid hp7
      rw [hp7] at X7 ⊢
      clear hp7 h1 h2 h3
      generalize wr.alloc (.cells #[.int .i64 f, .int .i64 q, .int .i64 z] 32) = w0 at X7 BW S0 L0 ⊢
      have hlk : (Instr.lookup 66 (.map (some s.lm)) (.agg #[.int .i64 f, .int .i64 q, .int .i64 z]) true).run Tryd.prog w0.drew = .ok (.tuple #[.agg #[], .bool (isX R ⟨f, q, z⟩)]) w0.drew := (S0.live.heap (w' := w0.drew) rfl).look ⟨f, q, z⟩ hwf
      obtain ⟨live, hlive⟩ : ∃ live, isX R ⟨f, q, z⟩ = live := ⟨_, rfl⟩
      rw [hlive] at hlk
      have x1 := X7.1
      have x2 := X7.2.1
      have x3 := X7.2.2.1
      have c2 := S0.c2
      have HX7 := Lib.hid X7
      have HBW := Lib.hid BW
      have HS0 := Lib.hid S0
      have HL0 := Lib.hid L0
      have HLIVE := Lib.hid hlive
      have HWF := Lib.hid hwf
      clear X7 BW S0 L0 hlive hwf
      have hlk' : (Instr.lookup 66 (.map (some s.lm)) (.agg #[.int .i64 f, .int .i64 q, .int .i64 z]) true).run Tryd.prog (w0.alloc (.cells #[] 93)).drew = .ok (.tuple #[.agg #[], .bool live]) (w0.alloc (.cells #[] 93)).drew := by
        rw [← HLIVE.out]
        exact ((HS0.out.live.fresh ((Below.refl _ _).alloc (Nat.le_refl _) (.cells #[] 93))).heap (w' := (w0.alloc (.cells #[] 93)).drew) rfl).look ⟨f, q, z⟩ HWF.out
      have hb93 : Below w0.heap.size w0 (w0.alloc (.cells #[] 93)) := (Below.refl _ _).alloc (Nat.le_refl _) _
      have x1' := (hb93.cell (p := ⟨p7, 0, none⟩) HX7.out.2.2.2.2).trans x1
      have x2' := (hb93.cell (p := ⟨p7, 1, none⟩) HX7.out.2.2.2.2).trans x2
      have x3' := (hb93.cell (p := ⟨p7, 2, none⟩) HX7.out.2.2.2.2).trans x3
      have c2' := (hb93.cell (p := ⟨s.sp, 2, none⟩) HS0.out.lt).trans c2
      clear hb93
      have hbw1 : Below w0.heap.size w0 (w0.alloc (.cells #[] 93)).drew := ⟨rfl, rfl, rfl, by simp, fun j hj => Below.heap_alloc w0 (.cells #[] 93) j hj⟩
      have HW1 := Lib.hid hbw1
      clear hbw1
      go_region
      all_goals
        clear x1 x2 x3 c2 x1' x2' x3' c2' hlk hlk'
        have X7 := HX7.out.fresh HW1.out
        have S1 := HS0.out.fresh HW1.out
        have L1 := HL0.out.fresh HW1.out
        generalize (w0.alloc (.cells #[] 93)).drew = w1 at X7 S1 L1 HW1 ⊢
        have hlk : (Instr.lookup 66 (.map (some m)) (.agg #[.int .i64 f, .int .i64 q, .int .i64 z]) true).run Tryd.prog w1 = .ok (.tuple #[.agg #[], .bool (decide ((⟨f, q, z⟩ : Ext) ∈ xs.take k))]) w1 := L1.look ⟨f, q, z⟩ HWF.out
        obtain ⟨twice, htw⟩ : ∃ twice, decide ((⟨f, q, z⟩ : Ext) ∈ xs.take k) = twice := ⟨_, rfl⟩
        rw [htw] at hlk
        have HTW := Lib.hid htw
        clear htw
        have x1 := X7.1
        have x2 := X7.2.1
        have x3 := X7.2.2.1
        have HB3 : Hid (Below m w w1) := by
          have e1 := HBB.out
          have e2 := HBW.out
          have e3 := HW1.out
          have e4 := e1.trans (e2.mono (Nat.le_trans (by have := HM.out; omega) e1.size))
          exact e4.trans (e3.mono (Nat.le_trans (by have := HM.out; omega) e4.size))
        have HB4 : Hid (Below w1.heap.size w1 (w1.alloc (.cells #[] 93))) := (Below.refl _ _).alloc (Nat.le_refl _) _
        have hmw : Hid (m ≤ w1.heap.size) := Nat.le_trans (by have := HM.out; omega) HB3.out.size
        have y1 := (HB4.out.cell (p := ⟨p7, 0, none⟩) X7.2.2.2.2).trans x1
        have y2 := (HB4.out.cell (p := ⟨p7, 1, none⟩) X7.2.2.2.2).trans x2
        have y3 := (HB4.out.cell (p := ⟨p7, 2, none⟩) X7.2.2.2.2).trans x3
        have S2 : Hid (SpaceAt (w1.alloc (.cells #[] 93)) s n u R) := S1.fresh HB4.out
        have L2 : Hid (LiveAt (w1.alloc (.cells #[] 93)) m k (fun y => decide (y ∈ xs.take k))) := L1.fresh HB4.out
        have BE : Hid (Below w.heap.size w (w1.alloc (.cells #[] 93))) := by
          have := HB3.out.trans (HB4.out.mono hmw.out)
          show Below w.heap.size w _
          rw [HM.out]
          exact this
        clear X7 S1 L1
        rcases live with _ | _
        · go_wp2
          go_ret
          exact ⟨by rw [HT'.out (HB.out (.inl HLIVE.out))]; rfl, S2.out, BE.out⟩
        · rcases twice with _ | _
          · obtain ⟨w2, hst, l2, o2⟩ := L2.out.store ⟨f, q, z⟩ HWF.out (by omega)
            have hst : (Instr.mapUpdate 66 (.map (some m)) (.agg #[.int .i64 f, .int .i64 q, .int .i64 z]) (.agg #[])).run Tryd.prog (w1.alloc (.cells #[] 93)) = .ok () w2 := hst
            have L3 := Lib.hid l2
            have O3 := Lib.hid o2
            clear l2 o2
            go_wp2
            go_roundw
            case rel =>
              refine ⟨k + 1, by omega, by go_num, ?_, ?_, ?_, ?_⟩
              · have hm := HM.out
                have hlt := HS.out.lt
                have hord := HS.out.ord
                exact S2.out.only O3.out (fun j hj e => by have := hj.2; omega) (by omega)
              · exact L3.out.congr HE.out
              · exact HG.out HLIVE.out (by simpa using HTW.out)
              · have hm := HM.out
                have := BE.out
                rw [hm] at this
                exact this.trans (O3.out.below (fun i hi e => by omega) (by have := BE.out.size; omega))
            case measure => simp [intOf]; omega
          · go_wp2
            go_ret
            exact ⟨by rw [HT'.out (HB.out (.inr (by simpa using HTW.out)))]; rfl, S2.out, BE.out⟩
    · have HSf := Lib.hid hs
      have hok' : okX R xs := by
        have := hok
        rwa [List.take_of_length_le (by omega)] at this
      have HK := Lib.hid hok'
      have HBf := Lib.hid hb
      clear hs hlv hok hb hok'
      go_wp2
      go_ret
      exact ⟨by rw [HT.out HK.out]; rfl, HSf.out, by rw [HM.out]; exact HBf.out⟩
end Go.Proofs.YtkjpemgoiobeeaaDoor
