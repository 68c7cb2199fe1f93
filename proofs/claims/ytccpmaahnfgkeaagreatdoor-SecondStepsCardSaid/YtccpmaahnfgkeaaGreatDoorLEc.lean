/- Texts of the layers below, one behind the other: EECk EEPut EEGet EEFree EESet EEOne. -/
import Derived.Test.YtccpmaahnfgkeaaGreatDoorLEb
import Derived.BigRegion

/- What the function check of package extent does. No condition but those that each statement names. -/
namespace Go.Proofs.YtccpmaahnfgkeaaGreatDoor
set_option maxRecDepth 1000000
open Go.ChangeShapes Go.WideShapes Go.ChangeAt Go.RowKit

/-- The slice value v holds the extents xs, in a block of the kind N. -/
def Exts (N : Nat → Prop) (w : World) (v : Value) (xs : List Ext) : Prop :=
  ∃ a c, v = .slice a xs.length c ∧ xs.length ≤ c ∧ (xs = [] ∨ ∃ b off, a = some ⟨b, off, none⟩ ∧ N b ∧ ∀ j x, xs[j]? = some x →
    w.cell? ⟨b, off + j * 3, none⟩ = some (.int .i64 x.f) ∧ w.cell? ⟨b, off + j * 3 + 1, none⟩ = some (.int .i64 x.n) ∧ w.cell? ⟨b, off + j * 3 + 2, none⟩ = some (.int .i64 x.s))
theorem Exts.only {N F : Nat → Prop} {w w' : World} {v : Value} {xs : List Ext} (h : Exts N w v xs) (o : Only F w w') (hF : ∀ b, N b → ¬ F b) : Exts N w' v xs := by
  obtain ⟨a, c, hv, hc, h⟩ := h
  refine ⟨a, c, hv, hc, h.imp id ?_⟩
  rintro ⟨b, off, ha, hN, h⟩
  refine ⟨b, off, ha, hN, fun j x hx => ?_⟩
  obtain ⟨h1, h2, h3⟩ := h j x hx
  have hl : b < w.heap.size := World.block_lt_of_cell? _ _ h1
  exact ⟨(o.cell (p := ⟨b, _, none⟩) hl (hF b hN)).trans h1, (o.cell (p := ⟨b, _, none⟩) hl (hF b hN)).trans h2, (o.cell (p := ⟨b, _, none⟩) hl (hF b hN)).trans h3⟩
theorem Exts.fresh {N : Nat → Prop} {w w' : World} {v : Value} {xs : List Ext} (h : Exts N w v xs) (o : Below w.heap.size w w') : Exts N w' v xs :=
  h.only (F := fun _ => False) (Only.of_below o) (fun _ _ h => h)

/-- Do they all live, and none twice? -/
def okX (R : List Row) (xs : List Ext) : Prop := (∀ x ∈ xs, isX R x = true) ∧ xs.Nodup
def CkInv (s : Sp) (n u : Nat) (R : List Row) (m k : Nat) (xs : List Ext) (w wr : World) : Prop :=
  SpaceAt wr s n u R ∧ LiveAt wr m k (fun y => decide (y ∈ xs.take k)) ∧ okX R (xs.take k) ∧ Below m w wr
/-- What check tells, and leaves. -/
def CkPost (s : Sp) (n u : Nat) (R : List Row) (t : Int) (w : World) (e : Ending) (w' : World) : Prop :=
  e = .returned (.int .i64 t) ∧ SpaceAt w' s n u R ∧ Below w.heap.size w w'

theorem okX_snoc {R : List Row} {xs : List Ext} {k : Nat} (h : k < xs.length) (h1 : okX R (xs.take k)) (h2 : isX R xs[k] = true) (h3 : ¬ xs[k] ∈ xs.take k) : okX R (xs.take (k + 1)) := by
  rw [List.take_succ_eq_append_getElem h]
  refine ⟨fun x hx => ?_, List.nodup_append.2 ⟨h1.2, by simp, fun a ha b hb => ?_⟩⟩
  · rcases List.mem_append.1 hx with hx | hx
    · exact h1.1 x hx
    · rw [List.mem_singleton.1 hx]; exact h2
  · rw [List.mem_singleton.1 hb]
    exact fun e => h3 (e ▸ ha)
theorem okX_bad {R : List Row} {xs : List Ext} {k : Nat} (h : k < xs.length) (h2 : isX R xs[k] = false ∨ xs[k] ∈ xs.take k) : ¬ okX R xs := by
  rintro ⟨h3, h4⟩
  rcases h2 with h2 | h2
  · rw [h3 _ (List.getElem_mem h)] at h2; cases h2
  · obtain ⟨j, hj, e⟩ := List.getElem_of_mem h2
    rw [List.length_take] at hj
    rw [List.getElem_take] at e
    exact (List.pairwise_iff_getElem.1 h4) j k (by omega) h (by omega) e

theorem check_nilx (v : Value) (w : World) : Calls Tryz.prog 61 #[.pointer none, v] w fun e w' => e = .returned (.int .i64 1) ∧ w = w' := by
  go_enter Tryz.func61, Tryz.ntmps61
  go_wp2
  go_ret
  exact ⟨rfl, rfl⟩

set_option maxHeartbeats 4000000 in
theorem check_exts {N : Nat → Prop} (s : Sp) (n u : Nat) (R : List Row) (v : Value) (xs : List Ext) (t : Int) (w : World) (h : SpaceAt w s n u R) (hv : Exts N w v xs) (hw : ∀ x ∈ xs, x.wf) (hl : xs.length ≤ 100000)
    (ht : okX R xs → t = 0) (ht' : ¬ okX R xs → t = 4) :
    Calls Tryz.prog 61 #[.pointer (some ⟨s.sp, 0, none⟩), v] w (CkPost s n u R t w) := by
  have hmm := @run_makeMap Tryz.prog
  have HS := Lib.hid h
  have HV := Lib.hid hv
  have HW := Lib.hid hw
  have HT := Lib.hid ht
  have HT' := Lib.hid ht'
  obtain ⟨a, c, rfl, hc, hcell⟩ := hv
  have hI : CkInv s n u R w.heap.size 0 xs w (w.alloc (.map #[] 0)) := ⟨h.fresh ((Below.refl _ _).alloc (Nat.le_refl _) _), (live_made w).congr fun y => by simp, ⟨fun x hx => by simp at hx, by simp⟩, (Below.refl _ _).alloc (Nat.le_refl _) _⟩
  obtain ⟨m, hm⟩ : ∃ m, w.heap.size = m := ⟨_, rfl⟩
  have HM := Lib.hid hm
  rw [hm] at hI
  have HI := Lib.hid hI
  clear h hw ht ht' hcell hI
  go_enter Tryz.func61, Tryz.ntmps61
  go_wp2
  clear hm
  go_loopw [17] (fun i wr => ∃ k : Nat, k ≤ xs.length ∧ i = .int .i64 k ∧ CkInv s n u R m k xs w wr) (fun i _ => xs.length - (intOf i).toNat)
  case atStart => exact ⟨0, Nat.zero_le _, rfl, HI.out⟩
  case round =>
    obtain ⟨k, hk, rfl, hs, hlv, hok, hb⟩ := hrel
    by_cases hlt : k < xs.length
    · have hm := HM.out
      obtain ⟨a', c', he, _, hcell⟩ := HV.out.only (Only.of_below (F := fun _ => False) (by rw [hm]; exact hb)) (fun _ _ h => h)
      injection he with e1 e2 e3
      subst e1 e3
      obtain ⟨b, off, rfl, _, hcell⟩ := hcell.resolve_left (fun e => by rw [e] at hlt; simp at hlt)
      obtain ⟨h1, h2, h3⟩ := hcell k xs[k] (List.getElem?_eq_getElem hlt)
      have hwf := HW.out _ (List.getElem_mem hlt)
      have HG := Lib.hid (okX_snoc hlt hok)
      have HB := Lib.hid (okX_bad (R := R) hlt)
      have HE : Hid (∀ y, (decide (y = xs[k]) || decide (y ∈ xs.take k)) = decide (y ∈ xs.take (k + 1))) := fun y => by
        rw [Bool.eq_iff_iff]
        simp only [Bool.or_eq_true, decide_eq_true_eq]
        rw [List.take_succ_eq_append_getElem hlt, List.mem_append, List.mem_singleton]
        exact Or.comm
      generalize xs[k] = x at h1 h2 h3 hwf HG HB HE
      obtain ⟨f, q, z⟩ := x
      have h1 : wr.cell? ⟨b, off + k * 3, none⟩ = some (.int .i64 f) := h1
      have h2 : wr.cell? ⟨b, off + k * 3 + 1, none⟩ = some (.int .i64 q) := h2
      have h3 : wr.cell? ⟨b, off + k * 3 + 2, none⟩ = some (.int .i64 z) := h3
      have X7 := box3_new wr f q z 47
      have BW : Below wr.heap.size wr (wr.alloc (.cells #[.int .i64 f, .int .i64 q, .int .i64 z] 47)) := (Below.refl _ _).alloc (Nat.le_refl _) _
      have S0 := hs.fresh BW
      have L0 := hlv.fresh BW
      have HBB := Lib.hid hb
      clear hs hlv hcell hb hok
      go_wp2_with fail
      obtain ⟨p7, hp7⟩ : ∃ p, wr.heap.size = p := ⟨_, rfl⟩
      have HP7 := Lib.hid hp7
      rw [hp7] at X7 ⊢
      clear hp7 h1 h2 h3
      generalize wr.alloc (.cells #[.int .i64 f, .int .i64 q, .int .i64 z] 47) = w0 at X7 BW S0 L0 ⊢
      have hlk : (Instr.lookup 106 (.map (some s.lm)) (.agg #[.int .i64 f, .int .i64 q, .int .i64 z]) true).run Tryz.prog w0.drew = .ok (.tuple #[.agg #[], .bool (isX R ⟨f, q, z⟩)]) w0.drew := (S0.live.heap (w' := w0.drew) rfl).look ⟨f, q, z⟩ hwf
      obtain ⟨live, hlive⟩ : ∃ live, isX R ⟨f, q, z⟩ = live := ⟨_, rfl⟩
      rw [hlive] at hlk
      have x1 := X7.1
      have x2 := X7.2.1
      have x3 := X7.2.2.1
      have c2 := S0.c2
      have HX7 := Lib.hid X7
      have HBW := Lib.hid BW
      have HS0 := Lib.hid S0
      have HL0 := Lib.hid L0
      have HLIVE := Lib.hid hlive
      have HWF := Lib.hid hwf
      clear X7 BW S0 L0 hlive hwf
      have hlk' : (Instr.lookup 106 (.map (some s.lm)) (.agg #[.int .i64 f, .int .i64 q, .int .i64 z]) true).run Tryz.prog (w0.alloc (.cells #[] 95)).drew = .ok (.tuple #[.agg #[], .bool live]) (w0.alloc (.cells #[] 95)).drew := by
        rw [← HLIVE.out]
        exact ((HS0.out.live.fresh ((Below.refl _ _).alloc (Nat.le_refl _) (.cells #[] 95))).heap (w' := (w0.alloc (.cells #[] 95)).drew) rfl).look ⟨f, q, z⟩ HWF.out
      have hb93 : Below w0.heap.size w0 (w0.alloc (.cells #[] 95)) := (Below.refl _ _).alloc (Nat.le_refl _) _
      have x1' := (hb93.cell (p := ⟨p7, 0, none⟩) HX7.out.2.2.2.2).trans x1
      have x2' := (hb93.cell (p := ⟨p7, 1, none⟩) HX7.out.2.2.2.2).trans x2
      have x3' := (hb93.cell (p := ⟨p7, 2, none⟩) HX7.out.2.2.2.2).trans x3
      have c2' := (hb93.cell (p := ⟨s.sp, 2, none⟩) HS0.out.lt).trans c2
      clear hb93
      have hbw1 : Below w0.heap.size w0 (w0.alloc (.cells #[] 95)).drew := ⟨rfl, rfl, rfl, by simp, fun j hj => Below.heap_alloc w0 (.cells #[] 95) j hj⟩
      have HW1 := Lib.hid hbw1
      clear hbw1
      go_region
      all_goals
        clear x1 x2 x3 c2 x1' x2' x3' c2' hlk hlk'
        have X7 := HX7.out.fresh HW1.out
        have S1 := HS0.out.fresh HW1.out
        have L1 := HL0.out.fresh HW1.out
        generalize (w0.alloc (.cells #[] 95)).drew = w1 at X7 S1 L1 HW1 ⊢
        have hlk : (Instr.lookup 106 (.map (some m)) (.agg #[.int .i64 f, .int .i64 q, .int .i64 z]) true).run Tryz.prog w1 = .ok (.tuple #[.agg #[], .bool (decide ((⟨f, q, z⟩ : Ext) ∈ xs.take k))]) w1 := L1.look ⟨f, q, z⟩ HWF.out
        obtain ⟨twice, htw⟩ : ∃ twice, decide ((⟨f, q, z⟩ : Ext) ∈ xs.take k) = twice := ⟨_, rfl⟩
        rw [htw] at hlk
        have HTW := Lib.hid htw
        clear htw
        have x1 := X7.1
        have x2 := X7.2.1
        have x3 := X7.2.2.1
        have HB3 : Hid (Below m w w1) := by
          have e1 := HBB.out
          have e2 := HBW.out
          have e3 := HW1.out
          have e4 := e1.trans (e2.mono (Nat.le_trans (by have := HM.out; omega) e1.size))
          exact e4.trans (e3.mono (Nat.le_trans (by have := HM.out; omega) e4.size))
        have HB4 : Hid (Below w1.heap.size w1 (w1.alloc (.cells #[] 95))) := (Below.refl _ _).alloc (Nat.le_refl _) _
        have hmw : Hid (m ≤ w1.heap.size) := Nat.le_trans (by have := HM.out; omega) HB3.out.size
        have y1 := (HB4.out.cell (p := ⟨p7, 0, none⟩) X7.2.2.2.2).trans x1
        have y2 := (HB4.out.cell (p := ⟨p7, 1, none⟩) X7.2.2.2.2).trans x2
        have y3 := (HB4.out.cell (p := ⟨p7, 2, none⟩) X7.2.2.2.2).trans x3
        have S2 : Hid (SpaceAt (w1.alloc (.cells #[] 95)) s n u R) := S1.fresh HB4.out
        have L2 : Hid (LiveAt (w1.alloc (.cells #[] 95)) m k (fun y => decide (y ∈ xs.take k))) := L1.fresh HB4.out
        have BE : Hid (Below w.heap.size w (w1.alloc (.cells #[] 95))) := by
          have := HB3.out.trans (HB4.out.mono hmw.out)
          show Below w.heap.size w _
          rw [HM.out]
          exact this
        clear X7 S1 L1
        rcases live with _ | _
        · go_wp2
          go_ret
          exact ⟨by rw [HT'.out (HB.out (.inl HLIVE.out))]; rfl, S2.out, BE.out⟩
        · rcases twice with _ | _
          · obtain ⟨w2, hst, l2, o2⟩ := L2.out.store ⟨f, q, z⟩ HWF.out (by omega)
            have hst : (Instr.mapUpdate 106 (.map (some m)) (.agg #[.int .i64 f, .int .i64 q, .int .i64 z]) (.agg #[])).run Tryz.prog (w1.alloc (.cells #[] 95)) = .ok () w2 := hst
            have L3 := Lib.hid l2
            have O3 := Lib.hid o2
            clear l2 o2
            go_wp2
            go_roundw
            case rel =>
              refine ⟨k + 1, by omega, by go_num, ?_, ?_, ?_, ?_⟩
              · have hm := HM.out
                have hlt := HS.out.lt
                have hord := HS.out.ord
                exact S2.out.only O3.out (fun j hj e => by have := hj.2; omega) (by omega)
              · exact L3.out.congr HE.out
              · exact HG.out HLIVE.out (by simpa using HTW.out)
              · have hm := HM.out
                have := BE.out
                rw [hm] at this
                exact this.trans (O3.out.below (fun i hi e => by omega) (by have := BE.out.size; omega))
            case measure => simp [intOf]; omega
          · go_wp2
            go_ret
            exact ⟨by rw [HT'.out (HB.out (.inr (by simpa using HTW.out)))]; rfl, S2.out, BE.out⟩
    · have HSf := Lib.hid hs
      have hok' : okX R xs := by
        have := hok
        rwa [List.take_of_length_le (by omega)] at this
      have HK := Lib.hid hok'
      have HBf := Lib.hid hb
      clear hs hlv hok hb hok'
      go_wp2
      go_ret
      exact ⟨by rw [HT.out HK.out]; rfl, HSf.out, by rw [HM.out]; exact HBf.out⟩
end Go.Proofs.YtccpmaahnfgkeaaGreatDoor

/- What the method Put of package extent does. No condition but those that each statement names. -/
namespace Go.Proofs.YtccpmaahnfgkeaaGreatDoor
set_option maxRecDepth 1000000
open Go.ChangeShapes Go.WideShapes Go.ChangeAt Go.RowKit

theorem first_is (m x n : Nat) (S : Nat → Bool) (c a : Nat) (ok : Bool) (w : World) (h : MapAt w m x n S) (hT : Tab w) (hc : 1 ≤ c) (hc2 : c ≤ 9223372036854775807) (hF : FirstIs S n c a ok) :
    Calls Tryz.prog 52 #[.pointer (some ⟨m, 0, none⟩), .int .i64 c] w fun e w' => e = .returned (.tuple #[.int .i64 a, .bool ok]) ∧ ∃ d, w' = w.drewN d :=
  (first_any m x n S c w h hT hc hc2).mono fun e w' ⟨a', ok', d, he, hf, hw⟩ => by
    obtain ⟨rfl, rfl⟩ := firstIs_eq hF hf
    exact ⟨he, d, hw⟩
theorem sectors_quiet (k : Nat) (w : World) (h : k ≤ 9223372036854775807) :
    Calls Tryz.prog 53 #[.int .i64 k] w fun e w' => e = .returned (.int .i64 (secs k)) ∧ ∃ d, w' = w.drewN d :=
  (sectors_any k w h).mono fun _ _ ⟨he, hw⟩ => ⟨he, 0, hw.symm⟩

def PutPost (s : Sp) (n u : Nat) (R : List Row) (a : Nat) (xs : List Int) (w : World) (e : Ending) (w' : World) : Prop :=
  e = .returned (.tuple #[.agg #[.int .i64 a, .int .i64 (secs xs.length), .int .i64 xs.length], .int .i64 0]) ∧ SpaceAt w' s n (u + 1) (R ++ [(a, xs)]) ∧ Only s.F w w'
def FullPost (s : Sp) (n u : Nat) (R : List Row) (t : Int) (w : World) (e : Ending) (w' : World) : Prop :=
  e = .returned (.tuple #[.agg #[.int .i64 0, .int .i64 0, .int .i64 0], .int .i64 t]) ∧ SpaceAt w' s n u R ∧ Only s.F w w'

set_option maxHeartbeats 1000000 in
theorem put_yes {N : Nat → Prop} (s : Sp) (n u : Nat) (R : List Row) (a : Nat) (v : Value) (xs : List Int) (w : World) (h : SpaceAt w s n u R) (hv : Bts N w v xs) (hN : ∀ b, N b → ¬ s.F b) (hy : Bytes xs) (hu : u ≤ 100000000000000)
    (hl : xs.length ≤ 9223372036854775807) (hF : FirstIs (tk R) n (secs xs.length) a true) :
    Calls Tryz.prog 27 #[.pointer (some ⟨s.sp, 0, none⟩), v] w (PutPost s n u R a xs w) := by
  have hF' := hF
  rcases hF' with ⟨_, hroom, hfree, _⟩ | ⟨h0, _⟩
  case inr => cases h0
  have X4 := box3_new w 0 0 0 47
  have BW : Below w.heap.size w (w.alloc (.cells #[.int .i64 0, .int .i64 0, .int .i64 0] 47)) := (Below.refl _ _).alloc (Nat.le_refl _) _
  have S0 := h.fresh BW
  have V0 := hv.only (Only.of_below (F := fun _ => False) BW) (fun _ _ h => h)
  have HLW := Lib.hid h.lt
  have hs1 := secs_pos xs.length
  have hs2 : secs xs.length ≤ 9223372036854775807 := by unfold secs; omega
  have HQ := Lib.hid (fun w => sectors_quiet xs.length w hl)
  have HST := Lib.hid (fun (w0 : World) (v : Value) (h : SpaceAt w0 s n u R) (hb : Bts N w0 v xs) => store_any s n u R a v xs w0 h hb hN hy hroom hfree hu)
  obtain ⟨a0, cp, rfl, _⟩ := hv.form
  obtain ⟨p4, hp4⟩ : ∃ p, w.heap.size = p := ⟨_, rfl⟩
  have HP := Lib.hid hp4
  obtain ⟨q, hq⟩ : ∃ q, secs xs.length = q := ⟨_, rfl⟩
  have HQQ := Lib.hid hq
  rw [hq] at hs1 hs2 hF hroom hfree HQ
  rw [hp4] at X4
  clear hv h
  go_enter Tryz.func27, Tryz.ntmps27
  go_wp2_with fail
  clear hp4
  generalize w.alloc (.cells #[.int .i64 0, .int .i64 0, .int .i64 0] 47) = w0 at X4 BW S0 V0 ⊢
  have c1 := S0.c1
  have HF : Hid (∀ d, Calls Tryz.prog 52 #[.pointer (some ⟨s.bm, 0, none⟩), .int .i64 q] (w0.drewN d) fun e w' => e = .returned (.tuple #[.int .i64 a, .bool true]) ∧ ∃ d', w' = (w0.drewN d).drewN d') := fun d => first_is s.bm s.bx n (tk R) q a true (w0.drewN d) (S0.map.drewN d) (S0.tab.heap rfl) hs1 hs2 hF
  have HX4 := Lib.hid X4
  have HBW := Lib.hid BW
  have HS0 := Lib.hid S0
  have HV0 := Lib.hid V0
  clear X4 BW S0 V0 hF hfree hq
  go_quiet (first | (go_at_call 53; exact Calls.quiet_of (HQ.out _)) | (go_at_call 52; exact Calls.quiet_of (HF.out _)))
  have S1 : Hid (SpaceAt (w0.drewN nq) s n u R) := HS0.out.fresh (below_drewN _ _ _)
  have V1 : Hid (Bts N (w0.drewN nq) (.slice a0 xs.length cp) xs) := HV0.out.heap rfl
  have X1 : Hid (Box3 (w0.drewN nq) p4 0 0 0) := HX4.out.fresh (below_drewN _ _ _)
  have B1 : Hid (Below w0.heap.size w0 (w0.drewN nq)) := below_drewN _ _ _
  generalize w0.drewN nq = w1 at S1 V1 X1 B1 ⊢
  go_wp2_with fail
  refine (HST.out w1 _ S1.out V1.out).mono ?_
  rintro e w2 ⟨rfl, s2, o2⟩
  have S2 := Lib.hid s2
  have O2 := Lib.hid o2
  have hp := HP.out
  have hlw := HLW.out
  have x2 := X1.out.only o2 (fun h => by have := h.2; omega)
  have X2 := Lib.hid x2
  obtain ⟨y1, y2, y3, yf, _⟩ := x2
  have yf0 := yf 0
  have yf1 := yf 1
  have yf2 := yf 2
  have hq := HQQ.out
  rw [hq]
  clear s2 o2 yf hp hlw hq
  go_wp2_with fail
  have hb6 := X2.out.put a q xs.length
  have ho6 : Only (· = p4) w2 (((w2.setCell ⟨p4, 0, none⟩ (.int .i64 a)).setCell ⟨p4, 1, none⟩ (.int .i64 q)).setCell ⟨p4, 2, none⟩ (.int .i64 xs.length)) := put3_only (Only.refl _ _) (.inl rfl)
  generalize ((w2.setCell ⟨p4, 0, none⟩ (.int .i64 a)).setCell ⟨p4, 1, none⟩ (.int .i64 q)).setCell ⟨p4, 2, none⟩ (.int .i64 xs.length) = w3 at hb6 ho6 ⊢
  (try simp only [Exit.inBlock, Exit.then])
  have hp := HP.out
  have hlw := HLW.out
  have hord := S2.out.ord
  have hb0 := HBW.out.trans (B1.out.mono HBW.out.size)
  refine bodyPost_ret (res_box2 rfl rfl hb6) rfl ⟨by rw [HQQ.out]; rfl, S2.out.only ho6 (fun k hk e => by have := hk.2; omega) (by omega), ((Only.of_below hb0 : Only s.F w w1).then_ O2.out (fun _ _ h => h)).then_ ho6 (fun i hi e => by omega)⟩

set_option maxHeartbeats 1000000 in
theorem put_no {N : Nat → Prop} (s : Sp) (n u : Nat) (R : List Row) (a : Nat) (v : Value) (xs : List Int) (w : World) (h : SpaceAt w s n u R) (hv : Bts N w v xs)
    (hl : xs.length ≤ 9223372036854775807) (hF : FirstIs (tk R) n (secs xs.length) a false) :
    Calls Tryz.prog 27 #[.pointer (some ⟨s.sp, 0, none⟩), v] w (FullPost s n u R 3 w) := by
  have X4 := box3_new w 0 0 0 47
  have BW : Below w.heap.size w (w.alloc (.cells #[.int .i64 0, .int .i64 0, .int .i64 0] 47)) := (Below.refl _ _).alloc (Nat.le_refl _) _
  have S0 := h.fresh BW
  have HLW := Lib.hid h.lt
  have hs1 := secs_pos xs.length
  have hs2 : secs xs.length ≤ 9223372036854775807 := by unfold secs; omega
  have HQ := Lib.hid (fun w => sectors_quiet xs.length w hl)
  obtain ⟨a0, cp, rfl, _⟩ := hv.form
  obtain ⟨p4, hp4⟩ : ∃ p, w.heap.size = p := ⟨_, rfl⟩
  have HP := Lib.hid hp4
  obtain ⟨q, hq⟩ : ∃ q, secs xs.length = q := ⟨_, rfl⟩
  rw [hq] at hs1 hs2 hF HQ
  rw [hp4] at X4
  clear hv h
  go_enter Tryz.func27, Tryz.ntmps27
  go_wp2_with fail
  clear hp4
  generalize w.alloc (.cells #[.int .i64 0, .int .i64 0, .int .i64 0] 47) = w0 at X4 BW S0 ⊢
  have c1 := S0.c1
  have HF : Hid (∀ d, Calls Tryz.prog 52 #[.pointer (some ⟨s.bm, 0, none⟩), .int .i64 q] (w0.drewN d) fun e w' => e = .returned (.tuple #[.int .i64 a, .bool false]) ∧ ∃ d', w' = (w0.drewN d).drewN d') := fun d => first_is s.bm s.bx n (tk R) q a false (w0.drewN d) (S0.map.drewN d) (S0.tab.heap rfl) hs1 hs2 hF
  have HX4 := Lib.hid X4
  have HBW := Lib.hid BW
  have HS0 := Lib.hid S0
  clear X4 BW S0 hF hq
  go_quiet (first | (go_at_call 53; exact Calls.quiet_of (HQ.out _)) | (go_at_call 52; exact Calls.quiet_of (HF.out _)))
  have S1 : Hid (SpaceAt (w0.drewN nq) s n u R) := HS0.out.fresh (below_drewN _ _ _)
  have x1 : Box3 (w0.drewN nq) p4 0 0 0 := HX4.out.fresh (below_drewN _ _ _)
  have B1 : Hid (Below w0.heap.size w0 (w0.drewN nq)) := below_drewN _ _ _
  generalize w0.drewN nq = w1 at S1 x1 B1 ⊢
  have X2 := Lib.hid x1
  obtain ⟨y1, y2, y3, yf, _⟩ := x1
  have yf0 := yf 0
  have yf1 := yf 1
  have yf2 := yf 2
  clear yf
  go_wp2_with fail
  have hb6 := X2.out.put 0 0 0
  have ho6 : Only (· = p4) w1 (((w1.setCell ⟨p4, 0, none⟩ (.int .i64 0)).setCell ⟨p4, 1, none⟩ (.int .i64 0)).setCell ⟨p4, 2, none⟩ (.int .i64 0)) := put3_only (Only.refl _ _) (.inl rfl)
  generalize ((w1.setCell ⟨p4, 0, none⟩ (.int .i64 0)).setCell ⟨p4, 1, none⟩ (.int .i64 0)).setCell ⟨p4, 2, none⟩ (.int .i64 0) = w3 at hb6 ho6 ⊢
  (try simp only [Exit.inBlock, Exit.then])
  have hp := HP.out
  have hlw := HLW.out
  have hord := S1.out.ord
  have hb0 := HBW.out.trans (B1.out.mono HBW.out.size)
  refine bodyPost_ret (res_box2 rfl rfl hb6) rfl ⟨rfl, S1.out.only ho6 (fun k hk e => by have := hk.2; omega) (by omega), (Only.of_below hb0 : Only s.F w w1).then_ ho6 (fun i hi e => by omega)⟩
end Go.Proofs.YtccpmaahnfgkeaaGreatDoor

/- What the method Get of package extent does. No condition but those that each statement names. -/
namespace Go.Proofs.YtccpmaahnfgkeaaGreatDoor
set_option maxRecDepth 1000000
open Go.ChangeShapes Go.WideShapes Go.ChangeAt Go.RowKit

/-- The slice that a call on one extent makes. -/
theorem one_ext {N : Nat → Prop} (w : World) (x : Ext) (h : N w.heap.size) : Exts N (w.alloc (.cells #[.int .i64 x.f, .int .i64 x.n, .int .i64 x.s] 47)) (.slice (some ⟨w.heap.size, 0, none⟩) 1 1) [x] := by
  have hb := box3_new w x.f x.n x.s 47
  refine ⟨_, 1, rfl, by simp, .inr ⟨_, 0, rfl, h, fun j y hy => ?_⟩⟩
  match j, hy with
  | 0, hy =>
    simp at hy
    subst hy
    exact ⟨hb.1, hb.2.1, hb.2.2.1⟩
  | j + 1, hy => simp at hy
theorem ok_one {R : List Row} {x : Ext} (h : isX R x = true) : okX R [x] := ⟨fun y hy => by rw [List.mem_singleton.1 hy]; exact h, by simp⟩
theorem bad_one {R : List Row} {x : Ext} (h : isX R x = false) : ¬ okX R [x] := fun h1 => by
  rw [h1.1 x (by simp)] at h; cases h

def GetNone (s : Sp) (n u : Nat) (R : List Row) (w : World) (e : Ending) (w' : World) : Prop :=
  e = .returned (.tuple #[.slice none 0 0, .int .i64 4]) ∧ SpaceAt w' s n u R ∧ Below w.heap.size w w'

/-- check, called on one extent that lies in a box. -/
theorem check_one_ext (s : Sp) (n u : Nat) (R : List Row) (x : Ext) (t : Int) (w : World) (h : SpaceAt w s n u R) (hx : x.wf) (ht : isX R x = true → t = 0) (ht' : isX R x = false → t = 4) :
    Calls Tryz.prog 61 #[.pointer (some ⟨s.sp, 0, none⟩), .slice (some ⟨w.heap.size, 0, none⟩) 1 1] (w.alloc (.cells #[.int .i64 x.f, .int .i64 x.n, .int .i64 x.s] 47)) (CkPost s n u R t w) :=
  (check_exts (N := fun _ => True) s n u R _ [x] t _ (h.fresh ((Below.refl _ _).alloc (Nat.le_refl _) _)) (one_ext w x trivial) (fun y hy => by rw [List.mem_singleton.1 hy]; exact hx) (by simp) (fun h1 => ht (h1.1 x (by simp))) (fun h1 => ht' (by
    cases e : isX R x
    · rfl
    · exact absurd (ok_one e) h1))).mono fun e w' ⟨he, hs, hb⟩ => ⟨he, hs, ((Below.refl _ _).alloc (Nat.le_refl _) _).trans (hb.mono (by simp))⟩

set_option maxHeartbeats 1000000 in
theorem get_none (s : Sp) (n u : Nat) (R : List Row) (f q z : Int) (w : World) (h : SpaceAt w s n u R) (hx : Ext.wf ⟨f, q, z⟩) (hX : isX R ⟨f, q, z⟩ = false) :
    Calls Tryz.prog 33 #[.pointer (some ⟨s.sp, 0, none⟩), .agg #[.int .i64 f, .int .i64 q, .int .i64 z]] w (GetNone s n u R w) := by
  have BW : Below w.heap.size w (w.alloc (.cells #[.int .i64 f, .int .i64 q, .int .i64 z] 47)) := (Below.refl _ _).alloc (Nat.le_refl _) _
  have HC := Lib.hid (check_one_ext s n u R ⟨f, q, z⟩ 4 _ (h.fresh BW) hx (fun e => by rw [hX] at e; cases e) (fun _ => rfl))
  have HB := Lib.hid BW
  clear h hX hx BW
  rw [World.size_alloc] at HC
  go_enter Tryz.func33, Tryz.ntmps33
  go_wp2_with (go_at_call 61; refine HC.out.mono ?_; rintro e w1 ⟨rfl, s1, b1⟩)
  go_ret2
  exact ⟨rfl, s1, HB.out.trans (b1.mono HB.out.size)⟩

def bytesOf (D : Nat → Int) (f k : Nat) : List Int := (List.range (64 * k)).map fun j => D (64 * f + j)
theorem bytesOf_len (D : Nat → Int) (f k : Nat) : (bytesOf D f k).length = 64 * k := by simp [bytesOf]
theorem bytesOf_succ (D : Nat → Int) (f k : Nat) : bytesOf D f (k + 1) = bytesOf D f k ++ sec D (f + k) := by
  apply List.ext_getElem?
  intro j
  by_cases h : j < 64 * k
  · rw [List.getElem?_append_left (by rw [bytesOf_len]; exact h)]
    simp [bytesOf, h, show j < 64 * (k + 1) by omega]
  · rw [List.getElem?_append_right (by rw [bytesOf_len]; omega), bytesOf_len]
    by_cases h2 : j < 64 * (k + 1)
    · rw [sec_get _ _ _ (by omega)]
      simp only [bytesOf]
      rw [List.getElem?_map, List.getElem?_range h2]
      simp only [Option.map_some]
      congr 2
      omega
    · rw [List.getElem?_eq_none (by rw [bytesOf_len]; omega), List.getElem?_eq_none (by rw [sec_len]; omega)]
theorem bytesOf_row {D : Nat → Int} {R : List Row} {r : Row} (h : Holds D R) (hr : r ∈ R) : (bytesOf D r.1 (len r)).take r.2.length = r.2 := by
  have hl := secs_le r.2.length
  have h3 : secs r.2.length = len r := rfl
  apply List.ext_getElem?
  intro j
  rw [List.getElem?_take]
  split
  · rename_i hj
    simp only [bytesOf]
    rw [List.getElem?_map, List.getElem?_range (by omega)]
    simp only [Option.map_some]
    rw [h r hr j hj, List.getElem?_eq_getElem hj, List.getD, List.getElem?_eq_getElem hj]
    rfl
  · rename_i hj
    rw [List.getElem?_eq_none (by omega)]

/-- A space whose disk alone has changed. -/
theorem SpaceAt.disked {w w' : World} {s : Sp} {n u u' : Nat} {R : List Row} {gb r c : Nat} {D : Nat → Int} (h : SpaceAt w s n u R) (o : Only (fun b => b = s.dm ∨ b = gb) w w') (hg : s.sp < gb) (hd : DiskAt w' s.dm s.lo n r c D) (hr : r ≤ 20000 * u') (hc : c ≤ 20000 * u') (hu : u ≤ u') (hh : Holds D R) : SpaceAt w' s n u' R := by
  obtain ⟨o0, o1, o2, o3, o4, o5⟩ := h.ord
  have hsp : ∀ j, w'.cell? ⟨s.sp, j, none⟩ = w.cell? ⟨s.sp, j, none⟩ := fun j => o.cell (p := ⟨s.sp, j, none⟩) h.lt (by show ¬ (s.sp = s.dm ∨ s.sp = gb); omega)
  exact ⟨(hsp 0).trans h.c0, (hsp 1).trans h.c1, (hsp 2).trans h.c2, ⟨r, c, D, hd, hr, hc, hh⟩, h.map.only o (by show ¬ (s.bm = s.dm ∨ s.bm = gb); omega) (by show ¬ (s.bx = s.dm ∨ s.bx = gb); omega),
    (h.live.only o (by show ¬ (s.lm = s.dm ∨ s.lm = gb); omega)).mono hu, h.good, h.ord, Nat.lt_of_lt_of_le h.lt o.size, h.tab.only o (by have := h.lt; omega) (by show ¬ (0 = s.dm ∨ 0 = gb); omega), h.small⟩

def GetPost (s : Sp) (n u : Nat) (R : List Row) (xs : List Int) (w : World) (e : Ending) (w' : World) : Prop :=
  ∃ v, e = .returned (.tuple #[v, .int .i64 0]) ∧ Bts (w.heap.size ≤ ·) w' v xs ∧ SpaceAt w' s n (u + 1) R ∧ Only s.F w w'
def GtInv (dm lo n r c gb B k q : Nat) (D : Nat → Int) (f : Nat) (w3 wr : World) (v : Value) : Prop :=
  v = .slice (some ⟨gb, 0, none⟩) (64 * k) (64 * q) ∧ wr.ownsRow B 5 1 v (64 * k) ((bytesOf D f k).map (Value.int .u8)) ∧ DiskAt wr dm lo n (r + k) c D ∧ Only (fun b => b = dm ∨ b = gb) w3 wr

set_option maxHeartbeats 2000000 in
theorem get_yes (s : Sp) (n u : Nat) (R : List Row) (r : Row) (w : World) (h : SpaceAt w s n u R) (hr : r ∈ R) (hu : u ≤ 100000000000000) :
    Calls Tryz.prog 33 #[.pointer (some ⟨s.sp, 0, none⟩), .agg #[.int .i64 r.1, .int .i64 (len r), .int .i64 r.2.length]] w (GetPost s n u R r.2 w) := by
  obtain ⟨f, xs⟩ := r
  obtain ⟨q, hq⟩ : ∃ q, len (f, xs) = q := ⟨_, rfl⟩
  have hroom := h.good.room _ hr
  have hq1 := len_pos (f, xs)
  have hsm := h.small
  have HQ := Lib.hid hq
  have HS := Lib.hid h
  have HR := Lib.hid hr
  have hlen := secs_le xs.length
  change xs.length ≤ 64 * len (f, xs) at hlen
  rw [hq] at hroom hq1 hlen ⊢
  show Calls Tryz.prog 33 #[_, .agg #[.int .i64 f, .int .i64 q, .int .i64 xs.length]] w _
  change f + q ≤ n at hroom
  have hlw := h.lt
  have BW : Below w.heap.size w (w.alloc (.cells #[.int .i64 f, .int .i64 q, .int .i64 xs.length] 47)) := (Below.refl _ _).alloc (Nat.le_refl _) _
  have X3 : Box3 (w.alloc (.cells #[.int .i64 f, .int .i64 q, .int .i64 xs.length] 47)) w.heap.size f q xs.length := box3_new w f q xs.length 47
  have hX : isX R ⟨f, q, xs.length⟩ = true := isX_iff.2 ⟨_, hr, by simp [ext, hq]⟩
  have HC := Lib.hid (check_one_ext s n u R ⟨f, q, xs.length⟩ 0 _ (h.fresh BW) ⟨wf_of (by dsimp only; omega) (by dsimp only; omega), wf_of (by dsimp only; omega) (by dsimp only; omega), wf_of (by dsimp only; omega) (by dsimp only; omega)⟩ (fun _ => rfl) (fun e => by rw [hX] at e; cases e))
  have HB := Lib.hid BW
  have HX := Lib.hid X3
  obtain ⟨p3, hp3⟩ : ∃ p, w.heap.size = p := ⟨_, rfl⟩
  have HP := Lib.hid hp3
  rw [World.size_alloc] at HC
  rw [hp3] at HX HC
  obtain ⟨i0, hi, hz0, hz1, hz2⟩ := info_parts Tryz.info5
  clear h hX BW X3 hr hq
  go_enter Tryz.func33, Tryz.ntmps33
  go_wp2_with fail
  refine HC.out.mono ?_
  rintro e w1 ⟨rfl, s1, b1⟩
  have x3 := HX.out.fresh b1
  have B1 : Hid (Below w.heap.size w w1) := HB.out.trans (b1.mono HB.out.size)
  have hp4 : p3 < w1.heap.size := x3.2.2.2.2
  have X3 := Lib.hid x3
  have S1 := Lib.hid s1
  have y1 := x3.1
  have y2 := x3.2.1
  obtain ⟨w2, hmk, hown, hg2⟩ := run_make_own (P := Tryz.prog) w1 w.heap.size 33 5 i0 (.int .u8 0) 1 Tryz.underlying33 hi hz0 hz1 .i64 .i64 (64 * q) (by rw [hz2]; omega) (by unfold maxLen; omega) B1.out.size
  rw [show ((64 * q : Nat) : Int) = (q : Int) * 64 by omega] at hmk
  obtain ⟨gb, hgb⟩ : ∃ p, w1.heap.size = p := ⟨_, rfl⟩
  have HGB := Lib.hid hgb
  rw [hgb] at hown hmk hp4
  have B2 : Hid (Below w1.heap.size w1 w2) := ⟨hg2.os, hg2.tape, hg2.output, hg2.size, fun k hk => hg2.block k hk (by simp)⟩
  have X3' : Box3 w2 p3 f q xs.length := x3.fresh B2.out
  have z1 := X3'.1
  have z2 := X3'.2.1
  have z3 := X3'.2.2.1
  have HX3 := Lib.hid X3'
  have HOWN := Lib.hid hown
  clear s1 b1 x3 HX HC X3' hgb hg2 hown
  go_wp2_with fail
  refine (places_any f q _ _ (by omega) (by omega)).mono ?_
  rintro e w3 ⟨g, rfl, hg, hgl, hI, hb⟩
  have hgg : gb < g := by have := HOWN.out.lt gb rfl; omega
  have X3 : Hid (Box3 w3 p3 f q xs.length) := HX3.out.fresh hb
  have HOWN : Hid (w3.ownsRow w.heap.size 5 1 (.slice (some ⟨gb, 0, none⟩) 0 (64 * q)) 0 []) := own_only HOWN.out (Only.of_below (F := fun _ => False) hb) (fun _ _ h => h)
  have HI := Lib.hid hI
  have B3 : Hid (Below w1.heap.size w1 w3) := B2.out.trans (hb.mono B2.out.size)
  have S3 : Hid (SpaceAt w3 s n u R) := S1.out.fresh B3.out
  obtain ⟨rd, cw, D, hd, hrd, hcw, hh⟩ := S3.out.disk
  have HD := Lib.hid hd
  have HH := Lib.hid hh
  have hpo : p3 < gb := hp4
  have hss : s.sp < p3 := by have := HP.out; omega
  clear hI hb hg hgl hd hh z1 z2 z3 y1 y2 hmk HX3 B2
  go_wp2_with fail
  go_loopw [7, 26] (fun v i wr => ∃ k : Nat, k ≤ q ∧ i = .int .i64 k ∧ GtInv s.dm s.lo n rd cw gb w.heap.size k q D f w3 wr v) (fun _ i _ => q - (intOf i).toNat)
  case atStart => exact ⟨0, Nat.zero_le _, rfl, rfl, HOWN.out, HD.out, Only.refl _ _⟩
  case round =>
    obtain ⟨k, hk, rfl, rfl, hown, hd, ho⟩ := hrel
    have hs := S3.out
    obtain ⟨o0, o1, o2, o3, o4, o5⟩ := hs.ord
    by_cases hlt : k < q
    · have c0 := (ho.cell (p := ⟨s.sp, 0, none⟩) hs.lt (by show ¬ (s.sp = s.dm ∨ s.sp = gb); omega)).trans hs.c0
      have hgk : wr.cell? ⟨g, k, none⟩ = some (.int .i64 ((f + k : Nat) : Int)) := by
        have := (Vals.only HI.out ho (fun b hb => by subst hb; show ¬ (b = s.dm ∨ b = gb); omega))
        obtain ⟨b', off', c', e1, _, _, _, h3⟩ := Vals.at_ (k := k) this (by rw [List.length_map, run_len]; exact hlt)
        injection e1 with e1
        injection e1 with e1
        injection e1 with e1 e2
        subst e1 e2
        rw [List.getElem_map] at h3
        rw [Nat.zero_add] at h3
        rw [h3]
        congr 2
        have := run_get f q k hlt
        rw [List.getElem?_eq_getElem (by rw [run_len]; exact hlt)] at this
        exact Option.some.inj this
      obtain ⟨i, hi'⟩ : ∃ i, f + k = i := ⟨_, rfl⟩
      have HIi := Lib.hid hi'
      rw [hi'] at hgk
      have hin : i < n := by omega
      have HW := Lib.hid (read_yes s.dm s.lo n (rd + k) cw D i wr hd hin (by omega))
      have HO := Lib.hid ho
      have HW2 := Lib.hid hown
      have hgw := hown.lt gb rfl
      have hdm : Hid (s.dm < w.heap.size ∧ s.dm ≠ gb) := ⟨by omega, by omega⟩
      clear hs hd ho hown o0 o1 o2 o3 o4 o5 hi'
      go_wp2_with fail
      refine HW.out.mono ?_
      rintro e w4 ⟨g2, cp, rfl, hown2, d4, o4⟩
      have hown4 : w4.ownsRow w.heap.size 5 1 (.slice (some ⟨gb, 0, none⟩) (64 * k) (64 * q)) (64 * k) ((bytesOf D f k).map (Value.int .u8)) := own_only HW2.out o4 (fun b hb e => by have := hdm.out.1; omega)
      have hsrc : ∀ j u, ((sec D i).map (Value.int .u8))[j]? = some u → w4.cell? ((⟨g2, 0, none⟩ : Addr).add j) = some u := fun j u hu => hown2.cells (g := g2) rfl j u hu
      have HSRC := Lib.hid hsrc
      have HOWN4 := Lib.hid hown4
      have D4 := Lib.hid d4
      have O4 := Lib.hid o4
      clear hown2 hown4 hsrc d4 o4
      go_wp2_with (at_builtin; refine wpList_append_fits _ rfl _ _ 33 rfl w.heap.size 5 i0 1 Tryz.underlying33 hi hz1 gb (64 * k) (64 * q) _ rfl HOWN4.out ⟨g2, 0, none⟩ 64 cp ((sec D i).map (Value.int .u8)) rfl ?c0 ?c1 ?c2 ?c3 ?_)
      case c0 => rw [List.length_map, sec_len]
      case c1 => exact HSRC.out
      case c2 => intro u hu; simp at hu; obtain ⟨x, _, rfl⟩ := hu; rfl
      case c3 => omega
      intro w5 hown5 hg5
      have HOWN5 := Lib.hid hown5
      have ob5 : Only (· = gb) w4 w5 := ⟨hg5.os, hg5.tape, hg5.output, hg5.size, fun k hk hne => hg5.block k hk (fun e => hne (Option.some.inj e))⟩
      have OB5 := Lib.hid ob5
      clear hown5 hg5 ob5
      go_wp2_with fail
      go_roundw
      case rel =>
        have hs := S3.out
        obtain ⟨o0, o1, o2, o3, o4, o5⟩ := hs.ord
        have e1 : 64 * k + 64 = 64 * (k + 1) := by omega
        refine ⟨k + 1, by omega, by go_num, by rw [e1], ?_, ?_, ?_⟩
        · have := HOWN5.out
          rw [e1, ← List.map_append, ← HIi.out, ← bytesOf_succ] at this
          rw [e1, HP.out]
          exact this
        · exact D4.out.only OB5.out (by show ¬ s.dm = gb; omega) (by show ¬ s.lo = gb; omega)
        · exact (HO.out.then_ O4.out (fun _ _ h => .inl h)).then_ OB5.out (fun _ _ h => .inr h)
      case measure => simp [intOf]; omega
    · obtain rfl : k = q := by omega
      have x3 := X3.out.only ho (by show ¬ (p3 = s.dm ∨ p3 = gb); omega)
      have y3 := x3.2.2.1
      have hcap : (xs.length : Int) ≤ ((64 * k : Nat) : Int) := by omega
      have HO := Lib.hid ho
      have HD2 := Lib.hid hd
      have HW2 := Lib.hid hown
      clear hs hd ho hown x3 o0 o1 o2 o3 o4 o5
      go_wp2_with fail
      go_ret2
      obtain ⟨o0, o1, o2, o3, o4, o5⟩ := S3.out.ord
      have hp := HP.out
      have hv : Bts (w.heap.size ≤ ·) wr (.slice (some ⟨gb, 0, none⟩) (64 * k) (64 * k)) (bytesOf D f k) := Vals.of_own (by
        have e : ((bytesOf D f k).map (Value.int .u8)).length = 64 * k := by rw [List.length_map, bytesOf_len]
        rw [e]
        exact HW2.out)
      have hv2 := bts_take hv xs.length (by rw [bytesOf_len]; exact hlen)
      have hrow := bytesOf_row HH.out HR.out
      rw [HQ.out] at hrow
      rw [show (bytesOf D f k).take xs.length = xs from hrow] at hv2
      exact ⟨_, rfl, hv2, S3.out.disked HO.out (by omega) HD2.out (by omega) (by omega) (by omega) HH.out, (Only.of_below (B1.out.trans (B3.out.mono B1.out.size)) : Only s.F w w3).then_ HO.out (fun i hi e => by
        rcases e with e | e
        · exact ⟨by omega, by omega⟩
        · exfalso; omega)⟩
end Go.Proofs.YtccpmaahnfgkeaaGreatDoor

/- What the method Free of package extent does. No condition but those that each statement names. -/
namespace Go.Proofs.YtccpmaahnfgkeaaGreatDoor
set_option maxRecDepth 1000000
open Go.ChangeShapes Go.WideShapes Go.ChangeAt Go.RowKit

/-- The rows that are left where all of xs were taken away. -/
def remOf (R : List Row) (xs : List Ext) : List Row := xs.foldl without R
theorem isX_remOf (y : Ext) : ∀ (xs : List Ext) (R : List Row), isX (remOf R xs) y = (isX R y && !decide (y ∈ xs))
  | [], R => by simp [remOf]
  | x :: xs, R => by
    show isX (remOf (without R x) xs) y = _
    rw [isX_remOf y xs, ← isX_rem]
    by_cases h : y = x
    · simp [h]
    · simp [h]
theorem remOf_snoc (R : List Row) (xs : List Ext) (k : Nat) (h : k < xs.length) : remOf R (xs.take (k + 1)) = without (remOf R (xs.take k)) xs[k] := by
  rw [List.take_succ_eq_append_getElem h]
  unfold remOf
  rw [List.foldl_append]
  rfl
theorem ok_at {R : List Row} {xs : List Ext} (h : okX R xs) (k : Nat) (hk : k < xs.length) : isX (remOf R (xs.take k)) xs[k] = true := by
  rw [isX_remOf, h.1 _ (List.getElem_mem hk), Bool.true_and, Bool.not_eq_true', decide_eq_false_iff_not]
  intro h2
  exact okX_bad hk (.inr h2) h

def FrPost (s : Sp) (n u : Nat) (R : List Row) (t : Int) (w : World) (e : Ending) (w' : World) : Prop :=
  e = .returned (.int .i64 t) ∧ SpaceAt w' s n u R ∧ Only s.F w w'

theorem free_bad {N : Nat → Prop} (s : Sp) (n u : Nat) (R : List Row) (v : Value) (xs : List Ext) (w : World) (h : SpaceAt w s n u R) (hv : Exts N w v xs) (hw : ∀ x ∈ xs, x.wf) (hl : xs.length ≤ 100000) (hok : ¬ okX R xs) :
    Calls Tryz.prog 38 #[.pointer (some ⟨s.sp, 0, none⟩), v] w (FrPost s n u R 4 w) := by
  have HC := Lib.hid (check_exts s n u R v xs 4 w h hv hw hl (fun h => absurd h hok) (fun _ => rfl))
  clear h hv hw hok
  go_enter Tryz.func38, Tryz.ntmps38
  go_wp2_with (go_at_call 61; refine HC.out.mono ?_; rintro e w1 ⟨rfl, s1, b1⟩)
  go_ret
  exact ⟨rfl, s1, Only.of_below b1⟩

def FrInv (s : Sp) (n u : Nat) (R : List Row) (w wr : World) : Prop := SpaceAt wr s n u R ∧ Only s.F w wr

set_option maxHeartbeats 2000000 in
theorem free_all {N : Nat → Prop} (s : Sp) (n u : Nat) (R : List Row) (v : Value) (xs : List Ext) (w : World) (h : SpaceAt w s n u R) (hv : Exts N w v xs) (hN : ∀ b, N b → ¬ s.F b) (hw : ∀ x ∈ xs, x.wf) (hl : xs.length ≤ 100000) (hok : okX R xs) :
    Calls Tryz.prog 38 #[.pointer (some ⟨s.sp, 0, none⟩), v] w (FrPost s n u (remOf R xs) 0 w) := by
  have HC := Lib.hid (check_exts s n u R v xs 0 w h hv hw hl (fun _ => rfl) (fun h => absurd hok h))
  have HV := Lib.hid hv
  have HN := Lib.hid hN
  have HOK := Lib.hid hok
  obtain ⟨a, c, rfl, hc, hcell⟩ := hv
  clear h hw hok hN hcell
  go_enter Tryz.func38, Tryz.ntmps38
  go_wp2_with fail
  refine HC.out.mono ?_
  rintro e w1 ⟨rfl, s1, b1⟩
  have S1 := Lib.hid s1
  have B1 : Hid (Only s.F w w1) := Only.of_below b1
  clear s1 b1 HC
  go_wp2_with fail
  go_loopw [16] (fun i wr => ∃ k : Nat, k ≤ xs.length ∧ i = .int .i64 k ∧ FrInv s n u (remOf R (xs.take k)) w wr) (fun i _ => xs.length - (intOf i).toNat)
  case atStart => exact ⟨0, Nat.zero_le _, rfl, S1.out, B1.out⟩
  case round =>
    obtain ⟨k, hk, rfl, hs, ho⟩ := hrel
    by_cases hlt : k < xs.length
    · obtain ⟨a', c', he, _, hcell⟩ := HV.out.only ho HN.out
      injection he with e1 e2 e3
      subst e1 e3
      obtain ⟨b, off, rfl, _, hcell⟩ := hcell.resolve_left (fun e => by rw [e] at hlt; simp at hlt)
      obtain ⟨h1, h2, h3⟩ := hcell k xs[k] (List.getElem?_eq_getElem hlt)
      have HE := Lib.hid (remOf_snoc R xs k hlt)
      obtain ⟨r, hr, he⟩ := isX_iff.1 (ok_at HOK.out k hlt)
      rw [← he] at h1 h2 h3 HE
      replace h1 : wr.cell? ⟨b, off + k * 3, none⟩ = some (.int .i64 r.1) := h1
      replace h2 : wr.cell? ⟨b, off + k * 3 + 1, none⟩ = some (.int .i64 (len r)) := h2
      replace h3 : wr.cell? ⟨b, off + k * 3 + 2, none⟩ = some (.int .i64 r.2.length) := h3
      have BW : Below wr.heap.size wr (wr.alloc (.cells #[.int .i64 r.1, .int .i64 (len r), .int .i64 r.2.length] 47)) := (Below.refl _ _).alloc (Nat.le_refl _) _
      have HRM := Lib.hid (remove_any s n u _ r _ (hs.fresh BW) hr)
      have HO : Hid (Only s.F w (wr.alloc (.cells #[.int .i64 r.1, .int .i64 (len r), .int .i64 r.2.length] 47))) := ho.alloc _
      obtain ⟨f, ys⟩ := r
      dsimp only at h1 h2 h3 HRM HO HE
      generalize len (f, ys) = q at h2 HRM HO
      clear hs ho hcell BW hr he
      go_wp2_with fail
      with_reducible refine HRM.out.mono ?_
      rintro e w2 ⟨rfl, s2, o2⟩
      have S2 := Lib.hid s2
      have O2 : Hid (Only s.F w w2) := HO.out.trans o2
      clear s2 o2
      go_wp2_with fail
      go_roundw
      case rel => exact ⟨k + 1, by omega, by go_num, by rw [HE.out]; exact S2.out, O2.out⟩
      case measure => simp [intOf]; omega
    · rw [List.take_of_length_le (by omega)] at hs
      have HSf := Lib.hid hs
      have HOf := Lib.hid ho
      clear hs ho
      go_wp2_with fail
      go_ret
      exact ⟨rfl, HSf.out, HOf.out⟩
end Go.Proofs.YtccpmaahnfgkeaaGreatDoor

/- What the method Set of package extent does. No condition but those that each statement names. -/
namespace Go.Proofs.YtccpmaahnfgkeaaGreatDoor
set_option maxRecDepth 1000000
open Go.ChangeShapes Go.WideShapes Go.ChangeAt Go.RowKit

set_option maxHeartbeats 2000000 in
theorem set_none {N : Nat → Prop} (s : Sp) (n u : Nat) (R : List Row) (f q z : Int) (v : Value) (xs : List Int) (w : World) (h : SpaceAt w s n u R) (hv : Bts N w v xs) (hx : Ext.wf ⟨f, q, z⟩) (hX : isX R ⟨f, q, z⟩ = false) :
    Calls Tryz.prog 36 #[.pointer (some ⟨s.sp, 0, none⟩), .agg #[.int .i64 f, .int .i64 q, .int .i64 z], v] w (FullPost s n u R 4 w) := by
  have BW : Below w.heap.size w ((w.alloc (.cells #[.int .i64 f, .int .i64 q, .int .i64 z] 47)).alloc (.cells #[.int .i64 0, .int .i64 0, .int .i64 0] 47)) := ((Below.refl _ _).alloc (Nat.le_refl _) _).alloc (by simp) _
  have HC := Lib.hid (check_one_ext s n u R ⟨f, q, z⟩ 4 _ (h.fresh BW) hx (fun e => by rw [hX] at e; cases e) (fun _ => rfl))
  have HB := Lib.hid BW
  have X6 := box3_new (w.alloc (.cells #[.int .i64 f, .int .i64 q, .int .i64 z] 47)) 0 0 0 47
  have HLW := Lib.hid h.lt
  obtain ⟨a, cp, rfl, _⟩ := hv.form
  rw [World.size_alloc, World.size_alloc] at HC
  rw [World.size_alloc] at X6
  have HX := Lib.hid X6
  obtain ⟨p, hp⟩ : ∃ p, w.heap.size = p := ⟨_, rfl⟩
  have HP := Lib.hid hp
  rw [hp] at HC HX
  clear h hX hx BW hv X6
  go_enter Tryz.func36, Tryz.ntmps36
  go_wp2_with fail
  refine HC.out.mono ?_
  rintro e w1 ⟨rfl, s1, b1⟩
  have S1 := Lib.hid s1
  have x6 := HX.out.fresh b1
  have X6 := Lib.hid x6
  have B1 : Hid (Below w.heap.size w w1) := HB.out.trans (b1.mono HB.out.size)
  obtain ⟨y1, y2, y3, yf, _⟩ := x6
  have yf0 := yf 0
  have yf1 := yf 1
  have yf2 := yf 2
  clear s1 b1 yf HC
  obtain ⟨p6, hp6⟩ : ∃ p6, p + 1 = p6 := ⟨_, rfl⟩
  have HP6 := Lib.hid hp6
  rw [hp6] at y1 y2 y3 yf0 yf1 yf2 X6 ⊢
  clear hp6 hp
  go_wp2_with fail
  have hb6 := X6.out.put 0 0 0
  have ho6 : Only (· = p6) w1 (((w1.setCell ⟨p6, 0, none⟩ (.int .i64 0)).setCell ⟨p6, 1, none⟩ (.int .i64 0)).setCell ⟨p6, 2, none⟩ (.int .i64 0)) := put3_only (Only.refl _ _) (.inl rfl)
  generalize ((w1.setCell ⟨p6, 0, none⟩ (.int .i64 0)).setCell ⟨p6, 1, none⟩ (.int .i64 0)).setCell ⟨p6, 2, none⟩ (.int .i64 0) = w3 at hb6 ho6 ⊢
  (try simp only [Exit.inBlock, Exit.then])
  have hp := HP.out
  have hp6 := HP6.out
  have hlw := HLW.out
  have hord := S1.out.ord
  refine bodyPost_ret (res_box2 rfl rfl hb6) rfl ⟨rfl, S1.out.only ho6 (fun k hk e => by have := hk.2; omega) (by omega), (Only.of_below B1.out : Only s.F w w1).then_ ho6 (fun i hi e => by omega)⟩

/-- Where Set finds room: at the same place, or where there is room first. -/
def Room (n : Nat) (R : List Row) (r : Row) (p a : Nat) (ok : Bool) : Prop := (p = len r ∧ a = r.1 ∧ ok = true) ∨ (p ≠ len r ∧ FirstIs (tk (without R (ext r))) n p a ok)

theorem another_room (s : Sp) (n u : Nat) (R : List Row) (r : Row) (p a : Nat) (ok : Bool) (w : World) (h : SpaceAt w s n u R) (hr : r ∈ R) (hp1 : 1 ≤ p) (hp2 : p ≤ 9223372036854775807) (hR : Room n R r p a ok) :
    Calls Tryz.prog 67 #[.pointer (some ⟨s.sp, 0, none⟩), .agg #[.int .i64 r.1, .int .i64 (len r), .int .i64 r.2.length], .int .i64 p] w
      fun e w' => e = .returned (.tuple #[.int .i64 a, .bool ok]) ∧ SpaceAt w' s n u R ∧ Only s.F w w' := by
  rcases hR with ⟨h1, h2, h3⟩ | ⟨h1, h2⟩
  · rw [h1, h2, h3]
    exact (another_same s r.1 (len r) r.2.length w).mono fun e w' ⟨he, hb⟩ => ⟨he, h.fresh hb, Only.of_below hb⟩
  · exact (another_other s n u R r p w h hr h1 hp1 hp2).mono fun e w' ⟨a', ok', he, hf, hs, ho⟩ => by
      obtain ⟨rfl, rfl⟩ := firstIs_eq h2 hf
      exact ⟨he, hs, ho⟩

def SetPost (s : Sp) (n u : Nat) (R : List Row) (a : Nat) (xs : List Int) (w : World) (e : Ending) (w' : World) : Prop :=
  e = .returned (.tuple #[.agg #[.int .i64 a, .int .i64 (secs xs.length), .int .i64 xs.length], .int .i64 0]) ∧ SpaceAt w' s n (u + 1) (R ++ [(a, xs)]) ∧ Only s.F w w'

theorem room_free {n : Nat} {R : List Row} {r : Row} {p a : Nat} (g : Good n R) (hr : r ∈ R) (h : Room n R r p a true) : a + p ≤ n ∧ ∀ k, k < p → tk (without R (ext r)) (a + k) = false := by
  rcases h with ⟨h1, h2, _⟩ | ⟨_, h2⟩
  · subst h1 h2
    refine ⟨g.room r hr, fun k hk => ?_⟩
    rw [tk_false]
    intro q hq
    obtain ⟨hq, hne⟩ := mem_without.1 hq
    have := g.off hq hr (fun e => hne (by rw [e]))
    unfold Off at this
    omega
  · rcases h2 with ⟨_, h3, h4, _⟩ | ⟨h3, _⟩
    · exact ⟨h3, h4⟩
    · cases h3

set_option maxHeartbeats 4000000 in
theorem set_any {N : Nat → Prop} (s : Sp) (n u : Nat) (R : List Row) (r : Row) (a : Nat) (ok : Bool) (v : Value) (xs : List Int) (w : World) (h : SpaceAt w s n u R) (hr : r ∈ R) (hv : Bts N w v xs) (hN : ∀ b, N b → ¬ s.F b) (hy : Bytes xs) (hu : u ≤ 100000000000000)
    (hl : xs.length ≤ 9223372036854775807) (hR : Room n R r (secs xs.length) a ok) :
    Calls Tryz.prog 36 #[.pointer (some ⟨s.sp, 0, none⟩), .agg #[.int .i64 r.1, .int .i64 (len r), .int .i64 r.2.length], v] w
      (if ok = true then SetPost s n u (without R (ext r)) a xs w else FullPost s n u R 3 w) := by
  have hroom := h.good.room _ hr
  have hsm := h.small
  have hlen := secs_le r.2.length
  change r.2.length ≤ 64 * len r at hlen
  have HLW := Lib.hid h.lt
  have HR := Lib.hid hr
  have HN := Lib.hid hN
  have hwf : (ext r).wf := ⟨wf_of (by show (_ : Int) ≤ (r.1 : Int); omega) (by show (r.1 : Int) ≤ _; omega), wf_of (by show (_ : Int) ≤ (len r : Int); omega) (by show (len r : Int) ≤ _; omega), wf_of (by show (_ : Int) ≤ (r.2.length : Int); omega) (by show (r.2.length : Int) ≤ _; omega)⟩
  have hX : isX R (ext r) = true := isX_iff.2 ⟨_, hr, rfl⟩
  have BW : Below w.heap.size w ((w.alloc (.cells #[.int .i64 r.1, .int .i64 (len r), .int .i64 r.2.length] 47)).alloc (.cells #[.int .i64 0, .int .i64 0, .int .i64 0] 47)) := ((Below.refl _ _).alloc (Nat.le_refl _) _).alloc (by simp) _
  have HC := Lib.hid (check_one_ext s n u R (ext r) 0 _ (h.fresh BW) hwf (fun _ => rfl) (fun e => by rw [hX] at e; cases e))
  have HB := Lib.hid BW
  have X4 := (box3_new w r.1 (len r) r.2.length 47).fresh ((Below.refl _ _).alloc (Nat.le_refl _) (.cells #[.int .i64 0, .int .i64 0, .int .i64 0] 47))
  have X6 := box3_new (w.alloc (.cells #[.int .i64 r.1, .int .i64 (len r), .int .i64 r.2.length] 47)) 0 0 0 47
  have HV := Lib.hid hv
  obtain ⟨a0, cp, rfl, _⟩ := hv.form
  rw [World.size_alloc, World.size_alloc] at HC
  rw [World.size_alloc] at X6
  have HX := Lib.hid X6
  have HX4 := Lib.hid X4
  have hs1 := secs_pos xs.length
  have hs2 : secs xs.length ≤ 9223372036854775807 := by unfold secs; omega
  have HQ := Lib.hid (fun w => sectors_any xs.length w hl)
  have HAN := Lib.hid (fun w0 h0 => another_room s n u R r (secs xs.length) a ok w0 h0 hr hs1 hs2 hR)
  have HRM := Lib.hid (fun w0 h0 => remove_any s n u R r w0 h0 hr)
  have HST : Hid (ok = true → ∀ (w0 : World) (h0 : SpaceAt w0 s n u (without R (ext r))) (hb : Bts N w0 (.slice a0 xs.length cp) xs), Calls Tryz.prog 54 #[.pointer (some ⟨s.sp, 0, none⟩), .int .i64 a, .slice a0 xs.length cp] w0 (StPost s n u (without R (ext r)) a xs w0)) := fun hok w0 h0 hb => by
    subst hok
    obtain ⟨e1, e2⟩ := room_free h.good hr hR
    exact store_any s n u _ a _ xs w0 h0 hb hN hy e1 e2 hu
  obtain ⟨p, hp⟩ : ∃ p, w.heap.size = p := ⟨_, rfl⟩
  obtain ⟨p6, hp6⟩ : ∃ p6, p + 1 = p6 := ⟨_, rfl⟩
  have HP := Lib.hid (And.intro hp hp6)
  obtain ⟨q, hq⟩ : ∃ q, secs xs.length = q := ⟨_, rfl⟩
  have HQQ := Lib.hid hq
  rw [hq] at HQ HAN hs1 hs2
  have HC : Hid (Calls Tryz.prog 61 #[.pointer (some ⟨s.sp, 0, none⟩), .slice (some ⟨w.heap.size + 1 + 1, 0, none⟩) 1 1] (((w.alloc (.cells #[.int .i64 r.1, .int .i64 (len r), .int .i64 r.2.length] 47)).alloc (.cells #[.int .i64 0, .int .i64 0, .int .i64 0] 47)).alloc (.cells #[.int .i64 r.1, .int .i64 (len r), .int .i64 r.2.length] 47)) _) := HC.out
  obtain ⟨f, ys⟩ := r
  dsimp only at HC HAN HRM HX HX4 ⊢
  generalize len (f, ys) = m at HC HAN HRM HX HX4 hroom hlen HB ⊢
  clear h hX hwf BW hv X6 X4 hr hN hR hq
  rw [hp] at HC HX HX4
  rw [hp6] at HX
  clear hp6
  go_enter Tryz.func36, Tryz.ntmps36
  go_wp2_with fail
  refine HC.out.mono ?_
  rintro e w1 ⟨rfl, s1, b1⟩
  have S1 := Lib.hid s1
  have X6 := Lib.hid (HX.out.fresh b1)
  have x4 := HX4.out.fresh b1
  have X4 := Lib.hid x4
  have B1 : Hid (Below w.heap.size w w1) := HB.out.trans (b1.mono HB.out.size)
  have S1d : Hid (SpaceAt w1.drew s n u R) := s1.fresh ⟨rfl, rfl, rfl, Nat.le_refl _, fun _ _ => rfl⟩
  obtain ⟨y1, y2, y3, yf, _⟩ := x4
  have HK : Hid (∀ (w5 w6 : World), Only s.F w5 w6 →
      (w5.cell? ⟨p, 0, none⟩ = some (.int .i64 f) ∧ w5.cell? ⟨p, 1, none⟩ = some (.int .i64 m) ∧ w5.cell? ⟨p, 2, none⟩ = some (.int .i64 ys.length)) →
      (w6.cell? ⟨p, 0, none⟩ = some (.int .i64 f) ∧ w6.cell? ⟨p, 1, none⟩ = some (.int .i64 m) ∧ w6.cell? ⟨p, 2, none⟩ = some (.int .i64 ys.length))) := fun w5 w6 o ⟨h2, h3, h4⟩ => by
    have hp := HP.out.1
    have hlw := HLW.out
    have e2 : ∀ (j : Nat) (v : Value), w5.cell? ⟨p, j, none⟩ = some v → w6.cell? ⟨p, j, none⟩ = some v := fun j v hv => (o.cell (p := ⟨p, j, none⟩) (World.block_lt_of_cell? _ _ hv) (fun h => by have := h.2; dsimp only at this; omega)).trans hv
    exact ⟨e2 _ _ h2, e2 _ _ h3, e2 _ _ h4⟩
  clear s1 b1 yf HC hp
  go_wp2_with fail
  go_region_held3 (fun w' => w'.cell? ⟨p, 0, none⟩ = some (.int .i64 f) ∧ w'.cell? ⟨p, 1, none⟩ = some (.int .i64 m) ∧ w'.cell? ⟨p, 2, none⟩ = some (.int .i64 ys.length)) (first | go_keep | (exact HK.out _ _ o6 (by assumption))) (first | (go_at_call 53; refine (HQ.out _).mono ?_; rintro e w5 ⟨rfl, rfl⟩) | (go_at_call 67; refine (HAN.out _ S1d.out).mono ?_; rintro e w6 ⟨rfl, s6, o6⟩))
  rw [HP.out.2]
  have S6 := Lib.hid s6
  have B6 : Hid (Only s.F w w6) := (Only.of_below B1.out : Only s.F w w1).then_ (Only.then_ (F := s.F) (Only.of_below (below_drewN w1 w1.heap.size 1)) o6 (fun _ _ h => h)) (fun _ _ h => h)
  have O6 : Hid (Only s.F w1 w6) := Only.then_ (F := s.F) (Only.of_below (below_drewN w1 w1.heap.size 1)) o6 (fun _ _ h => h)
  have hp := HP.out.1
  have hp6 := HP.out.2
  have hlw := HLW.out
  have x6 := X6.out.only O6.out (fun h => by have := h.2; omega)
  have x4 := X4.out.only O6.out (fun h => by have := h.2; omega)
  have X6 := Lib.hid x6
  have X4 := Lib.hid x4
  clear s6 o6 hp hp6 hlw y1 y2 y3 S1 S1d
  cases ok
  · obtain ⟨y1, y2, y3, yf, _⟩ := x6
    have yf0 := yf 0
    have yf1 := yf 1
    have yf2 := yf 2
    clear yf x4
    go_wp2_with fail
    have hb6 := X6.out.put 0 0 0
    have ho6 : Only (· = p6) w6 (((w6.setCell ⟨p6, 0, none⟩ (.int .i64 0)).setCell ⟨p6, 1, none⟩ (.int .i64 0)).setCell ⟨p6, 2, none⟩ (.int .i64 0)) := put3_only (Only.refl _ _) (.inl rfl)
    generalize ((w6.setCell ⟨p6, 0, none⟩ (.int .i64 0)).setCell ⟨p6, 1, none⟩ (.int .i64 0)).setCell ⟨p6, 2, none⟩ (.int .i64 0) = w3 at hb6 ho6 ⊢
    (try simp only [Exit.inBlock, Exit.then])
    have hp := HP.out.1
    have hp6 := HP.out.2
    have hlw := HLW.out
    have hord := S6.out.ord
    refine bodyPost_ret (res_box2 rfl rfl hb6) rfl ?_
    exact ⟨rfl, S6.out.only ho6 (fun k hk e => by have := hk.2; omega) (by omega), B6.out.then_ ho6 (fun i hi e => by omega)⟩
  · obtain ⟨y1, y2, y3, _, _⟩ := x4
    clear x6
    go_wp2_with fail
    refine (HRM.out w6 S6.out).mono ?_
    rintro e w7 ⟨rfl, s7, o7⟩
    have S7 := Lib.hid s7
    have B7 : Hid (Only s.F w w7) := B6.out.then_ o7 (fun _ _ h => h)
    have V7 : Hid (Bts N w7 (.slice a0 xs.length cp) xs) := HV.out.only B7.out HN.out
    have hp := HP.out.1
    have hp6 := HP.out.2
    have hlw := HLW.out
    have X7 := Lib.hid (X6.out.only o7 (fun h => by have := h.2; omega))
    clear s7 o7 hp hp6 hlw
    go_wp2_with fail
    refine (HST.out (by trivial) w7 S7.out V7.out).mono ?_
    rintro e w8 ⟨rfl, s8, o8⟩
    have S8 := Lib.hid s8
    have B8 : Hid (Only s.F w w8) := B7.out.then_ o8 (fun _ _ h => h)
    have hp := HP.out.1
    have hp6 := HP.out.2
    have hlw := HLW.out
    have x8 := X7.out.only o8 (fun h => by have := h.2; omega)
    have X8 := Lib.hid x8
    obtain ⟨z1, z2, z3, zf, _⟩ := x8
    have zf0 := zf 0
    have zf1 := zf 1
    have zf2 := zf 2
    rw [HQQ.out]
    clear s8 o8 hp hp6 hlw zf
    go_wp2_with fail
    have hb6 := X8.out.put a q xs.length
    have ho6 : Only (· = p6) w8 (((w8.setCell ⟨p6, 0, none⟩ (.int .i64 a)).setCell ⟨p6, 1, none⟩ (.int .i64 q)).setCell ⟨p6, 2, none⟩ (.int .i64 xs.length)) := put3_only (Only.refl _ _) (.inl rfl)
    generalize ((w8.setCell ⟨p6, 0, none⟩ (.int .i64 a)).setCell ⟨p6, 1, none⟩ (.int .i64 q)).setCell ⟨p6, 2, none⟩ (.int .i64 xs.length) = w9 at hb6 ho6 ⊢
    (try simp only [Exit.inBlock, Exit.then])
    have hp := HP.out.1
    have hp6 := HP.out.2
    have hlw := HLW.out
    have hord := S8.out.ord
    refine bodyPost_ret (res_box2 rfl rfl hb6) rfl ?_
    exact ⟨by rw [HQQ.out]; rfl, S8.out.only ho6 (fun k hk e => by have := hk.2; omega) (by omega), B8.out.then_ ho6 (fun i hi e => by omega)⟩
end Go.Proofs.YtccpmaahnfgkeaaGreatDoor

/- Free, called on one extent: what it does; and small facts on rows that the walks of the laws share. -/
namespace Go.Proofs.YtccpmaahnfgkeaaGreatDoor
set_option maxRecDepth 1000000
open Go.ChangeShapes Go.WideShapes Go.ChangeAt Go.RowKit

theorem free_one_yes (s : Sp) (n u : Nat) (R : List Row) (x : Ext) (w : World) (h : SpaceAt w s n u R) (hx : x.wf) (hX : isX R x = true) :
    Calls Tryz.prog 38 #[.pointer (some ⟨s.sp, 0, none⟩), .slice (some ⟨w.heap.size, 0, none⟩) 1 1] (w.alloc (.cells #[.int .i64 x.f, .int .i64 x.n, .int .i64 x.s] 47)) (FrPost s n u (without R x) 0 w) :=
  (free_all (N := fun b => b = w.heap.size) s n u R _ [x] _ (h.fresh ((Below.refl _ _).alloc (Nat.le_refl _) _)) (one_ext w x rfl) (fun b hb hf => by have := hf.2; have := h.lt; omega) (fun y hy => by rw [List.mem_singleton.1 hy]; exact hx) (by simp) (ok_one hX)).mono
    fun e w' ⟨he, hs, ho⟩ => ⟨he, hs, (Only.of_below ((Below.refl _ _).alloc (Nat.le_refl _) _) : Only s.F w _).then_ ho (fun _ _ h => h)⟩
theorem free_one_no (s : Sp) (n u : Nat) (R : List Row) (x : Ext) (w : World) (h : SpaceAt w s n u R) (hx : x.wf) (hX : isX R x = false) :
    Calls Tryz.prog 38 #[.pointer (some ⟨s.sp, 0, none⟩), .slice (some ⟨w.heap.size, 0, none⟩) 1 1] (w.alloc (.cells #[.int .i64 x.f, .int .i64 x.n, .int .i64 x.s] 47)) (FrPost s n u R 4 w) :=
  (free_bad (N := fun b => b = w.heap.size) s n u R _ [x] _ (h.fresh ((Below.refl _ _).alloc (Nat.le_refl _) _)) (one_ext w x rfl) (fun y hy => by rw [List.mem_singleton.1 hy]; exact hx) (by simp) (bad_one hX)).mono
    fun e w' ⟨he, hs, ho⟩ => ⟨he, hs, (Only.of_below ((Below.refl _ _).alloc (Nat.le_refl _) _) : Only s.F w _).then_ ho (fun _ _ h => h)⟩
theorem ext_wf {n : Nat} {R : List Row} (h : Good n R) (hn : n ≤ 20000) {r : Row} (hr : r ∈ R) : (ext r).wf := by
  have h1 := h.room r hr
  have h2 := secs_le r.2.length
  have h3 : secs r.2.length = len r := rfl
  exact ⟨wf_of (by show (_ : Int) ≤ (r.1 : Int); omega) (by show (r.1 : Int) ≤ _; omega), wf_of (by show (_ : Int) ≤ (len r : Int); omega) (by show (len r : Int) ≤ _; omega), wf_of (by show (_ : Int) ≤ (r.2.length : Int); omega) (by show (r.2.length : Int) ≤ _; omega)⟩

theorem one_row (r : Row) (i : Nat) : tk [r] i = inR r.1 (len r) i := by simp [tk]
theorem fa1 (n q : Nat) (h : q ≤ n) : FirstIs (tk []) n q 0 true := .inl ⟨rfl, by omega, fun _ _ => rfl, fun b hb => by omega⟩
theorem fa2 (n qb : Nat) (a : List Int) (h1 : 1 ≤ qb) (h : secs a.length + qb ≤ n) : FirstIs (tk ([] ++ [(0, a)])) n qb (secs a.length) true := by
  have hl : len (0, a) = secs a.length := rfl
  refine .inl ⟨rfl, by omega, fun k hk => ?_, fun b hb => ⟨0, by omega, ?_⟩⟩
  · show tk [(0, a)] _ = _
    rw [one_row, ← Bool.not_eq_true, inR_iff, hl]; dsimp only; omega
  · show tk [(0, a)] _ = _
    rw [one_row, inR_iff, hl]; dsimp only; omega
end Go.Proofs.YtccpmaahnfgkeaaGreatDoor
