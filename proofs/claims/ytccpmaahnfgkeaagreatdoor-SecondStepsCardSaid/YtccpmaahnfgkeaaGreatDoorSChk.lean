/- Sets of numbers as maps in memory, and what the function check of package second does. No condition but those that each statement names. -/
import Derived.Test.YtccpmaahnfgkeaaGreatDoorSHas
namespace Go.Proofs.YtccpmaahnfgkeaaGreatDoor
set_option maxRecDepth 1000000
open Go.ChangeShapes Go.WideShapes Go.ChangeAt Go.RowKit
open Wd (Ob okO encO refsO ObjAt In64 I64)

/-- The map at block m holds the numbers of which P says so, at most e of them. -/
def SetAt (w : World) (m e : Nat) (P : Int → Bool) : Prop :=
  ∃ D : DataW Unit, w.ownsMap Tryz.prog 3 unitElem m e D ∧ ∀ i, W64 i → Maps.has D (.int .i64 i) = P i
theorem SetAt.only {w w' : World} {m e : Nat} {P : Int → Bool} {F : Nat → Prop} (h : SetAt w m e P) (o : Only F w w') (hF : ¬ F m) : SetAt w' m e P := by
  obtain ⟨D, ⟨es, ck, hb, r⟩, h2⟩ := h
  exact ⟨D, ⟨es, ck, (o.block m (Array.getElem?_eq_some_iff.1 hb).1 hF).trans hb, r⟩, h2⟩
theorem SetAt.fresh {w w' : World} {m e : Nat} {P : Int → Bool} (h : SetAt w m e P) (b : Below w.heap.size w w') : SetAt w' m e P :=
  h.only (F := fun _ => False) (Only.of_below b) id
theorem SetAt.lt {w : World} {m e : Nat} {P : Int → Bool} (h : SetAt w m e P) : m < w.heap.size := by
  obtain ⟨D, h1, h2⟩ := h
  exact h1.lt
theorem SetAt.congr {w : World} {m e : Nat} {P Q : Int → Bool} (h : SetAt w m e P) (he : ∀ x, W64 x → P x = Q x) : SetAt w m e Q := by
  obtain ⟨D, h1, h2⟩ := h
  exact ⟨D, h1, fun i hi => by rw [← he i hi]; exact h2 i hi⟩
theorem set_made (w : World) : SetAt (w.alloc (.map #[] 0)) w.heap.size 0 (fun _ => false) :=
  ⟨.map [], World.ownsMap_made _ _ _ _, fun _ _ => rfl⟩
theorem SetAt.look {w : World} {m e : Nat} {P : Int → Bool} (h : SetAt w m e P) (i : Int) (hi : W64 i) :
    (Instr.lookup 94 (.map (some m)) (.int .i64 i) true).run Tryz.prog w = .ok (.tuple #[.agg #[], .bool (P i)]) w := by
  obtain ⟨D, h1, h2⟩ := h
  obtain ⟨v, ps, hrun, hv⟩ := h1.look_ok intLaw Tryz.underlying94 (zero95 w) unitElem_mk (key_int hi)
  obtain ⟨rfl, _⟩ := unitElem_inv hv
  rw [hrun, h2 i hi]
theorem SetAt.store {w : World} {m e : Nat} {P : Int → Bool} (h : SetAt w m e P) (i : Int) (hi : W64 i) (he : e < 4000000000000000000) :
    ∃ w', (Instr.mapUpdate 94 (.map (some m)) (.int .i64 i) (.agg #[])).run Tryz.prog w = .ok () w' ∧ SetAt w' m (e + 1) (fun y => decide (y = i) || P y) ∧ Only (· = m) w w' := by
  obtain ⟨D, h1, h2⟩ := h
  obtain ⟨w', hrun, r1, r2⟩ := h1.store intLaw Tryz.underlying94 (by unfold maxLen; omega) (key_int hi) unitElem_mk
  refine ⟨w', hrun, ⟨_, r1, fun y hy' => ?_⟩, turned_only r2⟩
  by_cases hy : y = i
  · subst hy
    rw [Maps.has_put_same h1.isMap (intLaw.key (key_int hi))]
    simp
  · rw [Maps.has_put_other (lit_ne hy), h2 y hy']
    simp [hy]

def okIds (L : List Ent) (xs : List Int) : Prop := (∀ x ∈ xs, hasE L x = true) ∧ xs.Nodup
theorem okIds_snoc {L : List Ent} {xs : List Int} {k : Nat} (h : k < xs.length) (h1 : okIds L (xs.take k)) (h2 : hasE L xs[k] = true) (h3 : ¬ xs[k] ∈ xs.take k) : okIds L (xs.take (k + 1)) := by
  rw [List.take_succ_eq_append_getElem h]
  refine ⟨fun x hx => ?_, ?_⟩
  · rcases List.mem_append.1 hx with hx | hx
    · exact h1.1 x hx
    · rw [List.mem_singleton.1 hx]; exact h2
  · exact List.nodup_append.2 ⟨h1.2, by simp, fun a ha b hb => by rw [List.mem_singleton.1 hb]; exact fun e => h3 (e ▸ ha)⟩
theorem okIds_bad {L : List Ent} {xs : List Int} {k : Nat} (h : k < xs.length) (h2 : hasE L xs[k] = false ∨ xs[k] ∈ xs.take k) : ¬ okIds L xs := by
  rintro ⟨h3, h4⟩
  rcases h2 with h2 | h2
  · rw [h3 _ (List.getElem_mem h)] at h2; cases h2
  · have e : xs = xs.take k ++ xs[k] :: xs.drop (k + 1) := by rw [← List.drop_eq_getElem_cons h, List.take_append_drop]
    rw [e] at h4
    exact (List.nodup_append.1 h4).2.2 _ h2 _ List.mem_cons_self rfl

def CkI (c : Sc) (n u m : Nat) (L : List Ent) (g k : Nat) (xs : List Int) (w wr : World) : Prop :=
  SecAt wr c n u m L ∧ SetAt wr g k (fun y => decide (y ∈ xs.take k)) ∧ okIds L (xs.take k) ∧ Below g w wr

theorem scheck_nil (v : Value) (w : World) : Calls Tryz.prog 32 #[.pointer none, v] w fun e w' => e = .returned (.int .i64 1) ∧ w = w' := by
  go_enter Tryz.func32, Tryz.ntmps32
  go_wp2
  go_ret
  exact ⟨rfl, rfl⟩

set_option maxHeartbeats 4000000 in
theorem scheck_any {N : Nat → Prop} (c : Sc) (n u m : Nat) (L : List Ent) (v : Value) (xs : List Int) (t : Int) (w : World) (h : SecAt w c n u m L) (hv : Ints N w v xs) (hw : ∀ x ∈ xs, W64 x) (hl : xs.length ≤ 100000)
    (ht : okIds L xs → t = 0) (ht' : ¬ okIds L xs → t = 4) :
    Calls Tryz.prog 32 #[.pointer (some ⟨c.q, 0, none⟩), v] w (Tells (.int .i64 t) c n u m L w) := by
  have hmm := @run_makeMap Tryz.prog
  have HS := Lib.hid h
  have HV := Lib.hid hv
  have HW := Lib.hid hw
  have HT := Lib.hid ht
  have HT' := Lib.hid ht'
  obtain ⟨a, cp, rfl, hc, hcell⟩ := hv
  rw [List.length_map] at *
  have hI : CkI c n u m L w.heap.size 0 xs w (w.alloc (.map #[] 0)) := ⟨h.fresh ((Below.refl _ _).alloc (Nat.le_refl _) _), (set_made w).congr fun y _ => by simp, ⟨fun x hx => by simp at hx, by simp⟩, (Below.refl _ _).alloc (Nat.le_refl _) _⟩
  obtain ⟨g, hg⟩ : ∃ m, w.heap.size = m := ⟨_, rfl⟩
  have HM := Lib.hid hg
  rw [hg] at hI
  have HI := Lib.hid hI
  clear h hw ht ht' hcell hI
  go_enter Tryz.func32, Tryz.ntmps32
  go_wp2
  clear hg
  go_loopw [15] (fun i wr => ∃ k : Nat, k ≤ xs.length ∧ i = .int .i64 k ∧ CkI c n u m L g k xs w wr) (fun i _ => xs.length - (RowKit.intOf i).toNat)
  case atStart => exact ⟨0, Nat.zero_le _, rfl, HI.out⟩
  case round =>
    obtain ⟨k, hk, rfl, hs, hlv, hok, hb⟩ := hrel
    by_cases hlt : k < xs.length
    · have hm := HM.out
      obtain ⟨b, off, c', he, _, _, _, h1⟩ := Vals.at_ (k := k) (Vals.only HV.out (Only.of_below (F := fun _ => False) (by rw [hm]; exact hb)) (fun _ _ h => h)) (by rw [List.length_map]; exact hlt)
      injection he with e1 e2 e3
      subst e1 e3
      rw [List.getElem_map] at h1
      clear e2
      have hwf := HW.out _ (List.getElem_mem hlt)
      have HG := Lib.hid (okIds_snoc hlt hok)
      have HB := Lib.hid (okIds_bad (L := L) hlt)
      have HE : Hid (∀ y, W64 y → (decide (y = xs[k]) || decide (y ∈ xs.take k)) = decide (y ∈ xs.take (k + 1))) := fun y _ => by
        rw [Bool.eq_iff_iff]
        simp only [Bool.or_eq_true, decide_eq_true_eq]
        rw [List.take_succ_eq_append_getElem hlt, List.mem_append, List.mem_singleton]
        exact Or.comm
      generalize xs[k] = x at h1 hwf HG HB HE
      have hlk : (Instr.lookup 94 (.map (some g)) (.int .i64 x) true).run Tryz.prog wr = .ok (.tuple #[.agg #[], .bool (decide (x ∈ xs.take k))]) wr := hlv.look x hwf
      obtain ⟨twice, htw⟩ : ∃ twice, decide (x ∈ xs.take k) = twice := ⟨_, rfl⟩
      rw [htw] at hlk
      have HTW := Lib.hid htw
      have BW : Below wr.heap.size wr (wr.alloc (.cells #[] 95)) := (Below.refl _ _).alloc (Nat.le_refl _) _
      have S0 := Lib.hid (hs.fresh BW)
      have L0 := Lib.hid (hlv.fresh BW)
      have hgw := hlv.lt
      have HB0 : Hid (Below g w (wr.alloc (.cells #[] 95))) := hb.trans (BW.mono (by omega))
      have HWF := Lib.hid hwf
      clear hs hlv hb hok BW htw hwf
      go_wp2_with fail
      clear hlk
      have HHAS := Lib.hid (has_any c n u m L x HWF.out _ S0.out)
      have HG0 : Hid (g < (wr.alloc (.cells #[] 95)).heap.size) := L0.out.lt
      generalize wr.alloc (.cells #[] 95) = w1 at *
      refine HHAS.out.mono ?_
      rintro e w2 ⟨rfl, s2, b2⟩
      have S2 := Lib.hid s2
      have L2 := Lib.hid (L0.out.fresh b2)
      have B2 : Hid (Below g w w2) := HB0.out.trans (b2.mono (Nat.le_of_lt HG0.out))
      obtain ⟨has, hhas⟩ : ∃ has, hasE L x = has := ⟨_, rfl⟩
      rw [hhas]
      have HHH := Lib.hid hhas
      have hgs := L2.out.lt
      clear s2 b2 hhas hgw
      have BE : Hid (Below w.heap.size w w2) := by
        show Below w.heap.size w w2
        rw [HM.out]; exact B2.out
      rcases has with _ | _
      · go_wp2
        go_ret
        exact ⟨by rw [HT'.out (HB.out (.inl HHH.out))]; rfl, S2.out, BE.out⟩
      · rcases twice with _ | _
        · obtain ⟨w3, hst, l3, o3⟩ := L2.out.store x HWF.out (by omega)
          have L3 := Lib.hid l3
          have O3 := Lib.hid o3
          clear l3 o3
          go_wp2
          go_roundw
          case rel =>
            refine ⟨k + 1, by omega, by go_num, ?_, ?_, ?_, ?_⟩
            · have hm := HM.out
              have hlt := HS.out.lt
              have hord := HS.out.sp.ord
              exact S2.out.only O3.out (fun j hj e => by have := hj.2; omega) (by have := HS.out.ord; omega)
            · exact L3.out.congr HE.out
            · exact HG.out HHH.out (by simpa using HTW.out)
            · exact B2.out.trans (O3.out.below (fun i hi e => by omega) (by omega))
          case measure => simp [RowKit.intOf]; omega
        · go_wp2
          go_ret
          exact ⟨by rw [HT'.out (HB.out (.inr (by simpa using HTW.out)))]; rfl, S2.out, BE.out⟩
    · have HSf := Lib.hid hs
      have hok' : okIds L xs := by
        have := hok
        rwa [List.take_of_length_le (by omega)] at this
      have HK := Lib.hid hok'
      have HBf := Lib.hid hb
      clear hs hlv hok hb hok'
      go_wp2
      go_ret
      exact ⟨by rw [HT.out HK.out]; rfl, HSf.out, by rw [HM.out]; exact HBf.out⟩

/-- check, called on one number that lies in a box. -/
theorem scheck_one (c : Sc) (n u m : Nat) (L : List Ent) (i : Int) (t : Int) (w : World) (h : SecAt w c n u m L) (hx : W64 i) (ht : hasE L i = true → t = 0) (ht' : hasE L i = false → t = 4) :
    Calls Tryz.prog 32 #[.pointer (some ⟨c.q, 0, none⟩), .slice (some ⟨w.heap.size, 0, none⟩) 1 1] (w.alloc (.cells #[.int .i64 i] 3)) (Tells (.int .i64 t) c n u m L w) :=
  (scheck_any (N := fun _ => True) c n u m L _ [i] t _ (h.fresh ((Below.refl _ _).alloc (Nat.le_refl _) _))
    ⟨_, _, rfl, Nat.le_refl _, .inr ⟨w.heap.size, 0, rfl, trivial, fun j u hu => by
      have : j = 0 := by
        have := (List.getElem?_eq_some_iff.1 hu).1
        simpa using this
      subst this
      injection hu with hu
      rw [← hu, World.cell?_alloc_at _ _ _ _ (by simp)]; rfl⟩⟩
    (fun y hy => by rw [List.mem_singleton.1 hy]; exact hx) (by simp) (fun h1 => ht (h1.1 i (by simp))) (fun h1 => ht' (by
      cases e : hasE L i
      · rfl
      · exact absurd ⟨fun y hy => by rw [List.mem_singleton.1 hy]; exact e, by simp⟩ h1))).mono fun e w' ⟨he, hs, hb⟩ => ⟨he, hs, ((Below.refl _ _).alloc (Nat.le_refl _) _).trans (hb.mono (by simp))⟩
end Go.Proofs.YtccpmaahnfgkeaaGreatDoor
