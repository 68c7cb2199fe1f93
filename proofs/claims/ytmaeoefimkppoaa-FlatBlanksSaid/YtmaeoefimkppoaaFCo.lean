/- What Collect of a memory does. -/
import Derived.Test.YtmaeoefimkppoaaFRk
namespace Go.Proofs.Ytmaeoefimkppoaa.Fl
set_option maxRecDepth 1000000
open Go.ChangeShapes Go.WideShapes Go.ChangeAt Go.RowKit
open Go.Proofs.Ytmaeoefimkppoaa.Wd

def inB (Rs : List Int) (i : Int) : Bool := decide (i ∈ Rs)
theorem reach_mask (L : List (Option En)) (Rs : List Int) : reachF L Rs = fun i => (at_ (mask (inB Rs) L) i).map En.val := by
  funext i
  unfold reachF inB
  rw [at_mask]
  by_cases h : i ∈ Rs <;> simp [h]
section
variable {w w' : World} {K : Nat → Prop} {m : Nat} {r : Option Nat} {nv : Value} {L : List (Option En)}
theorem MemR.collected (h : MemR w K m r nv L) {rm : Nat} {nv' : Value} {Rs : List Int} (o : Only (· = m) w w') (hrs : ∀ i ∈ Rs, i ∈ ids L) (hnd : Rs.Nodup)
    (c0 : w'.cell? ⟨m, 0, none⟩ = some (.int .i64 (L.length : Nat))) (c1 : w'.cell? ⟨m, 1, none⟩ = some (.map (some rm))) (c2 : w'.cell? ⟨m, 2, none⟩ = some nv') (fz : ∀ j, w'.frozen? ⟨m, j, none⟩ = false)
    (mp : MapV w' rm Rs.length (reachF L Rs)) (rml : w.heap.size ≤ rm) (nums : w'.ownsRow w.heap.size 3 1 nv' (ids (mask (inB Rs) L)).length ((ids (mask (inB Rs) L)).map (Value.int .i64))) :
    MemR w' K m (some rm) nv' (mask (inB Rs) L) := by
  have was : ∀ {i e}, at_ (mask (inB Rs) L) i = some e → at_ L i = some e := fun {i e} he => by
    rw [at_mask] at he
    split at he
    · exact he
    · cases he
  have nk : ∀ g, w.heap.size ≤ g → ¬ K g := fun g hg hk => by have := h.kb g hk; omega
  have nm : ∀ g, w.heap.size ≤ g → g ≠ m := fun g hg e => by have := h.lt; omega
  have hnb : ∀ g, nv'.ownBlock = some g → w.heap.size ≤ g := fun g hg => (nums.lt g hg).1
  refine { c0 := by rw [mask_len]; exact c0, c1 := c1, c2 := c2, fz := fz, mp := .inr ⟨rm, rfl, ?_⟩, nums := own_down nums (Nat.zero_le _), rows := fun i e he => (h.rows i e (was he)).only o (fun g hg e' => (h.off i e (was he) g hg).2 e'), apart := fun i j e e' he he' => h.apart i j e e' (was he) (was he'), off := fun i e he g hg => ⟨fun hg2 => ?_, (h.off i e (was he) g hg).2⟩, offn := fun g hg => nm g (hnb g hg), offr := fun b hb => (by cases hb; exact nm _ rml), km := h.km, kr := fun b hb => (by cases hb; exact nk _ rml), kn := fun g hg => nk g (hnb g hg), ko := fun i e he => h.ko i e (was he), kb := fun g hg => Nat.lt_of_lt_of_le (h.kb g hg) o.size, lt := Nat.lt_of_lt_of_le h.lt o.size, few := by rw [mask_len]; exact h.few }
  · rw [mask_len]
    have h1 := nodup_le hnd hrs
    have h2 := ids_le L
    rw [← reach_mask]
    exact mp.mono (by omega)
  · have := hnb g hg2
    have := (h.rows i e (was he)).lt hg
    omega
end
def CollPost (K : Nat → Prop) (m : Nat) (E : Mem) (rs : List Int) (w : World) (e : Ending) (w' : World) : Prop := e = .returned (.tuple #[.int .i64 (collN E rs), .int .i64 0]) ∧ MemB K w' m (collF E rs) ∧ Keeps K w w'
theorem coll_eq {L : List (Option En)} {rs Rs : List Int} (h : ∀ i, i ∈ Rs ↔ Comes (mapO En.o L) rs i) : mapO En.o (mask (inB Rs) L) = collF (mapO En.o L) rs := by
  rw [mapO_mask]
  unfold collF
  congr 1
  funext i
  unfold inB
  rw [Bool.eq_iff_iff, comesB_iff, ← h i]
  simp
set_option maxHeartbeats 2000000 in
theorem collect_any {w : World} {K : Nat → Prop} {m : Nat} {E : Mem} (h : MemB K w m E) (rv : Value) (roots : List Int) (hrv : RowI w rv roots) (hrl : roots.length ≤ 1000) :
    Calls Try.prog 29 #[.pointer (some ⟨m, 0, none⟩), rv] w (CollPost K m E (refsL roots) w) := by
  obtain ⟨r, nv, L, h, rfl⟩ := h
  obtain ⟨ra, rc, rfl, hrc⟩ := hrv.2.2
  have HH := Lib.hid h
  have HRE := Lib.hid (reach_any h _ roots hrv hrl)
  have q0 := h.c0
  have q1 := h.c1
  have q2 := h.c2
  have qf := h.fz
  have hlt := h.lt
  have hlen := h.len
  have hfew : (ids L).length ≤ 1000000 := Nat.le_trans (ids_le L) h.few
  obtain ⟨n, hn⟩ : ∃ n, (ids L).length = n := ⟨_, rfl⟩
  have HNN := Lib.hid hn
  rw [hn] at hlen hfew
  clear h hrv hn
  go_enter Try.func29, Try.ntmps29
  go_wp2_with fail
  refine HRE.out.mono ?_
  rintro e w1 ⟨rm, Rs, rfl, hrm, hmp, hb, hcm, hnd⟩
  have HND := Lib.hid hnd
  clear hnd
  have HHb := HH.out.fresh hb
  have x0 := HHb.c0
  have x1 := HHb.c1
  have x2 := HHb.c2
  have xf := HHb.fz
  have xl := HHb.lt
  have hbz := hb.size
  have hnr : ¬ (rm = m) := fun e => by omega
  have o2 : Only (· = m) w1 (w1.setCell ⟨m, 1, none⟩ (.map (some rm))) := only_set w1 m 1 _
  have hmp2 : MapV (w1.setCell ⟨m, 1, none⟩ (.map (some rm))) rm Rs.length (reachF L Rs) := hmp.only o2 hnr
  have hkey : ∀ i, W64 i → (i ∈ ids (mask (inB Rs) L) ↔ (reachF L Rs i).isSome = true) := fun i _ => by
    rw [mem_ids, reach_mask]
    show _ ↔ ((at_ (mask (inB Rs) L) i).map En.val).isSome = true
    cases at_ (mask (inB Rs) L) i <;> simp
  have hw64 : ∀ i ∈ ids (mask (inB Rs) L), W64 i := ids_w64 (by rw [mask_len]; exact HH.out.few)
  have hil : (ids (mask (inB Rs) L)).length ≤ 1000000 := Nat.le_trans (ids_le _) (by rw [mask_len]; exact HH.out.few)
  have HSO := Lib.hid (sorted_any hmp2 (ids (mask (inB Rs) L)) (ids_rise _) hw64 hkey hil)
  have g1 : (w1.setCell ⟨m, 1, none⟩ (.map (some rm))).cell? ⟨m, 1, none⟩ = some (.map (some rm)) := World.cell?_setCell_same _ _ _ x1
  have g0 : (w1.setCell ⟨m, 1, none⟩ (.map (some rm))).cell? ⟨m, 0, none⟩ = some (.int .i64 (L.length : Nat)) := by rw [World.cell?_setCell_other _ _ _ _ (by simp)]; exact x0
  have g2 : (w1.setCell ⟨m, 1, none⟩ (.map (some rm))).cell? ⟨m, 2, none⟩ = some nv := by rw [World.cell?_setCell_other _ _ _ _ (by simp)]; exact x2
  have gf : ∀ j, (w1.setCell ⟨m, 1, none⟩ (.map (some rm))).frozen? ⟨m, j, none⟩ = false := fun j => by rw [World.frozen?_setCell]; exact xf j
  have gl : m < (w1.setCell ⟨m, 1, none⟩ (.map (some rm))).heap.size := by simpa [World.setCell] using xl
  have HMP := Lib.hid hmp2
  have HB := Lib.hid hb
  have HO2 := Lib.hid o2
  have HCM := Lib.hid hcm
  have HRM := Lib.hid hrm
  have HKY := Lib.hid hkey
  have HWK := Lib.hid hw64
  have hle : (ids (mask (inB Rs) L)).length ≤ (ids L).length := nodup_le (ids_nodup _) (fun i hi => by
    rw [mem_ids, at_mask] at hi
    split at hi
    · exact mem_ids.2 hi
    · cases hi)
  obtain ⟨kn, hkn⟩ : ∃ kn, (ids (mask (inB Rs) L)).length = kn := ⟨_, rfl⟩
  have HKN := Lib.hid hkn
  rw [HNN.out] at hle
  rw [hkn] at hle hil
  clear hmp hmp2 hb o2 hcm hrm hkey hw64 HHb HRE q0 q1 q2 qf hlt hkn x0 x2 hnr
  have hwr : wrap64 ((n : Int) - kn) = (n : Int) - kn := by unfold wrap64; omega
  go_wp2_with fail
  refine HSO.out.mono ?_
  rintro e w3 ⟨nv', rfl, hown, hb3⟩
  obtain ⟨an, cn, rfl⟩ := own_form hown
  have y0 := (hb3.cell (p := ⟨m, 0, none⟩) gl).trans g0
  have y1 := (hb3.cell (p := ⟨m, 1, none⟩) gl).trans g1
  have y2 := (hb3.cell (p := ⟨m, 2, none⟩) gl).trans g2
  have yf := fun j => (hb3.frozen (p := ⟨m, j, none⟩) gl).trans (gf j)
  have yl := Nat.lt_of_lt_of_le gl hb3.size
  have hms : w.heap.size ≤ (w1.setCell ⟨m, 1, none⟩ (.map (some rm))).heap.size := by simpa [World.setCell] using hbz
  have hmn : m < w.heap.size := HH.out.lt
  have o3 : Only (· = m) w w3 := by
    refine ⟨(hb3.os.trans HO2.out.os).trans HB.out.os, (hb3.tape.trans HO2.out.tape).trans HB.out.tape, (hb3.output.trans HO2.out.output).trans HB.out.output, Nat.le_trans hms hb3.size, fun k hk hne => ?_⟩
    exact ((hb3.block k (Nat.lt_of_lt_of_le hk hms)).trans (HO2.out.block k (Nat.lt_of_lt_of_le hk hbz) hne)).trans (HB.out.block k hk)
  have o4 := only_set w3 m 2 (.slice an (ids (mask (inB Rs) L)).length cn)
  have o5 : Only (· = m) w (w3.setCell ⟨m, 2, none⟩ (.slice an (ids (mask (inB Rs) L)).length cn)) := o3.trans o4
  have hmp3 : MapV (w3.setCell ⟨m, 2, none⟩ (.slice an (ids (mask (inB Rs) L)).length cn)) rm Rs.length (reachF L Rs) := (HMP.out.only (only_below hb3) id).only o4 (fun e => by have := HRM.out; omega)
  have hl3 := hmp3.len (ids (mask (inB Rs) L)) (ids_nodup _) HWK.out HKY.out
  have hown4 := own_only (own_down hown hms) o4 (fun g hg e => by have := (hown.lt g hg).1; omega)
  have HC := Lib.hid (HH.out.collected o5 (fun i hi => by
    have := ((HCM.out i).1 hi).is
    rw [isSome_map] at this
    exact mem_ids.2 this) HND.out (by rw [World.cell?_setCell_other _ _ _ _ (by simp)]; exact y0) (by rw [World.cell?_setCell_other _ _ _ _ (by simp)]; exact y1) (World.cell?_setCell_same _ _ _ y2) (fun j => by rw [World.frozen?_setCell]; exact yf j) hmp3 HRM.out hown4)
  have HK : Hid (Keeps K w (w3.setCell ⟨m, 2, none⟩ (.slice an (ids (mask (inB Rs) L)).length cn))) := Lib.hid (only_keeps o5 HH.out.km)
  have HN2 : Hid (collN (mapO En.o L) (refsL roots) = (n : Int) - kn) := Lib.hid (by
    unfold collN
    rw [← coll_eq HCM.out, ids_mapO, ids_mapO, HNN.out, HKN.out])
  have z1 : (w3.setCell ⟨m, 2, none⟩ (.slice an (ids (mask (inB Rs) L)).length cn)).cell? ⟨m, 1, none⟩ = some (.map (some rm)) := by rw [World.cell?_setCell_other _ _ _ _ (by simp)]; exact y1
  rw [HKN.out] at hl3 z1 HC HK
  have HKN2 := HKN.out
  rw [HKN2]
  clear o3 o4 o5 hmp3 hown4 hown hb3 g0 g1 g2 gf x1 HO2 HB HMP HSO hms HKN2
  go_wp2
  go_ret2
  refine ⟨by rw [HN2.out]; rfl, ⟨_, _, _, HC.out, (coll_eq HCM.out).symm⟩, HK.out⟩
end Go.Proofs.Ytmaeoefimkppoaa.Fl
