/- The package's beginnings: what it answers. -/
import Derived.Test.YtmcikjihkgplaaaDoorPd
import Derived.Test.YtmcikjihkgplaaaDoorKJw
namespace Go.Proofs.YtmcikjihkgplaaaDoor
set_option maxRecDepth 1000000
open Go.ChangeShapes Go.WideShapes Go.ChangeAt Go.RowKit

theorem Tryd.info4 : (Tryd.prog.info? 4).map (fun i => (i.zero, i.size, i.bytes)) = some (some (.bool false), 1, 1) := by kernel_rfl
theorem mk_bools (w : World) (n : Nat) (hn : n ≤ 1000000000001) : (Instr.makeSlice 52 (.int .i64 (n : Int)) (.int .i64 (n : Int))).run Tryd.prog w = .ok (.slice (some ⟨w.heap.size, 0, none⟩) n n) (w.alloc (.cells (madeCells #[Value.bool false] n) 4)) := by
  obtain ⟨i0, hi, hz0, hz1, hz2⟩ := info_parts Tryd.info4
  have h := run_make (P := Tryd.prog) w 52 4 i0 (.bool false) Tryd.underlying52 hi hz0 .i64 .i64 (n : Int) (n : Int) (by omega) (by omega) (by rw [hz2]; omega) (by omega)
  rw [hz1, Nat.mul_one, show ((n : Int)).toNat = n by omega] at h
  exact h
theorem made_bool (w : World) (n j : Nat) (h : j < n) : (w.alloc (.cells (madeCells #[Value.bool false] n) 4)).cell? ⟨w.heap.size, j, none⟩ = some (.bool false) := by
  rw [World.cell?_alloc_at _ _ _ _ rfl]
  show (madeCells #[Value.bool false] n)[j]? = _
  rw [← Array.getElem?_toList, toList_madeCells_one, List.getElem?_replicate, if_pos h]
theorem frozen_one (w : World) (cs : Array Value) (t : TypeId) (j : Nat) : (w.alloc (.cells cs t)).frozen? ⟨w.heap.size, j, none⟩ = false := by
  have h : (w.alloc (.cells cs t)).heap[w.heap.size]? = some (.cells cs t) := heap_alloc_new w _
  unfold World.frozen?
  simp only [h]
  simp
/-- Does one of the first i begin there? -/
def begB (L : List OpT) (i j : Nat) : Bool := (List.range i).any fun k => decide (begAt L k = (j : Int))
theorem begB_iff (L : List OpT) (i j : Nat) : begB L i j = true ↔ ∃ k, k < i ∧ begAt L k = (j : Int) := by simp [begB]
theorem begB_succ (L : List OpT) (i j : Nat) : begB L (i + 1) j = (decide (begAt L i = (j : Int)) || begB L i j) := by
  rw [begB, List.range_succ, List.any_append, Bool.or_comm]; simp [begB]
/-- A row of n + 1 bools in memory. -/
def Flags (w : World) (g n : Nat) (S : Nat → Bool) : Prop := (∀ j, j ≤ n → w.cell? ⟨g, j, none⟩ = some (.bool (S j))) ∧ (∀ j, w.frozen? ⟨g, j, none⟩ = false) ∧ g < w.heap.size
theorem Flags.kept {w w' : World} {g n B : Nat} {S : Nat → Bool} (h : Flags w g n S) (hb : Below B w w') (hg : g < B) : Flags w' g n S :=
  ⟨fun j hj => (hb.cell (p := ⟨g, j, none⟩) hg).trans (h.1 j hj), fun j => (World.frozen?_of_block (w := w) (a := ⟨g, j, none⟩) (hb.block g hg)).trans (h.2.1 j), Nat.lt_of_lt_of_le h.2.2 hb.size⟩
theorem Flags.next {w w' : World} {g n : Nat} {S : Nat → Bool} (h : Flags w g n S) (hb : Below w.heap.size w w') : Flags w' g n S := h.kept hb h.2.2
theorem Flags.set {w : World} {g n : Nat} {S : Nat → Bool} (h : Flags w g n S) {p : Nat} (hp : p ≤ n) : Flags (w.setCell ⟨g, p, none⟩ (.bool true)) g n (fun j => decide ((p : Int) = (j : Int)) || S j) := by
  refine ⟨fun j hj => ?_, fun j => ?_, by simpa [World.setCell] using h.2.2⟩
  · by_cases e : p = j
    · subst e
      rw [World.cell?_setCell_same _ _ _ (h.1 p hp)]; simp
    · rw [World.cell?_setCell_other _ _ _ _ (by intro e2; injection e2; omega), h.1 j hj]
      simp; omega
  · rw [World.frozen?_setCell]; exact h.2.1 j
theorem Flags.as {w : World} {g n : Nat} {S S' : Nat → Bool} (h : Flags w g n S) (hs : ∀ j, S j = S' j) : Flags w g n S' := ⟨fun j hj => by rw [← hs]; exact h.1 j hj, h.2⟩
def BegPost (L : List OpT) (n : Nat) (w : World) (e : Ending) (w' : World) : Prop := ∃ g, e = .returned (.slice (some ⟨g, 0, none⟩) (n + 1) (n + 1)) ∧ Flags w' g n (fun j => decide ((n : Int) = (j : Int)) || begB L L.length j) ∧ w.heap.size ≤ g ∧ Below w.heap.size w w'
set_option maxHeartbeats 4000000 in
theorem begin_code {N : Nat → Prop} (v : Value) (L : List OpT) (n : Nat) (w : World) (hv : OpsAt N w v L) (hlim : ∀ o ∈ L, Lim o) (hbeg : ∀ i, i < L.length → begAt L i ≤ n) (hn : n ≤ 1000000000000) (hl : L.length ≤ 1000000000000) :
    Calls Tryd.prog 27 #[v, .int .i64 n] w (BegPost L n w) := by
  obtain ⟨nl, hnl⟩ : ∃ n, L.length = n := ⟨_, rfl⟩
  have HNL := Lib.hid hnl
  have HV : Hid (∀ (w' : World) (j : Nat), Below w.heap.size w w' → j < nl → ∃ b off c o, v = .slice (some ⟨b, off, none⟩) nl c ∧ L[j]? = some o ∧ RowO w' b (off + j * 4) o) := Lib.hid fun w' j hb hj => by
    obtain ⟨b, off, c, hv', _, _, hr⟩ := (hv.next hb).at_ (j := j) (by omega)
    exact ⟨b, off, c, L[j], by rw [hv', hnl], List.getElem?_eq_getElem (by omega), hr⟩
  have HB0 := Lib.hid hbeg
  have HLim := Lib.hid hlim
  obtain ⟨va, vc, rfl, _⟩ := hv
  unfold BegPost
  rw [hnl] at hl HV HB0 ⊢
  clear hnl hbeg hlim
  have hmk : (Instr.makeSlice 52 (.int .i64 ((n : Int) + 1)) (.int .i64 ((n : Int) + 1))).run Tryd.prog w = .ok (.slice (some ⟨w.heap.size, 0, none⟩) (n + 1) (n + 1)) (w.alloc (.cells (madeCells #[Value.bool false] (n + 1)) 4)) := by
    have := mk_bools w (n + 1) (by omega)
    rwa [show ((n + 1 : Nat) : Int) = (n : Int) + 1 by omega] at this
  have F0 : Hid (Flags (w.alloc (.cells (madeCells #[Value.bool false] (n + 1)) 4)) w.heap.size n (begB L 0)) := Lib.hid ⟨fun j hj => by rw [made_bool w (n + 1) j (by omega)]; rfl, fun j => frozen_one _ _ _ _, by simp⟩
  have K0 := Lib.hid (below_new w (.cells (madeCells #[Value.bool false] (n + 1)) 4))
  go_enter Tryd.func27, Tryd.ntmps27
  go_upto_region 2 with fail
  generalize w.alloc (.cells (madeCells #[Value.bool false] (n + 1)) 4) = w1 at *
  clear hmk
  go_wp2_with fail
  go_loopw [6, 14] (fun s6 s14 wx => ∃ i : Nat, i ≤ nl ∧ s14 = .int .i64 i ∧ s6 = .int .i64 (begAt L i) ∧ Hid (Flags wx w.heap.size n (begB L i)) ∧ Hid (Below w.heap.size w wx)) (fun _ s14 _ => nl - (RowKit.intOf s14).toNat)
  case atStart => exact ⟨0, Nat.zero_le _, rfl, rfl, F0, K0⟩
  case round =>
    obtain ⟨i, hi, rfl, rfl, HF, HB⟩ := hrel
    clear F0 K0
    have hb0 := begAt_rng HLim.out i (by rw [HNL.out]; exact hi)
    by_cases hlt : i < nl
    · obtain ⟨b, off, c, o, hvv, ho, x0, x1, x2, x3⟩ := HV.out wr i HB.out hlt
      injection hvv with e1 _ e3
      subst e1 e3
      have hle := HB0.out i hlt
      have hs := begAt_succ ho
      obtain ⟨_, _, _, _, _, _, l7, l8⟩ := HLim.out o (List.mem_of_getElem? ho)
      have d1 : decide ((i : Int) < nl) = true := by simpa using hlt
      have d2 : decide (i < nl) = true := by simpa using hlt
      obtain ⟨p, hp⟩ : ∃ p : Nat, begAt L i = (p : Int) := Int.eq_ofNat_of_zero_le hb0.1
      rw [hp] at hs hle
      have hpn : p ≤ n := by omega
      have HS := Lib.hid hs
      have HF' : Hid (∀ w', Flags w' w.heap.size n (fun j => decide ((p : Int) = (j : Int)) || begB L i j) → Flags w' w.heap.size n (begB L (i + 1))) := Lib.hid fun w' h => h.as fun j => by rw [begB_succ, hp]
      rw [hp]
      have B4 := Lib.hid (box_new wr (.int .i64 o.k) (.int .i64 o.n) (.int .i64 o.m) (.int .i64 o.l))
      have HF4 := Lib.hid (HF.out.next (below_new wr (.cells #[.int .i64 o.k, .int .i64 o.n, .int .i64 o.m, .int .i64 o.l] 25)))
      have K4 := Lib.hid (HB.out.alloc HB.out.size (.cells #[.int .i64 o.k, .int .i64 o.n, .int .i64 o.m, .int .i64 o.l] 25))
      have hne : wr.heap.size ≠ w.heap.size := by have := HF.out.2.2; omega
      clear hb0 hs ho HV hp hle
      go_upto_region 6 with fail
      generalize wr.alloc (.cells #[.int .i64 o.k, .int .i64 o.n, .int .i64 o.m, .int .i64 o.l] 25) = w2 at *
      have y0 := HF4.out.1 p hpn
      have y1 := HF4.out.2.1
      obtain ⟨⟨z0, z1, z2, z3⟩, _, _⟩ := B4.out
      clear x0 x1 x2 x3
      have hp0 : (0 : Int) ≤ (p : Int) := by omega
      have hp1 : (p : Int) < (n : Int) + 1 := by omega
      have hp2 : p < n + 1 := by omega
      have hs2 : (p : Int) + o.l ≤ 1000000000003 := by omega
      have hs3 : (0 : Int) ≤ (p : Int) + o.l := by omega
      go_wp2_with fail
      exact ⟨⟨i + 1, by omega, by go_num, by rw [HS.out], Lib.hid (HF'.out _ (HF4.out.set hpn)), Lib.hid (K4.out.setCell (Nat.le_refl _) _)⟩, by simp [RowKit.intOf]; omega⟩
    · have hi' : i = nl := by omega
      have d1 : decide ((i : Int) < nl) = false := by simp [hi']
      have d2 : decide (i < nl) = false := by simp [hi']
      have HF2 : Hid (Flags wr w.heap.size n (begB L nl)) := Lib.hid (by rw [← hi']; exact HF.out)
      have y0 := HF2.out.1 n (Nat.le_refl _)
      have y1 := HF2.out.2.1
      clear hi' hlt hb0 HV HF HB0
      go_wp2_with fail
      go_ret
      exact ⟨w.heap.size, rfl, HF2.out.set (Nat.le_refl _), Nat.le_refl _, HB.out.setCell (Nat.le_refl _) _⟩
end Go.Proofs.YtmcikjihkgplaaaDoor
