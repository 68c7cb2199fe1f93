/- slices.Backward over bytes: what it gives, one behind the other, the last one first. -/
import Derived.Test.YtbfacdfmanffdaaGreatDoorJRf
import Derived.Test.YtbfacdfmanffdaaGreatDoorJTr
namespace Go.Proofs.YtbfacdfmanffdaaGreatDoor
set_option maxRecDepth 1000000
open Go.ChangeShapes Go.WideShapes Go.ChangeAt Go.RowKit Go.Shelf

def encB (x : Nat × Int) : Array Value := #[.int .i64 x.1, .int .u8 x.2]
/-- Place and byte, the last one first. -/
def backL (A : List Int) (L : Nat) : List (Nat × Int) := (List.range L).map fun k => (L - 1 - k, dgt A (L - 1 - k))
theorem backL_len (A : List Int) (L : Nat) : (backL A L).length = L := by simp [backL]
theorem backL_at {A : List Int} {L j : Nat} (h : j < L) : (backL A L)[L - (j + 1)]? = some (j, dgt A j) := by
  unfold backL
  rw [List.getElem?_map, List.getElem?_range (by omega)]
  show some (L - 1 - (L - (j + 1)), dgt A (L - 1 - (L - (j + 1)))) = _
  rw [show L - 1 - (L - (j + 1)) = j by omega]
theorem backL_is {A : List Int} {L k : Nat} {x : Nat × Int} (h : (backL A L)[k]? = some x) : k < L ∧ x = (L - 1 - k, dgt A (L - 1 - k)) := by
  have hk : k < L := by have := (List.getElem?_eq_some_iff.1 h).1; rwa [backL_len] at this
  unfold backL at h
  rw [List.getElem?_map, List.getElem?_range hk] at h
  injection h with h
  exact ⟨hk, h.symm⟩
/-- What it reads ahead of round k: the box, and the bytes that are still to come. -/
def BackRd (Bs : Nat) (a : Option Addr) (c : Nat) (A : List Int) (L : Nat) (k : Nat) (W : World) : Prop :=
  W.cell? ⟨Bs, 0, none⟩ = some (.slice a L c) ∧ ∀ i, i + k < L → ∃ b off, a = some ⟨b, off, none⟩ ∧ W.cell? ⟨b, off + i, none⟩ = some (.int .u8 (dgt A i))
theorem BackRd.next {Bs : Nat} {a : Option Addr} {c : Nat} {A : List Int} {L k : Nat} {W W' : World} (h : BackRd Bs a c A L k W) (hb : Below W.heap.size W W') : BackRd Bs a c A L k W' :=
  ⟨(hb.cell (p := ⟨Bs, 0, none⟩) (World.block_lt_of_cell? _ _ h.1)).trans h.1, fun i hi => by
    obtain ⟨b, off, h1, h2⟩ := h.2 i hi
    exact ⟨b, off, h1, (hb.cell (p := ⟨b, off + i, none⟩) (World.block_lt_of_cell? _ _ h2)).trans h2⟩⟩
theorem BackRd.grown {Bs : Nat} {a : Option Addr} {c : Nat} {A : List Int} {L k : Nat} {W W' : World} {row : Option Nat} (h : BackRd Bs a c A L k W) (hg : W.grownBy W' row) (hr : ∀ r, row = some r → ∃ o : Obj, W.heap[r]? = some o ∧ o.isCells = false) : BackRd Bs a c A L k W' :=
  ⟨cell_kept h.1 hg hr, fun i hi => by
    obtain ⟨b, off, h1, h2⟩ := h.2 i hi
    exact ⟨b, off, h1, cell_kept h2 hg hr⟩⟩
theorem BackRd.set_ {Bs : Nat} {a : Option Addr} {c : Nat} {A : List Int} {L k : Nat} {W : World} {B : Nat} {t : TypeId} {u u' : Value} (h : BackRd Bs a c A L k W) (hb : Boxed W B t u) (hu : ∀ x m c', u ≠ .slice x m c' := by intros; simp) (hu' : ∀ d, u ≠ .int .u8 d := by intros; simp) : BackRd Bs a c A L k (W.setCell ⟨B, 0, none⟩ u') := by
  have ne : ∀ (b o : Nat) (v : Value), W.cell? ⟨b, o, none⟩ = some v → v ≠ u → b ≠ B := fun b o v hv hne e => by
    subst e
    have hc := hv
    unfold World.cell? at hc
    rw [show W.heap[b]? = _ from hb] at hc
    cases o with
    | zero => simp at hc; exact hne hc.symm
    | succ o => simp at hc
  refine ⟨(World.cell?_setCell_other _ _ _ _ fun e => ?_).trans h.1, fun i hi => ?_⟩
  · injection e with e
    exact ne _ _ _ h.1 (fun e2 => hu _ _ _ e2.symm) (by first | exact e | exact e.symm)
  · obtain ⟨b, off, h1, h2⟩ := h.2 i hi
    refine ⟨b, off, h1, (World.cell?_setCell_other _ _ _ _ fun e => ?_).trans h2⟩
    injection e with e
    exact ne _ _ _ h2 (fun e2 => hu' _ e2.symm) (by first | exact e | exact e.symm)
theorem BackRd.setS {Bs : Nat} {a : Option Addr} {c : Nat} {A : List Int} {L k : Nat} {W : World} {B : Nat} {t : TypeId} {x : Option Addr} {m c' : Nat} {u' : Value} (h : BackRd Bs a c A L k W) (hb : Boxed W B t (.slice x m c')) (hB : B ≠ Bs) (_ : t = t) : BackRd Bs a c A L k (W.setCell ⟨B, 0, none⟩ u') := by
  refine ⟨(World.cell?_setCell_other _ _ _ _ fun e => ?_).trans h.1, fun i hi => ?_⟩
  · injection e with e
    exact hB (by first | exact e | exact e.symm)
  · obtain ⟨b, off, h1, h2⟩ := h.2 i hi
    refine ⟨b, off, h1, (World.cell?_setCell_other _ _ _ _ fun e => ?_).trans h2⟩
    injection e with e
    have e : b = B := by first | exact e | exact e.symm
    subst e
    unfold World.cell? at h2
    rw [show W.heap[b]? = _ from hb] at h2
    cases ho : off + i with
    | zero => rw [ho] at h2; simp at h2
    | succ o => rw [ho] at h2; simp at h2
theorem BackRd.less {Bs : Nat} {a : Option Addr} {c : Nat} {A : List Int} {L k : Nat} {W : World} (h : BackRd Bs a c A L k W) : BackRd Bs a c A L (k + 1) W := ⟨h.1, fun i hi => h.2 i (by omega)⟩
theorem back_any (x : Option Addr) (m c : Nat) (w : World) : Calls Tryz.prog 22 #[.slice x m c] w fun e w' => e = .returned (.func (.func 41) #[] #[.pointer (some ⟨w.heap.size, 0, none⟩)]) ∧ w.alloc (.cells #[.slice x m c] 22) = w' := by
  go_enter Tryz.func22, Tryz.ntmps22
  go_wp2_with fail
  go_ret
  exact ⟨rfl, rfl⟩
set_option maxHeartbeats 4000000 in
theorem back_gives (n : Nat) (hn : 1 ≤ n) (Bs : Nat) (a : Option Addr) (c : Nat) (A : List Int) (L : Nat) (hL : L ≤ 1000000000000) (hc : L ≤ c) :
    SeqX Fence.wide n Tryz.prog 41 #[.pointer (some ⟨Bs, 0, none⟩)] encB (backL A L) AbNew KpAny (BackRd Bs a c A L) := by
  intro l J Jx W hR hAb hY h0
  have HR := Lib.hid hR
  have HY := Lib.hid hY
  have H0 := Lib.hid h0
  have hs0 := (hR 0 W h0).1
  rw [backL_len]
  clear hR hY h0 hAb
  refine callsIn_of_wp Tryz.func41 rfl trivial ?_ rfl
  simp only [Tryz.ntmps41, List.size_toArray, List.length_cons, List.length_nil, Nat.reduceAdd, Nat.reduceSub, Array.replicate_succ, Array.replicate_zero, List.push_toArray, List.append_toArray, List.nil_append, List.cons_append]
  gi_wp2
  gi_loopw [3] (fun s3 wr => ∃ t : Nat, t ≤ L ∧ s3 = .int .i64 ((t : Int) - 1) ∧ Hid (J (L - t) wr)) (fun s3 _ => (intOf s3 + 1).toNat)
  case atStart => exact ⟨L, Nat.le_refl _, rfl, by rw [Nat.sub_self]; exact H0⟩
  case round =>
    obtain ⟨t, ht, rfl, HJ⟩ := hrel
    cases t with
    | zero =>
      clear hs0 H0
      gi_wp2
      go_end0
      exact ⟨⟨_, rfl⟩, .inl HJ.out⟩
    | succ j =>
      obtain ⟨c1, hrd⟩ := HR.out _ _ HJ.out
      obtain ⟨b, off, rfl, q⟩ := hrd j (by omega)
      obtain ⟨fn, tmps, assign, body, hy, hR⟩ := HY.out _ _ wr (backL_at (by omega)) HJ.out
      unfold encB at hy
      dsimp only at hy
      have HN : Hid (L - (j + 1) + 1 = L - j) := Lib.hid (by omega)
      have hjj : (((j + 1 : Nat) : Int) - 1) = (j : Int) := by omega
      rw [hjj]
      obtain ⟨d, hd⟩ : ∃ d, dgt A j = d := ⟨_, rfl⟩
      rw [hd] at q hy
      have hjL : j < L := by omega
      have hjL2 : (j : Int) < L := by omega
      have hj0 : (0 : Int) ≤ j := by omega
      clear hrd hs0 H0 hd hjj
      gi_wp2
      refine hR.mono ?_
      rintro e W3 ⟨_, ⟨rfl, hJ3⟩ | ⟨rfl, hJ3⟩⟩
      · have HJ3 := Lib.hid hJ3
        clear hJ3
        gi_wp2
        go_roundw
        case rel => exact ⟨j, by omega, by go_num, by rw [← HN.out]; exact HJ3⟩
        case measure => simp [intOf] <;> omega
      · have HJ3 := Lib.hid hJ3
        clear hJ3
        gi_wp2
        refine bodyPost_ret (results_none rfl _ _ _) rfl ?_
        exact ⟨⟨_, rfl⟩, .inr HJ3.out⟩
theorem eg_back : ∀ args w, (callFunc 41 args).run Tryz.prog w = .ok (.enter 41 args) w := enters_of Tryz.func41 (by kernel_rfl) rfl
end Go.Proofs.YtbfacdfmanffdaaGreatDoor
