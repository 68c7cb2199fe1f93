/- What the function Ids of package second does, and slices.Sort on numbers of one's own. No condition but those that each statement names. -/
import Derived.Test.YtccpmaahnfgkeaaGreatDoorSFe
import Derived.Test.YtccpmaahnfgkeaaGreatDoorSSrt
namespace Go.Proofs.YtccpmaahnfgkeaaGreatDoor
set_option maxRecDepth 1000000
open Go.ChangeShapes Go.WideShapes Go.ChangeAt Go.RowKit
open Wd (Ob okO encO refsO ObjAt In64 I64)

theorem sortsA (m : Nat) : AnyZI.SortsIn Tryz.prog sortedA_ren Fence.wide m :=
  ⟨fun blk off cap ss W hH hblk hsz => callsIn_wide.2 (AnyM.slices_Sort_int sortA blk off cap ss W hH hblk hsz),
   fun p cap W => callsIn_wide.2 (AnyM.slices_Sort_int_none sortA p cap W)⟩

/-- What gives the numbers xs in new memory, and leaves the space as it is. -/
def GaveN (xs : List Int) (c : Sc) (n u m : Nat) (L : List Ent) (w : World) (e : Ending) (w' : World) : Prop :=
  ∃ v, e = .returned v ∧ w'.ownsRow w.heap.size 3 1 v xs.length (xs.map (Value.int .i64)) ∧ SecAt w' c n u m L ∧ Below w.heap.size w w'

theorem sorted_of {xs ys : List Int} (h : xs.Perm ys) (hs : ys.Pairwise (· < ·)) : (xs.mergeSort fun x y => decide (x ≤ y)) = ys := by
  have e1 : (xs.mergeSort fun x y => decide (x ≤ y)) = ys.mergeSort fun x y => decide (x ≤ y) := mergeSort_of_perm_i h
  rw [e1]
  exact List.mergeSort_of_pairwise (hs.imp fun {a b} h => by simpa using Int.le_of_lt h)

set_option maxHeartbeats 1000000 in
theorem ids_any (c : Sc) (n u m : Nat) (L : List Ent) (w : World) (h : SecAt w c n u m L) :
    Calls Tryz.prog 21 #[.pointer (some ⟨c.q, 0, none⟩)] w (GaveN (idsE L) c n u m L w) := by
  obtain ⟨D0, hown, hperm, hsize⟩ := h.pl.keys (idsE L) (ids_nodup h.good) (ids_w64 h.good h.few) (fun i _ => by rw [pl_isSome]; exact hasE_iff.symm)
  have hlen := h.len
  have hLl : (idsE L).length = L.length := List.length_map _
  have hmax : Maps.size D0 ≤ maxLen := by rw [hsize, hLl]; unfold maxLen; omega
  have hbytes : Maps.size D0 * 8 ≤ 140737488355328 := by rw [hsize, hLl]; omega
  have hrise := ids_rise h.good
  have HS := Lib.hid h
  have c1 := h.c1
  refine (callsIn_wide (n := 6)).1 ?_
  have hbl := hown.lt
  have hseq : SeqGives Fence.wide 2 Tryz.prog 73 #[.pointer (some ⟨w.heap.size, 0, none⟩)] encZ (fun ss => ss.Perm (intKeys D0)) (Maps.size D0) (w.alloc (.cells #[.map (some c.pm)] 67)) :=
    AnyZI.keys_gives (ρ := keysA_ren) { keysA with } Fence.wide _ trivial rfl (by omega) w.heap.size c.pm u D0 _ (by simp) (by simp) (by
      obtain ⟨es, clock, hb, Ft, hs, hD⟩ := hown
      exact ⟨es, clock, (Below.heap_alloc _ _ c.pm hbl).trans hb, Ft, hs, hD⟩)
  have cK : ∀ mb W, CallsIn Fence.wide 5 Tryz.prog 42 #[.map mb] W fun e w' => e = .returned (.func (.func 73) #[] #[.pointer (some ⟨W.heap.size, 0, none⟩)]) ∧ w' = W.alloc (.cells #[.map mb] 67) := fun mb W => AnyZI.keys_in keysA Fence.wide 5 trivial rfl mb W
  have cS := AnyZI.sorted_in sortedA Fence.wide 5 trivial trivial trivial trivial rfl (by omega) (sortsA _) (enters_of Tryz.func44 (by kernel_rfl) rfl) 73 #[.pointer (some ⟨w.heap.size, 0, none⟩)] trivial (enters_of Tryz.func73 (by kernel_rfl) rfl) _ _ hmax hbytes _ hseq
  change CallsIn _ _ Tryz.prog 41 _ _ _ at cS
  have hfK : Fence.wide.fn 42 := trivial
  have hfS : Fence.wide.fn 41 := trivial
  have HR := Lib.hid hrise
  have HPM := Lib.hid hperm
  clear h hown hsize hlen hLl hmax hbytes hrise hperm hseq hbl
  refine callsIn_of_wp Tryz.func21 rfl trivial ?_ rfl
  simp only [Tryz.ntmps21, List.size_toArray, List.length_cons, List.length_nil, Nat.reduceAdd, Nat.reduceSub, Array.replicate_succ, Array.replicate_zero, List.push_toArray, List.append_toArray, List.nil_append, List.cons_append]
  gi_wp2_with (first
    | (gi_at_call 42; refine (cK _ _).mono ?_; rintro e w' ⟨rfl, rfl⟩)
    | (gi_at_call 41; refine cS.mono ?_; rintro e w' ⟨v, ss, rfl, hS, hrow, hnil, hb⟩))
  go_ret
  have hsm := sorted_of (hS.trans HPM.out.symm) HR.out
  rw [hsm] at hrow
  have hl : ss.length = (idsE L).length := (hS.trans HPM.out.symm).length_eq
  have hB : Below w.heap.size w w' := ((Below.refl _ w).alloc (Nat.le_refl _) _).trans (hb.mono (by simp))
  refine ⟨v, rfl, ?_, HS.out.fresh hB, hB⟩
  rw [← hl]
  exact ownsRow_base_a hrow (by simp)

/-- slices.Sort, on numbers of one's own. -/
theorem sort_own (v : Value) (xs : List Int) (base : Nat) (w : World) (h : w.ownsRow base 3 1 v xs.length (xs.map (Value.int .i64))) (hl : xs.length ≤ 1000000) :
    Calls Tryz.prog 44 #[v] w fun e w' => e = .returned (.tuple #[]) ∧ w'.ownsRow base 3 1 v xs.length ((xs.mergeSort fun x y => decide (x ≤ y)).map (Value.int .i64)) ∧ Only (base ≤ ·) w w' := by
  rcases h.2 with ⟨rfl, hz⟩ | ⟨gb, cap, cur, rfl, hbase, hgb, r1, r2, r3, r4⟩
  · have hx : xs = [] := List.eq_nil_of_length_eq_zero hz
    subst hx
    exact (AnyM.slices_Sort_int_none sortA none 0 w).mono fun e w' ⟨he, hw⟩ => ⟨he, by rw [hw]; simpa using h, by rw [hw]; exact Only.refl _ _⟩
  · have hH := holds_of_block_i (ss := xs) hgb (by simpa using r4)
    have hgl : gb < w.heap.size := (Array.getElem?_eq_some_iff.1 hgb).1
    refine (AnyM.slices_Sort_int sortA gb 0 cap xs w hH hgl (by omega)).mono fun e w' ⟨he, nn, os, hw⟩ => ⟨he, ?_, ?_⟩
    · subst hw
      have := ownsRow_sorted_i (n := nn) (os := os) (ss := xs) (ts := xs.mergeSort fun x y => decide (x ≤ y)) (by simp) hbase hgb r1 r2 r3
      exact this
    · subst hw
      exact Only.grown (Only.refl _ _) (grownBy_sorted_i _) (fun k hk => by cases hk; exact .inl hbase)
end Go.Proofs.YtccpmaahnfgkeaaGreatDoor
