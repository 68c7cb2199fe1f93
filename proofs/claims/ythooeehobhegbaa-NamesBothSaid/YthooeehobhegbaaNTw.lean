/- Whether a row of numbers has one twice: the function twice of package names. No condition but those that each statement names. -/
import Derived.Test.YthooeehobhegbaaNSr
namespace Go.Proofs.Ythooeehobhegbaa
set_option maxRecDepth 1000000
open Go.ChangeShapes Go.WideShapes Go.ChangeAt Go.RowKit Go.Sort Go.Shelf

theorem srt_perm (xs : List Int) : (srt xs).Perm xs := List.mergeSort_perm _ _
theorem srt_rise (xs : List Int) : (srt xs).Pairwise (· ≤ ·) := by
  have := List.pairwise_mergeSort (le := fun x y : Int => decide (x ≤ y)) (fun a b c h1 h2 => by simp at *; omega) (fun a b => by simp; omega) xs
  exact this.imp fun h => by simpa using h
theorem srt_len (xs : List Int) : (srt xs).length = xs.length := (srt_perm xs).length_eq
theorem keeps_iff {ys : List Int} {j : Nat} (hj : j < ys.length) (h0 : j ≠ 0) : Lib.keeps ys.toArray j = true ↔ ys[j] ≠ ys[j - 1] := by
  unfold Lib.keeps
  rw [decide_eq_true_eq, getElem!_pos ys.toArray j (by simpa using hj), getElem!_pos ys.toArray (j - 1) (by simp; omega)]
  simp [h0]
theorem compact_lt (xs : List Int) : (Lib.compact (srt xs)).length < xs.length ↔ ¬ xs.Nodup := by
  have hp := srt_perm xs
  have hs := srt_rise xs
  have hl := srt_len xs
  rw [← hp.nodup_iff, ← hl]
  generalize srt xs = ys at hs
  constructor
  · intro h hn
    rw [Lib.compact_all ys fun j hj => ?_] at h
    · omega
    · by_cases h0 : j = 0
      · subst h0; simp [Lib.keeps]
      · rw [keeps_iff hj h0]
        intro he
        have := (List.getElem_inj hn).1 he
        omega
  · intro h
    refine Classical.byContradiction fun hc => h ?_
    have hlen : ((List.range ys.length).filter (Lib.keeps ys.toArray)).length = (List.range ys.length).length := by
      have h1 := List.length_filter_le (Lib.keeps ys.toArray) (List.range ys.length)
      have h2 : (Lib.compact ys).length = ((List.range ys.length).filter (Lib.keeps ys.toArray)).length := by simp [Lib.compact, Lib.compactUpTo]
      rw [List.length_range] at *
      omega
    have hall := List.length_filter_eq_length_iff.1 hlen
    refine List.Pairwise.imp (R := (· < ·)) (fun hab => by omega) (List.pairwise_iff_getElem.2 fun i j hi hj hij => ?_)
    have hk := hall j (List.mem_range.2 hj)
    rw [keeps_iff hj (by omega)] at hk
    have h1 : ys[j - 1] ≤ ys[j] := List.pairwise_iff_getElem.1 hs (j - 1) j (by omega) hj (by omega)
    have h2 : ys[i] ≤ ys[j - 1] := by
      by_cases he : i = j - 1
      · subst he; exact Int.le_refl _
      · exact List.pairwise_iff_getElem.1 hs i (j - 1) hi (by omega) (by omega)
    omega
/-- Has xs a number twice? -/
def twc (xs : List Int) : Bool := decide ((Lib.compact (srt xs)).length < xs.length)
theorem twc_eq (xs : List Int) : twc xs = true ↔ ¬ xs.Nodup := by unfold twc; rw [decide_eq_true_eq]; exact compact_lt xs

theorem cell_box (w : World) (v : Value) (t : TypeId) : (w.alloc (.cells #[v] t)).cell? ⟨w.heap.size, 0, none⟩ = some v := by rw [World.cell?_alloc_at _ _ _ _ rfl]; rfl
/-- slices.Values. -/
theorem values_any (a : Option Addr) (n c : Nat) (w : World) : Calls Try.prog 29 #[.slice a n c] w fun e w' => e = .returned (.func (.func 34) #[] #[.pointer (some ⟨w.heap.size, 0, none⟩)]) ∧ w' = w.alloc (.cells #[.slice a n c] 23) := by
  go_enter Try.func29, Try.ntmps29
  go_wp2
  go_ret
  exact ⟨rfl, rfl⟩
/-- slices.Compact of numbers of one's own. -/
theorem compact_own (v : Value) (ys : List Int) (base : Nat) (w : World) (h : w.ownsRow base 3 1 v ys.length (ys.map encZ)) (hl : ys.length ≤ 4000000000000) :
    Calls Try.prog 30 #[v] w fun e w' => (∃ a c, e = .returned (.slice a (Lib.compact ys).length c)) ∧ Only (base ≤ ·) w w' := by
  rcases h.2 with ⟨rfl, hz⟩ | ⟨gb, cap, cur, rfl, hbase, hgb, r1, r2, r3, r4⟩
  · have hx : ys = [] := List.eq_nil_of_length_eq_zero hz
    subst hx
    refine (AnyG.slices_Compact_int_empty compactA none 0 w).mono ?_
    rintro e w' ⟨rfl, rfl⟩
    exact ⟨⟨_, _, rfl⟩, Only.refl _ _⟩
  · have hH : Holds (Value.int .i64) w gb 0 ys.toArray := holds_of_block_i hgb (by simpa using r4)
    refine (AnyG.slices_Compact_int compactA gb 0 cap ys w hH (by omega) r1).mono ?_
    rintro e w' ⟨rfl, q, rfl⟩
    refine ⟨⟨_, _, rfl⟩, ?_⟩
    have hg : w.grownBy (putRow (Value.int .i64) (Sort.ahead w q) gb 0 (Lib.compact ys ++ List.replicate (ys.length - (Lib.compact ys).length) 0).toArray) (some gb) := by
      refine ⟨rfl, rfl, rfl, by simp [putRow, mapBlock, Sort.ahead], fun k hk hne => ?_⟩
      have : gb ≠ k := fun e => hne (by rw [e])
      simp [putRow, mapBlock, Sort.ahead, Array.getElem?_modify, this]
    exact Only.grown (Only.refl _ _) hg (fun k hk => by cases hk; exact .inl hbase)
theorem ints_fresh {N : Nat → Prop} {w w' : World} {v : Value} {xs : List Int} (h : Ints N w v xs) (hb : Below w.heap.size w w') : Ints N w' v xs := h.only (F := fun _ => False) (Only.of_below hb) (fun _ _ h => h)
set_option maxHeartbeats 2000000 in
theorem twice_any {N : Nat → Prop} (v : Value) (xs : List Int) (w : World) (hv : Ints N w v xs) (hl : xs.length ≤ 4000000000000) :
    Calls Try.prog 24 #[v] w fun e w' => e = .returned (.bool (twc xs)) ∧ Below w.heap.size w w' := by
  obtain ⟨a, c, rfl, hc, _⟩ := ints_form hv
  have HV := Lib.hid (fun w1 => values_any a xs.length c w1)
  have HS : Hid (∀ w1, w.alloc (.cells #[.slice a xs.length c] 23) = w1 → Calls Try.prog 28 #[.func (.func 34) #[] #[.pointer (some ⟨w.heap.size, 0, none⟩)]] w1 fun e w' => ∃ v a c, e = .returned v ∧ v = .slice a xs.length c ∧ w'.ownsRow w1.heap.size 3 1 v (srt xs).length ((srt xs).map encZ) ∧ Below w1.heap.size w1 w') := Lib.hid (fun w1 hw1 => by
    have hb : Below w.heap.size w w1 := by rw [← hw1]; exact (Below.refl _ _).alloc (Nat.le_refl _) _
    have hs := sorted_any 5 (by omega) 34 #[.pointer (some ⟨w.heap.size, 0, none⟩)] eg34 xs hl w1 (values1_gives 2 (by omega) w.heap.size _ xs w1 (by rw [← hw1]; exact cell_box w _ _) (ints_fresh hv hb) hl)
    refine (callsIn_wide.1 hs).mono ?_
    rintro e w' ⟨v, rfl, own, hb⟩
    rw [← srt_len xs] at own
    rcases own.2 with ⟨rfl, h0⟩ | ⟨g, cap, cur, rfl, _, _, hn, _⟩
    · exact ⟨_, none, 0, rfl, by rw [← srt_len xs, h0], own, hb⟩
    · exact ⟨_, _, cap, rfl, by rw [← srt_len xs], own, hb⟩)
  have HC : Hid (∀ (v : Value) (base : Nat) (w1 : World), w1.ownsRow base 3 1 v (srt xs).length ((srt xs).map encZ) → Calls Try.prog 30 #[v] w1 fun e w' => (∃ a c, e = .returned (.slice a (Lib.compact (srt xs)).length c)) ∧ Only (base ≤ ·) w1 w') := Lib.hid (fun v base w1 h => compact_own v (srt xs) base w1 h (by rw [srt_len]; exact hl))
  have HT : Hid (twc xs = decide ((Lib.compact (srt xs)).length < xs.length)) := rfl
  obtain ⟨m, hm⟩ : ∃ m, (Lib.compact (srt xs)).length = m := ⟨_, rfl⟩
  rw [hm] at HC HT
  have hml : m ≤ xs.length := by
    rw [← hm, ← srt_len xs]
    have h1 := List.length_filter_le (Lib.keeps (srt xs).toArray) (List.range (srt xs).length)
    simpa [Lib.compact, Lib.compactUpTo] using h1
  clear hv hm
  generalize twc xs = t at HT ⊢
  generalize hys : srt xs = ys at HS HC
  go_enter Try.func24, Try.ntmps24
  go_wp2_with fail
  refine (HV.out w).mono ?_
  rintro e w1 ⟨rfl, hw1⟩
  have HB1 : Hid (Below w.heap.size w w1) := by show Below _ _ _; rw [hw1]; exact (Below.refl _ _).alloc (Nat.le_refl _) _
  have HW1 := Lib.hid hw1.symm
  clear hw1
  go_wp2_with fail
  refine (HS.out w1 HW1.out).mono ?_
  rintro e w2 ⟨v, a2, c2, rfl, rfl, own, b2⟩
  have HO := Lib.hid own
  have HB2 := Lib.hid b2
  clear own b2
  go_wp2_with fail
  refine (HC.out _ _ w2 HO.out).mono ?_
  rintro e w3 ⟨⟨a3, c3, rfl⟩, o3⟩
  have HO3 := Lib.hid o3
  clear o3
  go_wp2_with fail
  go_ret
  refine ⟨by rw [HT.out]; rfl, HB1.out.trans ?_⟩
  have hsz := HB1.out.size
  have hb2 : Below w.heap.size w1 w2 := HB2.out.mono hsz
  exact hb2.trans (HO3.out.below (B := w.heap.size) (fun i hi h => by omega) (by have := hb2.size; have := HB2.out.size; omega))
end Go.Proofs.Ythooeehobhegbaa
