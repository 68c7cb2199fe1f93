/- What the functions New, Slots of package names do. No condition but those that each statement names. -/
import Derived.Test.YthooeehobhegbaaNBi
import Derived.Maps.AppendAt
namespace Go.Proofs.Ythooeehobhegbaa
set_option maxRecDepth 1000000
open Go.ChangeShapes Go.WideShapes Go.ChangeAt Go.RowKit

theorem own_only2 {w w' : World} {base n s : Nat} {e : TypeId} {v : Value} {xs : List Value} {F : Nat → Prop} (h : w.ownsRow base e s v n xs) (o : Only F w w') (hF : ∀ b, v.ownBlock = some b → ¬ F b) : w'.ownsRow base e s v n xs :=
  ⟨h.1, h.2.imp id fun ⟨g, cap, cur, h1, h2, h3, h4⟩ => ⟨g, cap, cur, h1, h2, (o.block g (Array.getElem?_eq_some_iff.1 h3).1 (hF g (by rw [h1]; rfl))).trans h3, h4⟩⟩
theorem own_fresh {w w' : World} {base n s : Nat} {e : TypeId} {v : Value} {xs : List Value} (h : w.ownsRow base e s v n xs) (b : Below w.heap.size w w') : w'.ownsRow base e s v n xs := own_only2 h (F := fun _ => False) (Only.of_below b) (fun _ _ h => h)
theorem Try.info3 : (Try.prog.info? 3).map (fun i => (i.zero, i.size, i.bytes)) = some (some (.int .i64 0), 1, 8) := by kernel_rfl
theorem mk_words (w : World) (n m : Nat) (hn : n ≤ m) (hm : m ≤ 100000) : (Instr.makeSlice 23 (.int .i64 (n : Int)) (.int .i64 (m : Int))).run Try.prog w = .ok (.slice (some ⟨w.heap.size, 0, none⟩) n m) (w.alloc (.cells (madeCells (Value.int .i64 0).cells m) 3)) := by
  obtain ⟨i0, hi, hz0, hz1, hz2⟩ := info_parts Try.info3
  have h := run_make (P := Try.prog) w 23 3 i0 (.int .i64 0) Try.underlying23 hi hz0 .i64 .i64 (n : Int) (m : Int) (by omega) (by omega) (by rw [hz2]; omega) (by omega)
  rw [hz1, Nat.mul_one, show ((n : Int)).toNat = n by omega, show ((m : Int)).toNat = m by omega] at h
  exact h
theorem made_row (w : World) (n : Nat) : RowV (w.alloc (.cells (madeCells (Value.int .i64 0).cells n) 3)) w.heap.size n (fun _ => 0) := fun j hj => by
  constructor
  · rw [World.cell?_alloc_at _ _ _ _ rfl]
    show (madeCells #[Value.int .i64 0] n)[j]? = _
    rw [← Array.getElem?_toList, toList_madeCells_one, List.getElem?_replicate, if_pos hj]
  · have h : (w.alloc (.cells (madeCells (Value.int .i64 0).cells n) 3)).heap[w.heap.size]? = some (.cells (madeCells (Value.int .i64 0).cells n) 3) := heap_alloc_new w _
    unfold World.frozen?
    simp only [h]
    simp
theorem frozen_top (w : World) (cs : Array Value) (t : TypeId) (j : Nat) : (w.alloc (.cells cs t)).frozen? ⟨w.heap.size, j, none⟩ = false := by
  have h : (w.alloc (.cells cs t)).heap[w.heap.size]? = some (.cells cs t) := heap_alloc_new w _
  unfold World.frozen?
  simp only [h]
  simp
theorem made_own (w : World) (m : Nat) (hm : m ≤ 100000) : (w.alloc (.cells (madeCells (Value.int .i64 0).cells m) 3)).ownsRow w.heap.size 3 1 (.slice (some ⟨w.heap.size, 0, none⟩) 0 m) 0 [] := by
  refine ⟨rfl, .inr ⟨w.heap.size, m, _, rfl, Nat.le_refl _, heap_alloc_new w _, Nat.zero_le _, by unfold maxLen; omega, ?_, by simp⟩⟩
  show (madeCells #[Value.int .i64 0] m).size = m * 1
  rw [← Array.length_toList, toList_madeCells_one, List.length_replicate, Nat.mul_one]

/-! Slots. -/
/-- The slots that are not free, of the first k. -/
def slotsN (I : Nat → Int) : Nat → List Nat
  | 0 => []
  | k + 1 => slotsN I k ++ if I k = 0 then [] else [k + 1]
theorem slotsN_len (I : Nat → Int) : ∀ k, (slotsN I k).length = cntI I k
  | 0 => rfl
  | k + 1 => by simp only [slotsN, cntI, List.length_append, slotsN_len I k]; split <;> rfl
theorem mem_slotsN {I : Nat → Int} {s : Nat} : ∀ {k}, s ∈ slotsN I k ↔ 1 ≤ s ∧ s ≤ k ∧ I (s - 1) ≠ 0
  | 0 => by simp [slotsN]; omega
  | k + 1 => by
    simp only [slotsN, List.mem_append, mem_slotsN (k := k)]
    constructor
    · rintro (⟨h1, h2, h3⟩ | h)
      · exact ⟨h1, by omega, h3⟩
      · split at h
        · simp at h
        · rename_i h0
          simp at h
          subst h
          exact ⟨by omega, by omega, by simpa using h0⟩
    · rintro ⟨h1, h2, h3⟩
      by_cases hs : s = k + 1
      · subst hs
        refine .inr ?_
        rw [if_neg (by simpa using h3)]
        simp
      · exact .inl ⟨h1, by omega, h3⟩
theorem slotsN_nodup (I : Nat → Int) : ∀ k, (slotsN I k).Nodup
  | 0 => List.nodup_nil
  | k + 1 => by
    simp only [slotsN]
    rw [List.nodup_append]
    refine ⟨slotsN_nodup I k, by split <;> simp, fun a ha b hb => ?_⟩
    have := (mem_slotsN.1 ha).2.1
    split at hb
    · simp at hb
    · simp at hb; omega
theorem slotsN_congr {I J : Nat → Int} : ∀ {k}, (∀ i, i < k → (I i = 0 ↔ J i = 0)) → slotsN I k = slotsN J k
  | 0, _ => rfl
  | k + 1, h => by
    simp only [slotsN]
    rw [slotsN_congr fun i hi => h i (by omega)]
    by_cases h0 : I k = 0
    · rw [if_pos h0, if_pos ((h k (by omega)).1 h0)]
    · rw [if_neg h0, if_neg (fun h1 => h0 ((h k (by omega)).2 h1))]
def valsN (l : List Nat) : List Value := l.map fun (k : Nat) => Value.int .i64 (k : Int)
theorem valsN_len (l : List Nat) : (valsN l).length = l.length := List.length_map _
/-- A new row of numbers. -/
def GaveN (l : List Nat) (w : World) (e : Ending) (w' : World) : Prop := ∃ a cap, e = .returned (.slice a l.length cap) ∧ w'.ownsRow w.heap.size 3 1 (.slice a l.length cap) l.length (valsN l) ∧ Below w.heap.size w w'
theorem gave_form {l : List Nat} {w w' : World} {u : Value} (own : w'.ownsRow w.heap.size 3 1 u l.length (valsN l)) (b : Below w.heap.size w w') : GaveN l w (.returned u) w' := by
  rcases own.2 with ⟨rfl, h0⟩ | ⟨g, cap, cur, rfl, _, _, hn, _⟩
  · exact ⟨none, 0, by rw [h0], by rw [h0] at own ⊢; exact own, b⟩
  · exact ⟨_, cap, rfl, own, b⟩
section
variable {w w' : World} {c : Tb} {n : Nat} {I : Nat → Int}
set_option maxHeartbeats 4000000 in
theorem slots_at (h : TabAt w c n I) : Calls Try.prog 21 #[.pointer (some ⟨c.t, 0, none⟩)] w (GaveN (slotsN I n) w) := by
  obtain ⟨i0, hi0, hz0, hz1, hz2⟩ := info_parts Try.info3
  have hsm := h.small
  have HH := Lib.hid h
  have hcl := cntI_le I n
  have HLen := Lib.hid (len_at h)
  have HMk : Hid ((Instr.makeSlice 23 (.int .i64 0) (.int .i64 ((cntI I n : Nat) : Int))).run Try.prog w = .ok (.slice (some ⟨w.heap.size, 0, none⟩) 0 (cntI I n)) (w.alloc (.cells (madeCells (Value.int .i64 0).cells (cntI I n)) 3))) := Lib.hid (mk_words w 0 (cntI I n) (Nat.zero_le _) (by omega))
  have HMo := Lib.hid (made_own w (cntI I n) (by omega))
  have HSz : Hid (∀ wr, Below w.heap.size w wr → Calls Try.prog 19 #[.pointer (some ⟨c.t, 0, none⟩)] wr (Told (.int .i64 n) wr)) := Lib.hid (fun wr hb => size_at (h.fresh hb))
  have HId : Hid (∀ wr (k : Nat), k < n → Below w.heap.size w wr → Calls Try.prog 17 #[.pointer (some ⟨c.t, 0, none⟩), .int .i64 ((k : Int) + 1)] wr (Told (.tuple #[.int .i64 (I k), .bool (I k != 0)]) wr)) := Lib.hid (fun wr k hk hb => by
    have := id_at ((k : Int) + 1) (h.fresh hb)
    rw [idOf, if_pos (by omega), show ((k : Int) + 1).toNat - 1 = k by omega] at this
    exact this)
  clear h
  generalize cntI I n = q at *
  go_enter Try.func21, Try.ntmps21
  go_wp2_with fail
  refine HLen.out.mono ?_
  rintro e w1 ⟨rfl, rfl⟩
  have hmk := HMk.out
  go_wp2_with fail
  have HO0 : Hid ((w.alloc (.cells (madeCells (Value.int .i64 0).cells q) 3)).ownsRow w.heap.size 3 1 (.slice (some ⟨w.heap.size, 0, none⟩) 0 q) 0 []) := HMo
  have HB0 : Hid (Below w.heap.size w (w.alloc (.cells (madeCells (Value.int .i64 0).cells q) 3))) := (Below.refl _ _).alloc (Nat.le_refl _) _
  clear hmk HMk HMo
  go_loopw [3, 4] (fun s3 s4 wr => ∃ k : Nat, k ≤ n ∧ s4 = .int .i64 ((k : Int) + 1) ∧ Hid (wr.ownsRow w.heap.size 3 1 s3 (slotsN I k).length (valsN (slotsN I k))) ∧ Hid (Below w.heap.size w wr)) (fun _ s4 _ => n + 1 - (intOf s4).toNat)
  case atStart => exact ⟨0, Nat.zero_le _, rfl, HO0, HB0⟩
  case round =>
    clear HO0 HB0
    obtain ⟨k, hk, rfl, HO, HB⟩ := hrel
    have hsz : w.heap.size ≤ wr.heap.size := HB.out.size
    by_cases hlt : k < n
    · have hlt2 : (k : Int) + 1 ≤ n := by omega
      have HS : Hid (slotsN I (k + 1) = slotsN I k ++ if I k = 0 then [] else [k + 1]) := rfl
      have HL : Hid ((slotsN I k).length ≤ k) := by show _ ≤ _; rw [slotsN_len]; exact cntI_le I k
      have HC := Lib.hid (HId.out wr k hlt HB.out)
      by_cases h0 : I k = 0
      · have hd : (I k != 0) = false := by simp [h0]
        rw [hd] at HC
        have HS2 : Hid (slotsN I (k + 1) = slotsN I k) := by show _ = _; rw [HS.out, if_pos h0, List.append_nil]
        generalize I k = u at HC
        clear HS hd h0
        go_wp2_with fail
        refine (HSz.out wr HB.out).mono ?_
        rintro e w1 ⟨rfl, rfl⟩
        go_wp2_with fail
        refine HC.out.mono ?_
        rintro e w1 ⟨rfl, rfl⟩
        go_wp2_with fail
        go_roundw
        case rel => exact ⟨k + 1, by omega, by go_num, by rw [HS2.out]; exact HO, HB⟩
        case measure => simp [intOf]; omega
      · have hd : (I k != 0) = true := by simp [h0]
        rw [hd] at HC
        have HS2 : Hid (slotsN I (k + 1) = slotsN I k ++ [k + 1]) := by show _ = _; rw [HS.out, if_neg h0]
        generalize I k = u at HC
        clear HS hd h0
        have hll := HL.out
        have O2 : Hid (wr.ownsRow w.heap.size 3 1 u3 (slotsN I k).length (valsN (slotsN I k))) := HO
        go_wp2_with fail
        refine (HSz.out wr HB.out).mono ?_
        rintro e w1 ⟨rfl, rfl⟩
        go_wp2_with fail
        refine HC.out.mono ?_
        rintro e w1 ⟨rfl, rfl⟩
        go_wp2_with (at_builtin; refine wpList_append_own _ rfl _ _ 23 rfl w.heap.size 3 i0 (.int .i64 0) 1 8 Try.underlying23 hi0 hz0 hz1 hz2 rfl (by decide) _ _ _ rfl (O2.out.alloc _) ⟨wr.heap.size, 0, none⟩ 1 1 [.int .i64 ((k : Int) + 1)] rfl rfl ?c1 ?c2 ?c3 ?c4 ?c5 ?_)
        case c1 => intro j u hu; match j, hu with
          | 0, hu => simp at hu; subst hu; rw [add_plain, World.cell?_alloc_at _ _ _ _ rfl]; rfl
          | j + 1, hu => simp at hu
        case c2 => intro u hu; simp at hu; subst hu; rfl
        case c3 => unfold maxLen; omega
        case c4 => omega
        case c5 => simp; omega
        intro v' w3 hown' hgrow _
        have B3 : Hid (Below w.heap.size w w3) := HB.out.trans (((Below.refl _ _).alloc (by omega) _).grown hgrow (by simp; omega) (fun j hj => (O2.out.lt j hj).1))
        have O3 : Hid (w3.ownsRow w.heap.size 3 1 v' (slotsN I (k + 1)).length (valsN (slotsN I (k + 1)))) := by
          show w3.ownsRow _ _ _ _ _ _
          rw [HS2.out, List.length_append, valsN, List.map_append]; exact hown'
        clear hown' hgrow
        go_wp2
        go_roundw
        case rel => exact ⟨k + 1, by omega, by go_num, O3, B3⟩
        case measure => simp [intOf]; omega
    · obtain rfl : k = n := by omega
      have hlt2 : ¬ (k : Int) + 1 ≤ k := by omega
      go_wp2_with fail
      refine (HSz.out wr HB.out).mono ?_
      rintro e w1 ⟨rfl, rfl⟩
      go_wp2_with fail
      go_ret
      exact gave_form HO.out HB.out
end
end Go.Proofs.Ythooeehobhegbaa
