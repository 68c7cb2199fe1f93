/- Rows of numbers in memory, by place; the document's row. -/
import Derived.Test.YtbfacdfmanffdaaGreatDoorGCm
namespace Go.Proofs.YtbfacdfmanffdaaGreatDoor
set_option maxRecDepth 1000000
open Go.ChangeShapes Go.WideShapes Go.ChangeAt Go.RowKit

theorem Tryz.info3 : (Tryz.prog.info? 3).map (fun i => (i.zero, i.size, i.bytes)) = some (some (.int .i64 0), 1, 8) := by kernel_rfl
theorem mk_ints (w : World) (n : Nat) (hn : n ≤ 1000000000000) : (Instr.makeSlice 45 (.int .i64 (n : Int)) (.int .i64 (n : Int))).run Tryz.prog w = .ok (.slice (some ⟨w.heap.size, 0, none⟩) n n) (w.alloc (.cells (madeCells #[Value.int .i64 0] n) 3)) := by
  obtain ⟨i0, hi, hz0, hz1, hz2⟩ := info_parts Tryz.info3
  have h := run_make (P := Tryz.prog) w 45 3 i0 (.int .i64 0) Tryz.underlying45 hi hz0 .i64 .i64 (n : Int) (n : Int) (by omega) (by omega) (by rw [hz2]; omega) (by omega)
  rw [hz1, Nat.mul_one, show ((n : Int)).toNat = n by omega] at h
  exact h
theorem made_int (w : World) (n j : Nat) (h : j < n) : (w.alloc (.cells (madeCells #[Value.int .i64 0] n) 3)).cell? ⟨w.heap.size, j, none⟩ = some (.int .i64 0) := by
  rw [World.cell?_alloc_at _ _ _ _ rfl]
  show (madeCells #[Value.int .i64 0] n)[j]? = _
  rw [← Array.getElem?_toList, toList_madeCells_one, List.getElem?_replicate, if_pos h]
theorem frozen_one (w : World) (cs : Array Value) (t : TypeId) (j : Nat) : (w.alloc (.cells cs t)).frozen? ⟨w.heap.size, j, none⟩ = false := by
  have h : (w.alloc (.cells cs t)).heap[w.heap.size]? = some (.cells cs t) := heap_alloc_new w _
  unfold World.frozen?
  simp only [h]
  simp
/-- A row of m numbers that may be written, by place. -/
def RowF (w : World) (g m : Nat) (f : Nat → Int) : Prop := (∀ j, j < m → w.cell? ⟨g, j, none⟩ = some (.int .i64 (f j))) ∧ (∀ j, w.frozen? ⟨g, j, none⟩ = false) ∧ g < w.heap.size
theorem RowF.kept {w w' : World} {g m B : Nat} {f : Nat → Int} (h : RowF w g m f) (hb : Below B w w') (hg : g < B) : RowF w' g m f :=
  ⟨fun j hj => (hb.cell (p := ⟨g, j, none⟩) hg).trans (h.1 j hj), fun j => (World.frozen?_of_block (w := w) (a := ⟨g, j, none⟩) (hb.block g hg)).trans (h.2.1 j), Nat.lt_of_lt_of_le h.2.2 hb.size⟩
theorem RowF.next {w w' : World} {g m : Nat} {f : Nat → Int} (h : RowF w g m f) (hb : Below w.heap.size w w') : RowF w' g m f := h.kept hb h.2.2
theorem RowF.heap {w w' : World} {g m : Nat} {f : Nat → Int} (h : RowF w g m f) (e : w'.heap = w.heap) : RowF w' g m f :=
  ⟨fun j hj => (World.cell?_of_block (w := w) (by rw [e])).trans (h.1 j hj), fun j => (World.frozen?_of_block (w := w) (a := ⟨g, j, none⟩) (by rw [e])).trans (h.2.1 j), by rw [e]; exact h.2.2⟩
theorem RowF.set {w : World} {g m : Nat} {f : Nat → Int} (h : RowF w g m f) {p : Nat} (hp : p < m) (x : Int) : RowF (w.setCell ⟨g, p, none⟩ (.int .i64 x)) g m (fun j => if j = p then x else f j) := by
  refine ⟨fun j hj => ?_, fun j => ?_, by simpa [World.setCell] using h.2.2⟩
  · by_cases e : j = p
    · subst e
      rw [World.cell?_setCell_same _ _ _ (h.1 j hp)]; simp
    · rw [World.cell?_setCell_other _ _ _ _ (by intro e2; injection e2; omega), h.1 j hj]; simp [e]
  · rw [World.frozen?_setCell]; exact h.2.1 j
theorem RowF.as {w : World} {g m : Nat} {f f' : Nat → Int} (h : RowF w g m f) (hs : ∀ j, j < m → f j = f' j) : RowF w g m f' := ⟨fun j hj => by rw [← hs j hj]; exact h.1 j hj, h.2⟩
theorem sumV_congr {f g : Nat → Int} : ∀ m, (∀ j, j < m → f j = g j) → sumV f m = sumV g m
  | 0, _ => rfl
  | m + 1, h => by simp only [sumV]; rw [sumV_congr m fun j hj => h j (by omega), h m (by omega)]
/-- One place more by x. -/
theorem sumV_upd (f : Nat → Int) (p : Nat) (x : Int) : ∀ m, p < m → sumV (fun j => if j = p then f p + x else f j) m = sumV f m + x * 256 ^ p
  | 0, h => by omega
  | m + 1, h => by
    simp only [sumV]
    by_cases e : m = p
    · subst e
      rw [if_pos rfl, sumV_congr (f := fun j => if j = m then f m + x else f j) (g := f) m fun j hj => if_neg (by omega), Int.add_mul]
      omega
    · rw [if_neg e, sumV_upd f p x m (by omega)]
      omega
/-- The row as a list. -/
def rowL (f : Nat → Int) (m : Nat) : List Int := (List.range m).map f
theorem rowL_len (f : Nat → Int) (m : Nat) : (rowL f m).length = m := by simp [rowL]
theorem rowL_dgt (f : Nat → Int) (m j : Nat) : dgt (rowL f m) j = if j < m then f j else 0 := by
  unfold dgt rowL
  rw [List.getD, List.getElem?_map]
  by_cases h : j < m
  · rw [if_pos h, List.getElem?_range h]; rfl
  · rw [if_neg h, List.getElem?_eq_none (by simp; omega)]; rfl
theorem rowL_val (f : Nat → Int) (m : Nat) : val (rowL f m) = sumV f m := by
  rw [val_sum (rowL f m) m (by rw [rowL_len]; exact Nat.le_refl _)]
  exact sumV_congr m fun j hj => by rw [rowL_dgt, if_pos hj]
theorem RowF.ints {w : World} {g m : Nat} {f : Nat → Int} (h : RowF w g m f) : Ints (· = g) w (.slice (some ⟨g, 0, none⟩) m m) (rowL f m) := by
  refine ⟨_, m, by rw [List.length_map, rowL_len], by rw [List.length_map, rowL_len]; exact Nat.le_refl _, .inr ⟨g, 0, rfl, rfl, fun j u hu => ?_⟩⟩
  have hj : j < m := by
    have := (List.getElem?_eq_some_iff.1 hu).1
    rw [List.length_map, rowL_len] at this
    exact this
  rw [List.getElem?_map, rowL, List.getElem?_map, List.getElem?_range hj] at hu
  simp at hu
  rw [Nat.zero_add, ← hu]
  exact h.1 j hj
def RowPost (bs : List Int) (n : Nat) (w : World) (e : Ending) (w' : World) : Prop := ∃ g m, e = .returned (.slice (some ⟨g, 0, none⟩) m m) ∧ RowF w' g m (dgt bs) ∧ n ≤ m ∧ bs.length ≤ m ∧ (m = n ∨ m = bs.length) ∧ w.heap.size ≤ g ∧ Below w.heap.size w w'
set_option maxHeartbeats 4000000 in
theorem row_ref {N : Nat → Prop} (v : Value) (bs : List Int) (n : Nat) (w : World) (hv : Bts N w v bs) (hb : Bytes bs) (hl : bs.length ≤ 1000000) (hn : n ≤ 1000000) :
    Calls Tryz.prog 27 #[v, .int .i64 n] w (RowPost bs n w) := by
  obtain ⟨ln, hln⟩ : ∃ n, bs.length = n := ⟨_, rfl⟩
  have HC : Hid (∀ w' i, Below w.heap.size w w' → i < ln → ∃ b off c, v = .slice (some ⟨b, off, none⟩) ln c ∧ w'.cell? ⟨b, off + i, none⟩ = some (.int .u8 (dgt bs i))) := Lib.hid fun w' i hbw h => by
    obtain ⟨b, off, c, he, _, hlt, _, h'⟩ := bts_cells hv (by omega)
    exact ⟨b, off, c, by rw [he, hln], (hbw.cell (p := ⟨b, off + i, none⟩) hlt).trans (h' i (by omega))⟩
  have HZ : Hid (∀ j, ln ≤ j → dgt bs j = 0) := Lib.hid fun j h => dgt_out (by omega)
  have HBy := Lib.hid hb
  have HL := Lib.hid hln
  obtain ⟨va, c, rfl, hc⟩ := Bts.form hv
  unfold RowPost
  rw [hln] at hl hc ⊢
  clear hv hb hln
  obtain ⟨m, hm⟩ : ∃ m, (if n < ln then ln else n) = m := ⟨_, rfl⟩
  have hm1 : n ≤ m ∧ ln ≤ m ∧ (m = n ∨ m = ln) ∧ m ≤ 1000000 := by split at hm <;> omega
  obtain ⟨hm1, hm2, hm3, hm4⟩ := hm1
  have HM3 := Lib.hid hm3
  clear hm3
  have hmk := mk_ints w m (by omega)
  have R0 : Hid (RowF (w.alloc (.cells (madeCells #[Value.int .i64 0] m) 3)) w.heap.size m (fun j => if j < 0 then dgt bs j else 0)) := Lib.hid ⟨fun j hj => by rw [made_int w m j hj]; rfl, fun j => frozen_one _ _ _ _, by simp⟩
  have K0 := Lib.hid (below_new w (.cells (madeCells #[Value.int .i64 0] m) 3))
  by_cases hnl : n < ln
  · rw [if_pos hnl] at hm
    subst hm
    go_enter Tryz.func27, Tryz.ntmps27
    go_upto_region 2 with fail
    generalize w.alloc (.cells (madeCells #[Value.int .i64 0] ln) 3) = w1 at *
    clear hmk
    go_wp2_with fail
    go_loopw [6] (fun s6 wr => ∃ (i : Nat), i ≤ ln ∧ s6 = .int .i64 i ∧ Hid (RowF wr w.heap.size ln (fun j => if j < i then dgt bs j else 0)) ∧ Hid (Below w.heap.size w wr)) (fun s6 _ => ln - (RowKit.intOf s6).toNat)
    case atStart => exact ⟨0, Nat.zero_le _, rfl, R0, K0⟩
    case round =>
      clear R0 K0
      obtain ⟨i, hi, rfl, HR, HB⟩ := hrel
      by_cases hlt : i < ln
      · obtain ⟨b, off, cc, hvv, q⟩ := HC.out wr i HB.out hlt
        injection hvv with e1 _ _
        subst e1
        have d1 : decide ((i : Int) < ln) = true := by simpa using hlt
        have d2 : decide (i < ln) = true := by simpa using hlt
        have hi0 : (0 : Int) ≤ i := by omega
        have hil : (i : Int) < ln := by omega
        have him : (i : Int) < ln := by omega
        have him2 : i < ln := by omega
        have y := HR.out.1 i him2
        have yf := HR.out.2.1
        have HS : Hid (RowF (wr.setCell ⟨w.heap.size, i, none⟩ (.int .i64 (dgt bs i))) w.heap.size ln (fun j => if j < i + 1 then dgt bs j else 0)) := Lib.hid ((HR.out.set him2 (dgt bs i)).as fun j hj => by
          by_cases e : j = i
          · subst e; simp
          · by_cases e2 : j < i
            · rw [if_neg e, if_pos e2, if_pos (by omega)]
            · rw [if_neg e, if_neg e2, if_neg (by omega)])
        have KS := Lib.hid (HB.out.setCell (p := ⟨w.heap.size, i, none⟩) (Nat.le_refl _) (.int .i64 (dgt bs i)))
        have hrd := dgt_rng HBy.out i
        generalize dgt bs i = d at *
        clear HC HR HB
        go_wp2_with fail
        exact ⟨⟨i + 1, by omega, by go_num, HS, KS⟩, by simp [RowKit.intOf]; omega⟩
      · have hi' : i = ln := by omega
        have d1 : decide ((i : Int) < ln) = false := by simp [hi']
        have d2 : decide (i < ln) = false := by simp [hi']
        have HF : Hid (RowF wr w.heap.size ln (dgt bs)) := Lib.hid (HR.out.as fun j hj => by
          by_cases e : j < i
          · rw [if_pos e]
          · rw [if_neg e, HZ.out j (by omega)])
        clear HC HR hi' hlt
        go_wp2_with fail
        go_ret
        exact ⟨w.heap.size, ln, rfl, HF.out, hm1, hm2, by first | exact .inl rfl | exact .inr rfl, Nat.le_refl _, HB.out⟩
  · rw [if_neg hnl] at hm
    subst hm
    go_enter Tryz.func27, Tryz.ntmps27
    go_upto_region 2 with fail
    generalize w.alloc (.cells (madeCells #[Value.int .i64 0] n) 3) = w1 at *
    clear hmk
    go_wp2_with fail
    go_loopw [6] (fun s6 wr => ∃ (i : Nat), i ≤ ln ∧ s6 = .int .i64 i ∧ Hid (RowF wr w.heap.size n (fun j => if j < i then dgt bs j else 0)) ∧ Hid (Below w.heap.size w wr)) (fun s6 _ => ln - (RowKit.intOf s6).toNat)
    case atStart => exact ⟨0, Nat.zero_le _, rfl, R0, K0⟩
    case round =>
      clear R0 K0
      obtain ⟨i, hi, rfl, HR, HB⟩ := hrel
      by_cases hlt : i < ln
      · obtain ⟨b, off, cc, hvv, q⟩ := HC.out wr i HB.out hlt
        injection hvv with e1 _ _
        subst e1
        have d1 : decide ((i : Int) < ln) = true := by simpa using hlt
        have d2 : decide (i < ln) = true := by simpa using hlt
        have hi0 : (0 : Int) ≤ i := by omega
        have hil : (i : Int) < ln := by omega
        have him : (i : Int) < n := by omega
        have him2 : i < n := by omega
        have y := HR.out.1 i him2
        have yf := HR.out.2.1
        have HS : Hid (RowF (wr.setCell ⟨w.heap.size, i, none⟩ (.int .i64 (dgt bs i))) w.heap.size n (fun j => if j < i + 1 then dgt bs j else 0)) := Lib.hid ((HR.out.set him2 (dgt bs i)).as fun j hj => by
          by_cases e : j = i
          · subst e; simp
          · by_cases e2 : j < i
            · rw [if_neg e, if_pos e2, if_pos (by omega)]
            · rw [if_neg e, if_neg e2, if_neg (by omega)])
        have KS := Lib.hid (HB.out.setCell (p := ⟨w.heap.size, i, none⟩) (Nat.le_refl _) (.int .i64 (dgt bs i)))
        have hrd := dgt_rng HBy.out i
        generalize dgt bs i = d at *
        clear HC HR HB
        go_wp2_with fail
        exact ⟨⟨i + 1, by omega, by go_num, HS, KS⟩, by simp [RowKit.intOf]; omega⟩
      · have hi' : i = ln := by omega
        have d1 : decide ((i : Int) < ln) = false := by simp [hi']
        have d2 : decide (i < ln) = false := by simp [hi']
        have HF : Hid (RowF wr w.heap.size n (dgt bs)) := Lib.hid (HR.out.as fun j hj => by
          by_cases e : j < i
          · rw [if_pos e]
          · rw [if_neg e, HZ.out j (by omega)])
        clear HC HR hi' hlt
        go_wp2_with fail
        go_ret
        exact ⟨w.heap.size, n, rfl, HF.out, hm1, hm2, by first | exact .inl rfl | exact .inr rfl, Nat.le_refl _, HB.out⟩
end Go.Proofs.YtbfacdfmanffdaaGreatDoor
