/- What Fetch, Byte, Set, SetByte of a memory do. -/
import Derived.Test.YtmaeoefimkppoaaFMe
namespace Go.Proofs.Ytmaeoefimkppoaa.Fl
set_option maxRecDepth 1000000
open Go.ChangeShapes Go.WideShapes Go.ChangeAt Go.RowKit
open Go.Proofs.Ytmaeoefimkppoaa.Wd

theorem opE_zero {L : List (Option En)} {o k i : Int} (h : opE (mapO En.o L) o k i = 0) : ∃ e, at_ L (namV o) = some e ∧ e.o.k = k ∧ 0 ≤ i ∧ i < (sizeO e.o : Nat) ∧ objF (mapO En.o L) o = e.o := by
  cases he : at_ L (namV o) with
  | none => rw [opE_none he] at h; cases h
  | some e =>
    rw [opE_some he] at h
    refine ⟨e, rfl, ?_⟩
    have ho : objF (mapO En.o L) o = e.o := by unfold objF; rw [at_map, he]; rfl
    split at h
    · rename_i hk
      split at h
      · rename_i hi; exact ⟨hk, hi.1, hi.2, ho⟩
      · cases h
    · cases h
theorem In64.i64 {n : Int} (h : In64 n) : W64 n := w64_of h.1 h.2
theorem i64_at {l : List Int} (h : I64 l) {j : Nat} (hj : j < l.length) : W64 (l.getD j 0) := by
  have := h _ (List.getElem_mem hj)
  simp only [List.getD, List.getElem?_eq_getElem hj, Option.getD_some]
  exact w64_of this.1 this.2
theorem getD_map {f : Int → Value} {l : List Int} {j : Nat} (hj : j < l.length) : (l.map f)[j]? = some (f (l.getD j 0)) := by simp [List.getD, hj]
theorem openV_no {L : List (Option En)} {o k i : Int} (h : opE (mapO En.o L) o k i ≠ 0) : openV L o k i = .agg #[.int .i64 0, .int .i64 0, .slice none 0 0, .slice none 0 0] := by
  unfold openV; rw [if_neg h]; rfl
theorem opE_in (E : Mem) (o k i : Int) : opE E o k i = 0 ∨ (opE E o k i ≠ 0 ∧ (opE E o k i != 0) = true) := by
  by_cases h : opE E o k i = 0
  · exact .inl h
  · exact .inr ⟨h, by simpa using h⟩
section
variable {w : World} {K : Nat → Prop} {m : Nat} {r : Option Nat} {nv : Value} {L : List (Option En)}
theorem open_words (h : MemR w K m r nv L) {o i : Int} (ht : opE (mapO En.o L) o 1 i = 0) : ∃ e g c, at_ L (namV o) = some e ∧ e.rv = .slice (some ⟨g, 0, none⟩) e.o.w.length c ∧ e.o.k = 1 ∧ 0 ≤ i ∧ i < (e.o.w.length : Nat) ∧ e.o.w.length ≤ 1000 ∧ objF (mapO En.o L) o = e.o ∧
    openV L o 1 i = .agg #[.int .i64 e.o.c, .int .i64 1, .slice (some ⟨g, 0, none⟩) e.o.w.length c, .slice none 0 0] ∧ w.ownsRow 0 3 1 (.slice (some ⟨g, 0, none⟩) e.o.w.length c) e.o.w.length (e.o.w.map (Value.int .i64)) := by
  obtain ⟨e, he, hk, h0, h1, ho⟩ := opE_zero ht
  have hr := h.rows _ e he
  have hs : sizeO e.o = e.o.w.length := by unfold sizeO; rw [if_pos hk]
  rw [hs] at h1
  rcases hr.row with ⟨_, hrr⟩ | ⟨hk2, _⟩
  · obtain ⟨g, c, hv⟩ := own_at hrr (by omega)
    refine ⟨e, g, c, he, hv, hk, h0, h1, (ok_short hr.ok).1, ho, ?_, by rw [← hv]; exact hrr⟩
    unfold openV
    rw [if_pos ht, he]
    simp only [Option.map_some, Option.getD_some]
    unfold En.val
    rw [if_pos hk, hk, hv]
  · rw [hk] at hk2; cases hk2
theorem open_byts (h : MemR w K m r nv L) {o i : Int} (ht : opE (mapO En.o L) o 2 i = 0) : ∃ e g c, at_ L (namV o) = some e ∧ e.rv = .slice (some ⟨g, 0, none⟩) e.o.b.length c ∧ e.o.k = 2 ∧ 0 ≤ i ∧ i < (e.o.b.length : Nat) ∧ e.o.b.length ≤ 1000 ∧ objF (mapO En.o L) o = e.o ∧
    openV L o 2 i = .agg #[.int .i64 e.o.c, .int .i64 2, .slice none 0 0, .slice (some ⟨g, 0, none⟩) e.o.b.length c] ∧ w.ownsRow 0 5 1 (.slice (some ⟨g, 0, none⟩) e.o.b.length c) e.o.b.length (e.o.b.map (Value.int .u8)) := by
  obtain ⟨e, he, hk, h0, h1, ho⟩ := opE_zero ht
  have hr := h.rows _ e he
  have hs : sizeO e.o = e.o.b.length := by unfold sizeO; rw [if_neg (by omega), if_pos hk]
  rw [hs] at h1
  rcases hr.row with ⟨hk2, _⟩ | ⟨_, hrr⟩
  · rw [hk] at hk2; cases hk2
  · obtain ⟨g, c, hv⟩ := own_at hrr (by omega)
    refine ⟨e, g, c, he, hv, hk, h0, h1, (ok_short hr.ok).2, ho, ?_, by rw [← hv]; exact hrr⟩
    unfold openV
    rw [if_pos ht, he]
    simp only [Option.map_some, Option.getD_some]
    unfold En.val
    rw [if_neg (by omega), hk, hv]
end
def ReadPost (v t : Int) (w : World) (e : Ending) (w' : World) : Prop := e = .returned (.tuple #[.int .i64 v, .int .i64 t]) ∧ Below w.heap.size w w'

set_option maxHeartbeats 1000000 in
theorem fetch_any {w : World} {K : Nat → Prop} {m : Nat} {E : Mem} (h : MemB K w m E) (o i : Int) (ho : In64 o) :
    Calls Try.prog 36 #[.pointer (some ⟨m, 0, none⟩), .int .i64 o, .int .i64 i] w (ReadPost (fetchN E o i) (opE E o 1 i) w) := by
  obtain ⟨r, nv, L, h, rfl⟩ := h
  have HO := Lib.hid (open_any h o 1 i ho)
  rcases opE_in (mapO En.o L) o 1 i with ht | ⟨hn, hb⟩
  · obtain ⟨e, g, c, he, hv, hk, h0, h1, hlen, hobj, hV, hrow⟩ := open_words h ht
    obtain ⟨j, rfl⟩ := Int.eq_ofNat_of_zero_le h0
    have hj : j < e.o.w.length := by omega
    have hF : fetchN (mapO En.o L) o j = e.o.w.getD j 0 := by unfold fetchN; rw [if_pos ht, hobj, Int.toNat_natCast]
    have HC : Hid (∀ w', Below w.heap.size w w' → w'.cell? ⟨g, j, none⟩ = some (.int .i64 (e.o.w.getD j 0))) := fun w' hb => (own_cells (own_kept hrow hb)).1 j _ (getD_map hj)
    unfold OpenPost at HO
    rw [hV, ht] at HO
    rw [hF, ht]
    clear h ho he hV hF hrow ht hobj h0 h1 hv hk
    generalize e.o.w.getD j 0 = z at *
    generalize e.o.w.length = n at *
    generalize e.o.c = cc at *
    have hjn : (j : Int) < n := by omega
    go_enter Try.func36, Try.ntmps36
    go_wp2_with (go_at_call 60; refine HO.out.mono ?_; rintro e' w1 ⟨rfl, hb⟩; have K1 := Lib.hid hb; have C1 := HC.out w1 hb; have lt1 := World.block_lt_of_cell? _ _ C1)
    go_ret2
    exact ⟨rfl, K1.out.trans ((below_new _ _).mono K1.out.size)⟩
  · have hF : fetchN (mapO En.o L) o i = 0 := by unfold fetchN; rw [if_neg hn]
    unfold OpenPost at HO
    rw [openV_no hn] at HO
    rw [hF]
    clear h ho hn hF
    generalize opE (mapO En.o L) o 1 i = t at *
    go_enter Try.func36, Try.ntmps36
    go_wp2_with (go_at_call 60; refine HO.out.mono ?_; rintro e' w1 ⟨rfl, hb⟩; have K1 := Lib.hid hb)
    go_ret2
    exact ⟨rfl, K1.out.trans ((below_new _ _).mono K1.out.size)⟩

set_option maxHeartbeats 1000000 in
theorem byte_any {w : World} {K : Nat → Prop} {m : Nat} {E : Mem} (h : MemB K w m E) (o i : Int) (ho : In64 o) :
    Calls Try.prog 35 #[.pointer (some ⟨m, 0, none⟩), .int .i64 o, .int .i64 i] w (ReadPost (byteN E o i) (opE E o 2 i) w) := by
  obtain ⟨r, nv, L, h, rfl⟩ := h
  have HO := Lib.hid (open_any h o 2 i ho)
  rcases opE_in (mapO En.o L) o 2 i with ht | ⟨hn, hb⟩
  · obtain ⟨e, g, c, he, hv, hk, h0, h1, hlen, hobj, hV, hrow⟩ := open_byts h ht
    obtain ⟨j, rfl⟩ := Int.eq_ofNat_of_zero_le h0
    have hj : j < e.o.b.length := by omega
    have hF : byteN (mapO En.o L) o j = e.o.b.getD j 0 := by unfold byteN; rw [if_pos ht, hobj, Int.toNat_natCast]
    have HC : Hid (∀ w', Below w.heap.size w w' → w'.cell? ⟨g, j, none⟩ = some (.int .u8 (e.o.b.getD j 0))) := fun w' hb => (own_cells (own_kept hrow hb)).1 j _ (getD_map hj)
    have HB : Hid (0 ≤ e.o.b.getD j 0 ∧ e.o.b.getD j 0 ≤ 255) := (by
      simp only [List.getD, List.getElem?_eq_getElem hj, Option.getD_some]
      exact (h.rows _ e he).by_ _ (List.getElem_mem hj))
    unfold OpenPost at HO
    rw [hV, ht] at HO
    rw [hF, ht]
    clear h ho he hV hF hrow ht hobj h0 h1 hv hk
    generalize e.o.b.getD j 0 = z at *
    generalize e.o.b.length = n at *
    generalize e.o.c = cc at *
    have hjn : (j : Int) < n := by omega
    obtain ⟨b1, b2⟩ := HB.out
    go_enter Try.func35, Try.ntmps35
    go_wp2_with (go_at_call 60; refine HO.out.mono ?_; rintro e' w1 ⟨rfl, hb⟩; have K1 := Lib.hid hb; have C1 := HC.out w1 hb; have lt1 := World.block_lt_of_cell? _ _ C1)
    go_ret2
    exact ⟨rfl, K1.out.trans ((below_new _ _).mono K1.out.size)⟩
  · have hF : byteN (mapO En.o L) o i = 0 := by unfold byteN; rw [if_neg hn]
    unfold OpenPost at HO
    rw [openV_no hn] at HO
    rw [hF]
    clear h ho hn hF
    generalize opE (mapO En.o L) o 2 i = t at *
    go_enter Try.func35, Try.ntmps35
    go_wp2_with (go_at_call 60; refine HO.out.mono ?_; rintro e' w1 ⟨rfl, hb⟩; have K1 := Lib.hid hb)
    go_ret2
    exact ⟨rfl, K1.out.trans ((below_new _ _).mono K1.out.size)⟩
end Go.Proofs.Ytmaeoefimkppoaa.Fl
