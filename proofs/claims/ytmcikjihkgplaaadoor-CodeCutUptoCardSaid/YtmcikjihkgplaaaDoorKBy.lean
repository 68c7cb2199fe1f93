/- Rows of things to do, read; the document's Bytes. -/
import Derived.Test.YtmcikjihkgplaaaDoorKOw
namespace Go.Proofs.YtmcikjihkgplaaaDoor
set_option maxRecDepth 1000000
open Go.ChangeShapes Go.WideShapes Go.ChangeAt Go.RowKit

theorem Tryd.info5 : (Tryd.prog.info? 5).map (fun i => (i.zero, i.size, i.bytes)) = some (some (.int .u8 0), 1, 1) := by kernel_rfl
def RowO (w : World) (b p : Nat) (o : OpT) : Prop := w.cell? ⟨b, p, none⟩ = some (.int .i64 o.k) ∧ w.cell? ⟨b, p + 1, none⟩ = some (.int .i64 o.n) ∧ w.cell? ⟨b, p + 2, none⟩ = some (.int .i64 o.m) ∧ w.cell? ⟨b, p + 3, none⟩ = some (.int .i64 o.l)
/-- The slice value v has the things L to do. -/
def OpsAt (N : Nat → Prop) (w : World) (v : Value) (L : List OpT) : Prop :=
  ∃ a c, v = .slice a L.length c ∧ (L = [] ∨ ∃ b off, a = some ⟨b, off, none⟩ ∧ N b ∧ ∀ (j : Nat) (o : OpT), L[j]? = some o → RowO w b (off + j * 4) o)
theorem RowO.only {F : Nat → Prop} {w w' : World} {b p : Nat} {o : OpT} (h : RowO w b p o) (k : Only F w w') (hb : ¬ F b) : RowO w' b p o :=
  have lt := World.block_lt_of_cell? _ _ h.1
  ⟨(k.cell (p := ⟨b, p, none⟩) lt hb).trans h.1, (k.cell (p := ⟨b, p + 1, none⟩) lt hb).trans h.2.1, (k.cell (p := ⟨b, p + 2, none⟩) lt hb).trans h.2.2.1, (k.cell (p := ⟨b, p + 3, none⟩) lt hb).trans h.2.2.2⟩
theorem OpsAt.only {N F : Nat → Prop} {w w' : World} {v : Value} {L : List OpT} (h : OpsAt N w v L) (o : Only F w w') (hF : ∀ b, N b → ¬ F b) : OpsAt N w' v L := by
  obtain ⟨a, c, rfl, h⟩ := h
  exact ⟨a, c, rfl, h.imp id fun ⟨b, off, ha, hb, h⟩ => ⟨b, off, ha, hb, fun j x hx => (h j x hx).only o (hF b hb)⟩⟩
theorem OpsAt.kind {N M : Nat → Prop} {w : World} {v : Value} {L : List OpT} (h : OpsAt N w v L) (hM : ∀ b, b < w.heap.size → N b → M b) : OpsAt M w v L := by
  obtain ⟨a, c, rfl, h⟩ := h
  by_cases h0 : L = []
  · exact ⟨a, c, rfl, .inl h0⟩
  · obtain ⟨b, off, ha, hb, h⟩ := h.resolve_left h0
    obtain ⟨o, r, rfl⟩ := List.exists_cons_of_ne_nil h0
    exact ⟨a, c, rfl, .inr ⟨b, off, ha, hM b (World.block_lt_of_cell? _ _ (h 0 o rfl).1) hb, h⟩⟩
theorem only_belowO {F : Nat → Prop} {w w' : World} (h : Below w.heap.size w w') : Only F w w' := Only.of_below h
theorem OpsAt.next {N : Nat → Prop} {w w' : World} {v : Value} {L : List OpT} (h : OpsAt N w v L) (hb : Below w.heap.size w w') : OpsAt N w' v L := h.only (F := fun _ => False) (Only.of_below hb) (fun _ _ h => h)
theorem OpsAt.at_ {N : Nat → Prop} {w : World} {v : Value} {L : List OpT} (h : OpsAt N w v L) {j : Nat} (hj : j < L.length) : ∃ b off c, v = .slice (some ⟨b, off, none⟩) L.length c ∧ N b ∧ b < w.heap.size ∧ RowO w b (off + j * 4) L[j] := by
  obtain ⟨a, c, rfl, h⟩ := h
  rcases h with rfl | ⟨b, off, rfl, hb, h⟩
  · cases hj
  · have := h j _ (List.getElem?_eq_getElem hj)
    exact ⟨b, off, c, rfl, hb, World.block_lt_of_cell? _ _ this.1, this⟩
theorem encs_at : ∀ {L : List OpT} {j : Nat} {o : OpT}, L[j]? = some o → (encs L)[j * 4]? = some (.int .i64 o.k) ∧ (encs L)[j * 4 + 1]? = some (.int .i64 o.n) ∧ (encs L)[j * 4 + 2]? = some (.int .i64 o.m) ∧ (encs L)[j * 4 + 3]? = some (.int .i64 o.l)
  | [], _, _, h => by simp at h
  | x :: L, 0, o, h => by
    simp at h; subst h
    simp [encs, cells4]
  | x :: L, j + 1, o, h => by
    have h' : L[j]? = some o := by simpa using h
    have := encs_at h'
    have e : encs (x :: L) = cells4 x ++ encs L := rfl
    have hl : (cells4 x).length = 4 := rfl
    rw [e]
    refine ⟨?_, ?_, ?_, ?_⟩
    · rw [List.getElem?_append_right (by rw [hl]; omega), hl, show (j + 1) * 4 - 4 = j * 4 by omega]; exact this.1
    · rw [List.getElem?_append_right (by rw [hl]; omega), hl, show (j + 1) * 4 + 1 - 4 = j * 4 + 1 by omega]; exact this.2.1
    · rw [List.getElem?_append_right (by rw [hl]; omega), hl, show (j + 1) * 4 + 2 - 4 = j * 4 + 2 by omega]; exact this.2.2.1
    · rw [List.getElem?_append_right (by rw [hl]; omega), hl, show (j + 1) * 4 + 3 - 4 = j * 4 + 3 by omega]; exact this.2.2.2
theorem OwnL.ops {B : Nat} {w : World} {v : Value} {L : List OpT} (h : OwnL B w v L) : OpsAt (B ≤ ·) w v L := by
  have h' := h
  rcases h.2 with ⟨rfl, h0⟩ | ⟨g, cap, cur, rfl, hb, hg, hn, hrest⟩
  · have : L = [] := List.eq_nil_of_length_eq_zero h0
    subst this
    exact ⟨none, 0, rfl, .inl rfl⟩
  · refine ⟨_, cap, rfl, .inr ⟨g, 0, rfl, hb, fun j o hj => ?_⟩⟩
    have key : ∀ i u, (encs L)[i]? = some u → w.cell? ⟨g, i, none⟩ = some u := fun i u hu => by
      have := World.ownsRow.cells (g := g) h' rfl i u hu
      rwa [add_plain, Nat.zero_add] at this
    obtain ⟨h1, h2, h3, h4⟩ := encs_at hj
    unfold RowO
    rw [Nat.zero_add]
    exact ⟨key _ _ h1, key _ _ h2, key _ _ h3, key _ _ h4⟩
/-- The bytes of several things to do, or none. -/
inductive BytesIs : List OpT → Option (List Int) → Prop
  | nil : BytesIs [] (some [])
  | bad (o : OpT) (L : List OpT) (h : OneIs o none ∨ o.k = 0) : BytesIs (o :: L) none
  | cons (o : OpT) (b : List Int) (L : List OpT) (r : Option (List Int)) (h : OneIs o (some b)) (hk : o.k ≠ 0) (h2 : BytesIs L r) : BytesIs (o :: L) (r.map (b ++ ·))
theorem BytesIs.eq : ∀ {L : List OpT} {r s : Option (List Int)}, BytesIs L r → BytesIs L s → r = s
  | [], _, _, .nil, .nil => rfl
  | _ :: _, _, _, .bad _ _ _, .bad _ _ _ => rfl
  | _ :: _, _, _, .bad _ _ h, .cons _ _ _ _ h' hk _ => by
    rcases h with h | h
    · cases h.eq h'
    · exact (hk h).elim
  | _ :: _, _, _, .cons _ _ _ _ h' hk _, .bad _ _ h => by
    rcases h with h | h
    · cases h.eq h'
    · exact (hk h).elim
  | _ :: _, _, _, .cons _ _ _ _ h _ k, .cons _ _ _ _ h' _ k' => by
    have e := h.eq h'
    injection e with e
    subst e
    rw [BytesIs.eq k k']
theorem OneIs.len {o : OpT} {b : List Int} (h : OneIs o (some b)) : 1 ≤ b.length ∧ b.length ≤ 3 ∧ Bytes b := by
  cases h with
  | one c h => exact ⟨by simp, by simp, fun n hn => by simp at hn; omega⟩
  | two h1 c n hc hc2 hn => exact ⟨by simp, by simp, fun m hm => by simp at hm; omega⟩
  | three h1 h2 c hc ht =>
    refine ⟨by simp, by simp, fun m hm => ?_⟩
    unfold ok3 at ht
    rw [Bool.and_eq_true, decide_eq_true_eq] at ht
    simp at hm
    omega
def BytesPost (L : List OpT) (w : World) (e : Ending) (w' : World) : Prop := ∃ r v, BytesIs L r ∧ e = .returned (.tuple #[v, .int .i64 (if r.isSome = true then 0 else 2)]) ∧ OwnB w.heap.size w' v (r.getD []) ∧ Below w.heap.size w w'
end Go.Proofs.YtmcikjihkgplaaaDoor
