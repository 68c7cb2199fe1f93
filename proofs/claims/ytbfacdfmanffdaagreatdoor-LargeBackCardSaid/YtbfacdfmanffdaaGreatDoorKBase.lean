/- Words of our own for the memory that the laws of layer 3 speak of: which blocks a step may change, what a slice reads as, what a disk is in memory; and the plain facts on its bytes. -/
import Derived.Test.YtbfacdfmanffdaaGreatDoorRows
import Derived.WalkKit
import Derived.ProofKit
import Derived.OpenShut
import Derived.Handy
import Derived.Lib.Hide
import Derived.Laws.BytesArg
import Derived.Laws.IdiomCopy
import Derived.Lib.SliceRun
import Derived.Deep.QuietTactic
import Derived.BigQuiet
import Derived.RegionTactic
namespace Go.Proofs.YtbfacdfmanffdaaGreatDoor
open Go.ChangeShapes Go.WideShapes Go.ChangeAt Go.RowKit

/-- Of the blocks that were there, those outside F are as they were. -/
structure Only (F : Nat → Prop) (w w' : World) : Prop where
  os : w'.os = w.os
  tape : w'.tape = w.tape
  output : w'.output = w.output
  size : w.heap.size ≤ w'.heap.size
  block : ∀ k, k < w.heap.size → ¬ F k → w'.heap[k]? = w.heap[k]?

section
variable {F G : Nat → Prop} {a b c w w' : World}
theorem Only.refl (F : Nat → Prop) (w : World) : Only F w w := ⟨rfl, rfl, rfl, Nat.le_refl _, fun _ _ _ => rfl⟩
theorem Only.trans (h : Only F a b) (k : Only F b c) : Only F a c :=
  ⟨k.os.trans h.os, k.tape.trans h.tape, k.output.trans h.output, Nat.le_trans h.size k.size, fun i hi hx => (k.block i (Nat.lt_of_lt_of_le hi h.size) hx).trans (h.block i hi hx)⟩
/-- What the second step changes need be named only as far as it was there ahead of the first one. -/
theorem Only.then_ (h : Only F a b) (k : Only G b c) (hG : ∀ i, i < a.heap.size → G i → F i) : Only F a c :=
  ⟨k.os.trans h.os, k.tape.trans h.tape, k.output.trans h.output, Nat.le_trans h.size k.size, fun i hi hx => (k.block i (Nat.lt_of_lt_of_le hi h.size) fun g => hx (hG i hi g)).trans (h.block i hi hx)⟩
theorem Only.mono (h : Only F a b) (hG : ∀ i, i < a.heap.size → F i → G i) : Only G a b := ⟨h.os, h.tape, h.output, h.size, fun i hi hx => h.block i hi fun g => hx (hG i hi g)⟩
theorem Only.of_below (h : Below w.heap.size w w') : Only F w w' := ⟨h.os, h.tape, h.output, h.size, fun k hk _ => h.block k hk⟩
theorem Only.below {B : Nat} (h : Only F w w') (h1 : ∀ i, i < B → ¬ F i) (h2 : B ≤ w.heap.size) : Below B w w' := ⟨h.os, h.tape, h.output, h.size, fun k hk => h.block k (by omega) (h1 k hk)⟩
theorem Only.fresh (h : Only (fun _ => False) w w') : Below w.heap.size w w' := h.below (fun _ _ h => h) (Nat.le_refl _)
theorem Only.setCell (h : Only F a w) (p : Addr) (hp : F p.block ∨ a.heap.size ≤ p.block) (u : Value) : Only F a (w.setCell p u) :=
  ⟨h.os, h.tape, h.output, by simpa [World.setCell] using h.size, fun k hk hx => (Below.heap_setCell _ _ _ _ (by
    rintro rfl
    rcases hp with hp | hp
    · exact hx hp
    · omega)).trans (h.block k hk hx)⟩
theorem Only.alloc (h : Only F a w) (o : Obj) : Only F a (w.alloc o) :=
  ⟨h.os, h.tape, h.output, Nat.le_trans h.size (by simp), fun k hk hx => (Below.heap_alloc w o k (Nat.lt_of_lt_of_le hk h.size)).trans (h.block k hk hx)⟩
theorem Only.setCells (g : Nat) (hp : F g ∨ a.heap.size ≤ g) : ∀ (vs : List Value) (o : Nat) (w : World), Only F a w → Only F a (w.setCells g o vs)
  | [], _, _, h => h
  | v :: r, o, _, h => Only.setCells g hp r (o + 1) _ (h.setCell ⟨g, o, none⟩ hp v)
theorem Only.drewN (h : Only F a w) (n : Nat) : Only F a (w.drewN n) := ⟨h.os, h.tape, h.output, h.size, h.block⟩
theorem Only.cell (h : Only F w w') {p : Addr} (h1 : p.block < w.heap.size) (hp : ¬ F p.block) : w'.cell? p = w.cell? p := World.cell?_of_block (w := w) (h.block p.block h1 hp)
theorem Only.frozen (h : Only F w w') {p : Addr} (h1 : p.block < w.heap.size) (hp : ¬ F p.block) : w'.frozen? p = w.frozen? p := World.frozen?_of_block (w := w) (h.block p.block h1 hp)
theorem Only.grown {row : Option Nat} (h : Only F a w) (hg : w.grownBy w' row) (hr : ∀ k, row = some k → F k ∨ a.heap.size ≤ k) : Only F a w' :=
  ⟨hg.os.trans h.os, hg.tape.trans h.tape, hg.output.trans h.output, Nat.le_trans h.size hg.size, fun k hk hx => (hg.block k (Nat.lt_of_lt_of_le hk h.size) (fun e => by
    rcases hr k e.symm with h1 | h1
    · exact hx h1
    · omega)).trans (h.block k hk hx)⟩
end

/-- The slice value v holds the values vs, in a block of the kind N. -/
def Vals (N : Nat → Prop) (w : World) (v : Value) (vs : List Value) : Prop :=
  ∃ a c, v = .slice a vs.length c ∧ vs.length ≤ c ∧ (vs = [] ∨ ∃ b off, a = some ⟨b, off, none⟩ ∧ N b ∧ ∀ j u, vs[j]? = some u → w.cell? ⟨b, off + j, none⟩ = some u)
/-- .. the bytes xs. -/
def Bts (N : Nat → Prop) (w : World) (v : Value) (xs : List Int) : Prop := Vals N w v (xs.map (Value.int .u8))
/-- .. the numbers xs. -/
def Ints (N : Nat → Prop) (w : World) (v : Value) (xs : List Int) : Prop := Vals N w v (xs.map (Value.int .i64))

section
variable {N M F : Nat → Prop} {w w' : World} {v : Value} {vs : List Value} {xs : List Int}
theorem Vals.only (h : Vals N w v vs) (o : Only F w w') (hF : ∀ b, N b → ¬ F b) : Vals N w' v vs := by
  obtain ⟨a, c, rfl, hc, h⟩ := h
  refine ⟨a, c, rfl, hc, h.imp id fun ⟨b, off, ha, hb, h⟩ => ⟨b, off, ha, hb, fun j u hu => ?_⟩⟩
  exact (o.cell (p := ⟨b, off + j, none⟩) (World.block_lt_of_cell? _ _ (h j u hu)) (hF b hb)).trans (h j u hu)
theorem Vals.kind (h : Vals N w v vs) (hM : ∀ b, b < w.heap.size → N b → M b) : Vals M w v vs := by
  obtain ⟨a, c, rfl, hc, h⟩ := h
  by_cases h0 : vs = []
  · exact ⟨a, c, rfl, hc, .inl h0⟩
  · obtain ⟨b, off, ha, hb, h⟩ := h.resolve_left h0
    obtain ⟨u, r, rfl⟩ := List.exists_cons_of_ne_nil h0
    exact ⟨a, c, rfl, hc, .inr ⟨b, off, ha, hM b (World.block_lt_of_cell? _ _ (h 0 u rfl)) hb, h⟩⟩
theorem Vals.at_ {k : Nat} (h : Vals N w v vs) (hk : k < vs.length) : ∃ b off c, v = .slice (some ⟨b, off, none⟩) vs.length c ∧ vs.length ≤ c ∧ N b ∧ b < w.heap.size ∧ w.cell? ⟨b, off + k, none⟩ = some vs[k] := by
  obtain ⟨a, c, rfl, hc, h⟩ := h
  rcases h with rfl | ⟨b, off, rfl, hb, h⟩
  · simp at hk
  · have := h k _ (List.getElem?_eq_getElem hk)
    exact ⟨b, off, c, rfl, hc, hb, World.block_lt_of_cell? _ _ this, this⟩
theorem Vals.heap (h : Vals N w v vs) (e : w'.heap = w.heap) : Vals N w' v vs := by
  obtain ⟨a, c, rfl, hc, h⟩ := h
  exact ⟨a, c, rfl, hc, h.imp id fun ⟨b, off, ha, hb, h⟩ => ⟨b, off, ha, hb, fun j u hu => (World.cell?_of_block (w := w) (by rw [e])).trans (h j u hu)⟩⟩
theorem Vals.of_own {base : Nat} {e : TypeId} (h : w.ownsRow base e 1 v vs.length vs) : Vals (base ≤ ·) w v vs := by
  rcases h.2 with ⟨rfl, h0⟩ | ⟨g, cap, cur, rfl, hb, hg, hn, _⟩
  · exact ⟨none, 0, by rw [h0], by omega, .inl (List.eq_nil_of_length_eq_zero h0)⟩
  · refine ⟨_, cap, rfl, hn, .inr ⟨g, 0, rfl, hb, fun j u hu => ?_⟩⟩
    have := h.cells (g := g) rfl j u hu
    rwa [add_plain] at this
theorem Bts.only (h : Bts N w v xs) (o : Only F w w') (hF : ∀ b, N b → ¬ F b) : Bts N w' v xs := Vals.only h o hF
theorem Bts.kind (h : Bts N w v xs) (hM : ∀ b, b < w.heap.size → N b → M b) : Bts M w v xs := Vals.kind h hM
theorem Bts.heap (h : Bts N w v xs) (e : w'.heap = w.heap) : Bts N w' v xs := Vals.heap h e
theorem Ints.only (h : Ints N w v xs) (o : Only F w w') (hF : ∀ b, N b → ¬ F b) : Ints N w' v xs := Vals.only h o hF
theorem Bts.form (h : Bts N w v xs) : ∃ a c, v = .slice a xs.length c ∧ xs.length ≤ c := by
  obtain ⟨a, c, rfl, hc, _⟩ := h
  exact ⟨a, c, by rw [List.length_map], by simpa using hc⟩
end

/-- Bytes: numbers from 0 to 255. -/
def Bytes (xs : List Int) : Prop := ∀ n ∈ xs, 0 ≤ n ∧ n ≤ 255

theorem nums_inj : ∀ {xs ys : List Int}, Bytes xs → Bytes ys → (xs.map fun n => UInt8.ofNat n.toNat) = (ys.map fun n => UInt8.ofNat n.toNat) → xs = ys
  | [], [], _, _, _ => rfl
  | [], _ :: _, _, _, h => by simp at h
  | _ :: _, [], _, _, h => by simp at h
  | x :: xs, y :: ys, hx, hy, h => by
    simp only [List.map_cons, List.cons.injEq] at h
    have h1 := hx x (by simp)
    have h2 := hy y (by simp)
    have h3 := congrArg UInt8.toNat h.1
    simp only [UInt8.toNat_ofNat'] at h3
    have : x = y := by omega
    rw [this, nums_inj (fun n hn => hx n (by simp [hn])) (fun n hn => hy n (by simp [hn])) h.2]
theorem str_neB {xs ys : List Int} (hx : Bytes xs) (hy : Bytes ys) (h : xs ≠ ys) : ((strOfNums xs).toList == (strOfNums ys).toList) = false := by
  rw [beq_eq_false_iff_ne, ByteArray.toList_eq, ByteArray.toList_eq]
  exact fun e => h (nums_inj hx hy e)
theorem conv_bts {N : Nat → Prop} {w : World} {v : Value} {xs : List Int} (h : Bts N w v xs) : (convert 22 9 v).run Tryz.prog w = .ok (.string (strOfNums xs)) w := by
  obtain ⟨a, c, rfl, _, h⟩ := h
  rw [List.length_map]
  rcases h with h | ⟨b, off, rfl, _, h⟩
  · obtain rfl : xs = [] := List.map_eq_nil_iff.1 h
    rcases a with _ | a
    · exact run_convert_bytes_nil w 22 5 Tryz.underlying22 Tryz.underlying5 _ _ 9 Tryz.underlying9
    · rw [run_convert_bytes_string w 22 9 5 _ _ c Tryz.underlying22 Tryz.underlying5 Tryz.underlying9]
      exact run_bytesToString w a 0 c [] rfl
  · exact run_convert_bytes_arg w 22 5 Tryz.underlying22 Tryz.underlying5 b off _ c xs rfl (fun i hi => h i _ (by simp [List.getElem?_eq_getElem hi])) 9 Tryz.underlying9

theorem same_eq {N M : Nat → Prop} (v1 v2 : Value) (xs : List Int) (w : World) (h1 : Bts N w v1 xs) (h2 : Bts M w v2 xs) :
    Calls Tryz.prog 13 #[v1, v2] w fun e w' => e = .returned (.bool true) ∧ w = w' := by
  have c1 := conv_bts h1
  have c2 := conv_bts h2
  go_enter Tryz.func13, Tryz.ntmps13
  go_wp2
  go_ret
  exact ⟨rfl, rfl⟩
theorem same_any {N M : Nat → Prop} (v1 v2 : Value) (xs ys : List Int) (w : World) (h1 : Bts N w v1 xs) (h2 : Bts M w v2 ys) (hx : Bytes xs) (hy : Bytes ys) :
    Calls Tryz.prog 13 #[v1, v2] w fun e w' => e = .returned (.bool (decide (xs = ys))) ∧ w = w' := by
  by_cases he : xs = ys
  · subst he
    simpa using same_eq v1 v2 xs w h1 h2
  · have c1 := conv_bts h1
    have c2 := conv_bts h2
    have hs : ((strOfNums xs).toList == (strOfNums ys).toList) = false := str_neB hx hy he
    have hd : decide (xs = ys) = false := by simpa using he
    clear he
    rw [hd]
    go_enter Tryz.func13, Tryz.ntmps13
    go_wp2
    go_ret
    exact ⟨rfl, rfl⟩
end Go.Proofs.YtbfacdfmanffdaaGreatDoor
