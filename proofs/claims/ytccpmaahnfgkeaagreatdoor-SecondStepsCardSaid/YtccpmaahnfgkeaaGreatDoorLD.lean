/- Texts of the layers below, one behind the other: DBase DSec DOps DWr DClr DLay DMem. -/
import Derived.Test.YtccpmaahnfgkeaaGreatDoorRows
import Derived.WalkKit
import Derived.ProofKit
import Derived.OpenShut
import Derived.Handy
import Derived.Lib.Hide
import Derived.Laws.BytesArg
import Derived.Laws.IdiomCopy
import Derived.Lib.SliceRun
import Derived.Deep.QuietTactic
import Derived.BigQuiet
import Derived.RegionTactic
import Derived.Deep.Slices
import Derived.Deep.Fields

/- Words of our own for the memory that the laws of layer 3 speak of: which blocks a step may change, what a slice reads as, what a disk is in memory; and the plain facts on its bytes. -/
namespace Go.Proofs.YtccpmaahnfgkeaaGreatDoor
set_option maxRecDepth 1000000
open Go.ChangeShapes Go.WideShapes Go.ChangeAt Go.RowKit

/-- Of the blocks that were there, those outside F are as they were. -/
structure Only (F : Nat → Prop) (w w' : World) : Prop where
  os : w'.os = w.os
  tape : w'.tape = w.tape
  output : w'.output = w.output
  size : w.heap.size ≤ w'.heap.size
  block : ∀ k, k < w.heap.size → ¬ F k → w'.heap[k]? = w.heap[k]?

section
variable {F G : Nat → Prop} {a b c w w' : World}
theorem Only.refl (F : Nat → Prop) (w : World) : Only F w w := ⟨rfl, rfl, rfl, Nat.le_refl _, fun _ _ _ => rfl⟩
theorem Only.trans (h : Only F a b) (k : Only F b c) : Only F a c :=
  ⟨k.os.trans h.os, k.tape.trans h.tape, k.output.trans h.output, Nat.le_trans h.size k.size, fun i hi hx => (k.block i (Nat.lt_of_lt_of_le hi h.size) hx).trans (h.block i hi hx)⟩
/-- What the second step changes need be named only as far as it was there ahead of the first one. -/
theorem Only.then_ (h : Only F a b) (k : Only G b c) (hG : ∀ i, i < a.heap.size → G i → F i) : Only F a c :=
  ⟨k.os.trans h.os, k.tape.trans h.tape, k.output.trans h.output, Nat.le_trans h.size k.size, fun i hi hx => (k.block i (Nat.lt_of_lt_of_le hi h.size) fun g => hx (hG i hi g)).trans (h.block i hi hx)⟩
theorem Only.mono (h : Only F a b) (hG : ∀ i, i < a.heap.size → F i → G i) : Only G a b := ⟨h.os, h.tape, h.output, h.size, fun i hi hx => h.block i hi fun g => hx (hG i hi g)⟩
theorem Only.of_below (h : Below w.heap.size w w') : Only F w w' := ⟨h.os, h.tape, h.output, h.size, fun k hk _ => h.block k hk⟩
theorem Only.below {B : Nat} (h : Only F w w') (h1 : ∀ i, i < B → ¬ F i) (h2 : B ≤ w.heap.size) : Below B w w' := ⟨h.os, h.tape, h.output, h.size, fun k hk => h.block k (by omega) (h1 k hk)⟩
theorem Only.fresh (h : Only (fun _ => False) w w') : Below w.heap.size w w' := h.below (fun _ _ h => h) (Nat.le_refl _)
theorem Only.setCell (h : Only F a w) (p : Addr) (hp : F p.block ∨ a.heap.size ≤ p.block) (u : Value) : Only F a (w.setCell p u) :=
  ⟨h.os, h.tape, h.output, by simpa [World.setCell] using h.size, fun k hk hx => (Below.heap_setCell _ _ _ _ (by
    rintro rfl
    rcases hp with hp | hp
    · exact hx hp
    · omega)).trans (h.block k hk hx)⟩
theorem Only.alloc (h : Only F a w) (o : Obj) : Only F a (w.alloc o) :=
  ⟨h.os, h.tape, h.output, Nat.le_trans h.size (by simp), fun k hk hx => (Below.heap_alloc w o k (Nat.lt_of_lt_of_le hk h.size)).trans (h.block k hk hx)⟩
theorem Only.setCells (g : Nat) (hp : F g ∨ a.heap.size ≤ g) : ∀ (vs : List Value) (o : Nat) (w : World), Only F a w → Only F a (w.setCells g o vs)
  | [], _, _, h => h
  | v :: r, o, _, h => Only.setCells g hp r (o + 1) _ (h.setCell ⟨g, o, none⟩ hp v)
theorem Only.drewN (h : Only F a w) (n : Nat) : Only F a (w.drewN n) := ⟨h.os, h.tape, h.output, h.size, h.block⟩
theorem Only.cell (h : Only F w w') {p : Addr} (h1 : p.block < w.heap.size) (hp : ¬ F p.block) : w'.cell? p = w.cell? p := World.cell?_of_block (w := w) (h.block p.block h1 hp)
theorem Only.frozen (h : Only F w w') {p : Addr} (h1 : p.block < w.heap.size) (hp : ¬ F p.block) : w'.frozen? p = w.frozen? p := World.frozen?_of_block (w := w) (h.block p.block h1 hp)
theorem Only.grown {row : Option Nat} (h : Only F a w) (hg : w.grownBy w' row) (hr : ∀ k, row = some k → F k ∨ a.heap.size ≤ k) : Only F a w' :=
  ⟨hg.os.trans h.os, hg.tape.trans h.tape, hg.output.trans h.output, Nat.le_trans h.size hg.size, fun k hk hx => (hg.block k (Nat.lt_of_lt_of_le hk h.size) (fun e => by
    rcases hr k e.symm with h1 | h1
    · exact hx h1
    · omega)).trans (h.block k hk hx)⟩
end

/-- The slice value v holds the values vs, in a block of the kind N. -/
def Vals (N : Nat → Prop) (w : World) (v : Value) (vs : List Value) : Prop :=
  ∃ a c, v = .slice a vs.length c ∧ vs.length ≤ c ∧ (vs = [] ∨ ∃ b off, a = some ⟨b, off, none⟩ ∧ N b ∧ ∀ j u, vs[j]? = some u → w.cell? ⟨b, off + j, none⟩ = some u)
/-- .. the bytes xs. -/
def Bts (N : Nat → Prop) (w : World) (v : Value) (xs : List Int) : Prop := Vals N w v (xs.map (Value.int .u8))
/-- .. the numbers xs. -/
def Ints (N : Nat → Prop) (w : World) (v : Value) (xs : List Int) : Prop := Vals N w v (xs.map (Value.int .i64))

section
variable {N M F : Nat → Prop} {w w' : World} {v : Value} {vs : List Value} {xs : List Int}
theorem Vals.only (h : Vals N w v vs) (o : Only F w w') (hF : ∀ b, N b → ¬ F b) : Vals N w' v vs := by
  obtain ⟨a, c, rfl, hc, h⟩ := h
  refine ⟨a, c, rfl, hc, h.imp id fun ⟨b, off, ha, hb, h⟩ => ⟨b, off, ha, hb, fun j u hu => ?_⟩⟩
  exact (o.cell (p := ⟨b, off + j, none⟩) (World.block_lt_of_cell? _ _ (h j u hu)) (hF b hb)).trans (h j u hu)
theorem Vals.kind (h : Vals N w v vs) (hM : ∀ b, b < w.heap.size → N b → M b) : Vals M w v vs := by
  obtain ⟨a, c, rfl, hc, h⟩ := h
  by_cases h0 : vs = []
  · exact ⟨a, c, rfl, hc, .inl h0⟩
  · obtain ⟨b, off, ha, hb, h⟩ := h.resolve_left h0
    obtain ⟨u, r, rfl⟩ := List.exists_cons_of_ne_nil h0
    exact ⟨a, c, rfl, hc, .inr ⟨b, off, ha, hM b (World.block_lt_of_cell? _ _ (h 0 u rfl)) hb, h⟩⟩
theorem Vals.at_ {k : Nat} (h : Vals N w v vs) (hk : k < vs.length) : ∃ b off c, v = .slice (some ⟨b, off, none⟩) vs.length c ∧ vs.length ≤ c ∧ N b ∧ b < w.heap.size ∧ w.cell? ⟨b, off + k, none⟩ = some vs[k] := by
  obtain ⟨a, c, rfl, hc, h⟩ := h
  rcases h with rfl | ⟨b, off, rfl, hb, h⟩
  · simp at hk
  · have := h k _ (List.getElem?_eq_getElem hk)
    exact ⟨b, off, c, rfl, hc, hb, World.block_lt_of_cell? _ _ this, this⟩
theorem Vals.heap (h : Vals N w v vs) (e : w'.heap = w.heap) : Vals N w' v vs := by
  obtain ⟨a, c, rfl, hc, h⟩ := h
  exact ⟨a, c, rfl, hc, h.imp id fun ⟨b, off, ha, hb, h⟩ => ⟨b, off, ha, hb, fun j u hu => (World.cell?_of_block (w := w) (by rw [e])).trans (h j u hu)⟩⟩
theorem Vals.of_own {base : Nat} {e : TypeId} (h : w.ownsRow base e 1 v vs.length vs) : Vals (base ≤ ·) w v vs := by
  rcases h.2 with ⟨rfl, h0⟩ | ⟨g, cap, cur, rfl, hb, hg, hn, _⟩
  · exact ⟨none, 0, by rw [h0], by omega, .inl (List.eq_nil_of_length_eq_zero h0)⟩
  · refine ⟨_, cap, rfl, hn, .inr ⟨g, 0, rfl, hb, fun j u hu => ?_⟩⟩
    have := h.cells (g := g) rfl j u hu
    rwa [add_plain] at this
theorem Bts.only (h : Bts N w v xs) (o : Only F w w') (hF : ∀ b, N b → ¬ F b) : Bts N w' v xs := Vals.only h o hF
theorem Bts.kind (h : Bts N w v xs) (hM : ∀ b, b < w.heap.size → N b → M b) : Bts M w v xs := Vals.kind h hM
theorem Bts.heap (h : Bts N w v xs) (e : w'.heap = w.heap) : Bts N w' v xs := Vals.heap h e
theorem Ints.only (h : Ints N w v xs) (o : Only F w w') (hF : ∀ b, N b → ¬ F b) : Ints N w' v xs := Vals.only h o hF
theorem Bts.form (h : Bts N w v xs) : ∃ a c, v = .slice a xs.length c ∧ xs.length ≤ c := by
  obtain ⟨a, c, rfl, hc, _⟩ := h
  exact ⟨a, c, by rw [List.length_map], by simpa using hc⟩
end

/-- Bytes: numbers from 0 to 255. -/
def Bytes (xs : List Int) : Prop := ∀ n ∈ xs, 0 ≤ n ∧ n ≤ 255

theorem nums_inj : ∀ {xs ys : List Int}, Bytes xs → Bytes ys → (xs.map fun n => UInt8.ofNat n.toNat) = (ys.map fun n => UInt8.ofNat n.toNat) → xs = ys
  | [], [], _, _, _ => rfl
  | [], _ :: _, _, _, h => by simp at h
  | _ :: _, [], _, _, h => by simp at h
  | x :: xs, y :: ys, hx, hy, h => by
    simp only [List.map_cons, List.cons.injEq] at h
    have h1 := hx x (by simp)
    have h2 := hy y (by simp)
    have h3 := congrArg UInt8.toNat h.1
    simp only [UInt8.toNat_ofNat'] at h3
    have : x = y := by omega
    rw [this, nums_inj (fun n hn => hx n (by simp [hn])) (fun n hn => hy n (by simp [hn])) h.2]
theorem str_neB {xs ys : List Int} (hx : Bytes xs) (hy : Bytes ys) (h : xs ≠ ys) : ((strOfNums xs).toList == (strOfNums ys).toList) = false := by
  rw [beq_eq_false_iff_ne, ByteArray.toList_eq, ByteArray.toList_eq]
  exact fun e => h (nums_inj hx hy e)
theorem conv_bts {N : Nat → Prop} {w : World} {v : Value} {xs : List Int} (h : Bts N w v xs) : (convert 33 9 v).run Tryz.prog w = .ok (.string (strOfNums xs)) w := by
  obtain ⟨a, c, rfl, _, h⟩ := h
  rw [List.length_map]
  rcases h with h | ⟨b, off, rfl, _, h⟩
  · obtain rfl : xs = [] := List.map_eq_nil_iff.1 h
    rcases a with _ | a
    · exact run_convert_bytes_nil w 33 5 Tryz.underlying33 Tryz.underlying5 _ _ 9 Tryz.underlying9
    · rw [run_convert_bytes_string w 33 9 5 _ _ c Tryz.underlying33 Tryz.underlying5 Tryz.underlying9]
      exact run_bytesToString w a 0 c [] rfl
  · exact run_convert_bytes_arg w 33 5 Tryz.underlying33 Tryz.underlying5 b off _ c xs rfl (fun i hi => h i _ (by simp [List.getElem?_eq_getElem hi])) 9 Tryz.underlying9

theorem same_eq {N M : Nat → Prop} (v1 v2 : Value) (xs : List Int) (w : World) (h1 : Bts N w v1 xs) (h2 : Bts M w v2 xs) :
    Calls Tryz.prog 35 #[v1, v2] w fun e w' => e = .returned (.bool true) ∧ w = w' := by
  have c1 := conv_bts h1
  have c2 := conv_bts h2
  go_enter Tryz.func35, Tryz.ntmps35
  go_wp2
  go_ret
  exact ⟨rfl, rfl⟩
/-- The bytes of the sector i. -/
def sec (D : Nat → Int) (i : Nat) : List Int := (List.range 64).map fun k => D (64 * i + k)
/-- A disk whose sector i is bs, with noughts behind. -/
def put (D : Nat → Int) (i : Nat) (bs : List Int) : Nat → Int := fun j => if 64 * i ≤ j ∧ j < 64 * i + 64 then bs.getD (j - 64 * i) 0 else D j
def pad (bs : List Int) : List Int := bs ++ List.replicate (64 - bs.length) 0
theorem sec_len (D : Nat → Int) (i : Nat) : (sec D i).length = 64 := by simp [sec]
theorem sec_get (D : Nat → Int) (i k : Nat) (h : k < 64) : (sec D i)[k]? = some (D (64 * i + k)) := by simp [sec, h]
theorem sec_put (D : Nat → Int) (i : Nat) (bs : List Int) (h : bs.length ≤ 64) : sec (put D i bs) i = pad bs := by
  apply List.ext_getElem?
  intro k
  by_cases hk : k < 64
  · rw [sec_get _ _ _ hk, pad]
    simp only [put]
    rw [if_pos (by omega), show 64 * i + k - 64 * i = k by omega]
    by_cases hb : k < bs.length
    · rw [List.getElem?_append_left hb, List.getD, List.getElem?_eq_getElem hb]; rfl
    · rw [List.getElem?_append_right (by omega), List.getD, List.getElem?_eq_none (by omega), List.getElem?_replicate, if_pos (by omega)]; rfl
  · rw [List.getElem?_eq_none (by rw [sec_len]; omega), List.getElem?_eq_none (by simp [pad]; omega)]
theorem sec_put_other (D : Nat → Int) (i j : Nat) (bs : List Int) (h : j ≠ i) : sec (put D i bs) j = sec D j := by
  unfold sec
  apply List.map_congr_left
  intro k hk
  have := List.mem_range.1 hk
  simp only [put]
  rw [if_neg (by omega)]
theorem pad_len (bs : List Int) (h : bs.length ≤ 64) : (pad bs).length = 64 := by simp [pad]; omega
theorem pad_nil : pad [] = List.replicate 64 0 := rfl
theorem put_bytes {D : Nat → Int} (hD : ∀ j, 0 ≤ D j ∧ D j ≤ 255) (i : Nat) {bs : List Int} (hb : Bytes bs) : ∀ j, 0 ≤ put D i bs j ∧ put D i bs j ≤ 255 := by
  intro j
  simp only [put]
  split
  · rw [List.getD]
    cases h : bs[j - 64 * i]? with
    | none => simp
    | some n => exact hb n (List.mem_of_getElem? h)
  · exact hD j
theorem sec_bytes {D : Nat → Int} (hD : ∀ j, 0 ≤ D j ∧ D j ≤ 255) (i : Nat) : Bytes (sec D i) := by
  intro n hn
  obtain ⟨k, _, rfl⟩ := List.mem_map.1 hn
  exact hD _
theorem zeros_bytes (n : Nat) : Bytes (List.replicate n 0) := by
  intro m hm
  rw [List.eq_of_mem_replicate hm]; omega
/-- How many of the first n sectors are not noughts. -/
def cntU (D : Nat → Int) : Nat → Nat
  | 0 => 0
  | n + 1 => cntU D n + if sec D n = List.replicate 64 0 then 0 else 1
theorem cntU_le (D : Nat → Int) (n : Nat) : cntU D n ≤ n := by
  induction n with
  | zero => exact Nat.le_refl _
  | succ n ih => simp only [cntU]; split <;> omega

/-- The disk at block m, its bytes in block x: n sectors that hold D, r reads and c writes so far. -/
structure DiskAt (w : World) (m x n r c : Nat) (D : Nat → Int) : Prop where
  reads : w.cell? ⟨m, 0, none⟩ = some (.int .i64 r)
  writes : w.cell? ⟨m, 1, none⟩ = some (.int .i64 c)
  row : w.cell? ⟨m, 2, none⟩ = some (.slice (some ⟨x, 0, none⟩) (64 * n) (64 * n))
  byte : ∀ j, j < 64 * n → w.cell? ⟨x, j, none⟩ = some (.int .u8 (D j))
  thaw : ∀ j, w.frozen? ⟨x, j, none⟩ = false
  thaw' : ∀ j, w.frozen? ⟨m, j, none⟩ = false
  apart : m ≠ x
  small : n ≤ 20000
  rng : ∀ j, 0 ≤ D j ∧ D j ≤ 255
  mlt : m < w.heap.size
  xlt : x < w.heap.size

/-- The disk's two blocks. -/
def dk (m x : Nat) : Nat → Prop := fun k => k = m ∨ k = x

theorem DiskAt.only {w w' : World} {m x n r c : Nat} {D : Nat → Int} {F : Nat → Prop} (h : DiskAt w m x n r c D) (b : Only F w w') (h1 : ¬ F m) (h2 : ¬ F x) : DiskAt w' m x n r c D :=
  ⟨(b.cell (p := ⟨m, 0, none⟩) h.mlt h1).trans h.reads, (b.cell (p := ⟨m, 1, none⟩) h.mlt h1).trans h.writes, (b.cell (p := ⟨m, 2, none⟩) h.mlt h1).trans h.row, fun j hj => (b.cell (p := ⟨x, j, none⟩) h.xlt h2).trans (h.byte j hj),
   fun j => (b.frozen (p := ⟨x, j, none⟩) h.xlt h2).trans (h.thaw j), fun j => (b.frozen (p := ⟨m, j, none⟩) h.mlt h1).trans (h.thaw' j), h.apart, h.small, h.rng, Nat.lt_of_lt_of_le h.mlt b.size, Nat.lt_of_lt_of_le h.xlt b.size⟩
theorem DiskAt.fresh {w w' : World} {m x n r c : Nat} {D : Nat → Int} (h : DiskAt w m x n r c D) (b : Below w.heap.size w w') : DiskAt w' m x n r c D :=
  h.only (F := fun _ => False) (Only.of_below b) id id
theorem DiskAt.heap {w w' : World} {m x n r c : Nat} {D : Nat → Int} (h : DiskAt w m x n r c D) (e : w'.heap = w.heap) : DiskAt w' m x n r c D := by
  have hc : ∀ p, w'.cell? p = w.cell? p := fun p => World.cell?_of_block (w := w) (by rw [e])
  have hf : ∀ p, w'.frozen? p = w.frozen? p := fun p => World.frozen?_of_block (w := w) (by rw [e])
  exact ⟨(hc _).trans h.reads, (hc _).trans h.writes, (hc _).trans h.row, fun j hj => (hc _).trans (h.byte j hj), fun j => (hf _).trans (h.thaw j), fun j => (hf _).trans (h.thaw' j), h.apart, h.small, h.rng, by rw [e]; exact h.mlt, by rw [e]; exact h.xlt⟩
/-- The sector i as a slice. -/
theorem DiskAt.sec {w : World} {m x n r c : Nat} {D : Nat → Int} (h : DiskAt w m x n r c D) {i : Nat} (hi : i < n) : Bts (dk m x) w (.slice (some ⟨x, 64 * i, none⟩) 64 64) (sec D i) := by
  refine ⟨_, 64, by simp [sec_len], by simp [sec_len], .inr ⟨x, 64 * i, rfl, .inr rfl, fun j u hu => ?_⟩⟩
  rw [List.getElem?_map] at hu
  by_cases hj : j < 64
  · rw [sec_get _ _ _ hj] at hu
    simp only [Option.map_some, Option.some.injEq] at hu
    rw [← hu]
    exact h.byte _ (by omega)
  · rw [List.getElem?_eq_none (by rw [sec_len]; omega)] at hu
    cases hu
end Go.Proofs.YtccpmaahnfgkeaaGreatDoor

/- What New, Len, Calls, check, sector of package disk, and slices.Clone, do. No condition but those that each statement names. -/
namespace Go.Proofs.YtccpmaahnfgkeaaGreatDoor
set_option maxRecDepth 1000000
open Go.ChangeShapes Go.WideShapes Go.ChangeAt Go.RowKit

theorem Tryz.info5 : (Tryz.prog.info? 5).map (fun i => (i.zero, i.size, i.bytes)) = some (some (.int .u8 0), 1, 1) := by kernel_rfl

theorem mk_bytes (w : World) (n : Nat) (hn : n ≤ 100000000) : (Instr.makeSlice 33 (.int .i64 (n : Int)) (.int .i64 (n : Int))).run Tryz.prog w = .ok (.slice (some ⟨w.heap.size, 0, none⟩) n n) (w.alloc (.cells (madeCells (Value.int .u8 0).cells n) 5)) := by
  obtain ⟨i0, hi, hz0, hz1, hz2⟩ := info_parts Tryz.info5
  have h := run_make (P := Tryz.prog) w 33 5 i0 (.int .u8 0) Tryz.underlying33 hi hz0 .i64 .i64 (n : Int) (n : Int) (by omega) (by omega) (by rw [hz2]; omega) (by omega)
  rw [hz1, Nat.mul_one, show ((n : Int)).toNat = n by omega] at h
  exact h
theorem made_cell (w : World) (n j : Nat) (h : j < n) : (w.alloc (.cells (madeCells (Value.int .u8 0).cells n) 5)).cell? ⟨w.heap.size, j, none⟩ = some (.int .u8 0) := by
  rw [World.cell?_alloc_at _ _ _ _ rfl]
  show (madeCells #[Value.int .u8 0] n)[j]? = _
  rw [← Array.getElem?_toList, toList_madeCells_one, List.getElem?_replicate, if_pos h]

theorem frozen_top (w : World) (cs : Array Value) (t : TypeId) (j : Nat) : (w.alloc (.cells cs t)).frozen? ⟨w.heap.size, j, none⟩ = false := by
  have h : (w.alloc (.cells cs t)).heap[w.heap.size]? = some (.cells cs t) := heap_alloc_new w _
  unfold World.frozen?
  simp only [h]
  simp
theorem frozen_new (w : World) (o o' : Obj) (j : Nat) (ho : ∃ cs t, o = .cells cs t) : ((w.alloc o).alloc o').frozen? ⟨w.heap.size, j, none⟩ = false := by
  obtain ⟨cs, t, rfl⟩ := ho
  rw [World.frozen?_of_block (w := w.alloc (.cells cs t)) (Below.heap_alloc _ _ _ (by simp))]
  exact frozen_top w cs t j

set_option maxHeartbeats 400000 in
theorem dnew_yes (n : Nat) (w : World) (hn : n ≤ 20000) :
    Calls Tryz.prog 47 #[.int .i64 n] w fun e w' => e = .returned (.tuple #[.pointer (some ⟨w.heap.size + 1, 0, none⟩), .int .i64 0]) ∧ DiskAt w' (w.heap.size + 1) w.heap.size n 0 0 (fun _ => 0) ∧ Below w.heap.size w w' := by
  have hm : (Instr.makeSlice 33 (.int .i64 ((n : Int) * 64)) (.int .i64 ((n : Int) * 64))).run Tryz.prog w = .ok (.slice (some ⟨w.heap.size, 0, none⟩) (64 * n) (64 * n)) (w.alloc (.cells (madeCells (Value.int .u8 0).cells (64 * n)) 5)) := by
    have := mk_bytes w (64 * n) (by omega)
    rwa [show ((64 * n : Nat) : Int) = (n : Int) * 64 by omega] at this
  go_enter Tryz.func47, Tryz.ntmps47
  go_wp2
  go_ret2
  refine ⟨rfl, ⟨?_, ?_, ?_, fun j hj => ?_, fun j => ?_, fun j => ?_, by omega, hn, fun _ => by omega, by simp, by simp; omega⟩, ((Below.refl _ _).alloc (Nat.le_refl _) _).alloc (by simp) _⟩
  · rw [World.cell?_alloc_at _ _ _ _ (by simp)]; rfl
  · rw [World.cell?_alloc_at _ _ _ _ (by simp)]; rfl
  · rw [World.cell?_alloc_at _ _ _ _ (by simp)]; rfl
  · rw [World.cell?_alloc_lt _ _ _ (by simp)]
    exact made_cell w (64 * n) j hj
  · exact frozen_new w _ _ j ⟨_, _, rfl⟩
  · have := frozen_top (w.alloc (.cells (madeCells (Value.int .u8 0).cells (64 * n)) 5)) #[Value.int .i64 0, Value.int .i64 0, Value.slice (some ⟨w.heap.size, 0, none⟩) (64 * n) (64 * n)] 137 j
    simp only [World.size_alloc] at this
    exact this

theorem dnew_no (n : Int) (w : World) (hn : n < 0 ∨ 20000 < n) :
    Calls Tryz.prog 47 #[.int .i64 n] w fun e w' => e = .returned (.tuple #[.pointer none, .int .i64 2]) ∧ w = w' := by
  rcases hn with h | h
  · go_enter Tryz.func47, Tryz.ntmps47
    go_wp2
    go_ret2
    exact ⟨rfl, rfl⟩
  · have h' : ¬ n < 0 := by omega
    go_enter Tryz.func47, Tryz.ntmps47
    go_wp2
    go_ret2
    exact ⟨rfl, rfl⟩

theorem len_nil (w : World) : Calls Tryz.prog 113 #[.pointer none] w fun e w' => e = .returned (.int .i64 0) ∧ w = w' := by
  go_enter Tryz.func113, Tryz.ntmps113
  go_wp2
  go_ret
  exact ⟨rfl, rfl⟩
theorem len_any (m x n r c : Nat) (D : Nat → Int) (w : World) (h : DiskAt w m x n r c D) :
    Calls Tryz.prog 113 #[.pointer (some ⟨m, 0, none⟩)] w fun e w' => e = .returned (.int .i64 n) ∧ w = w' := by
  have h0 := h.row
  have hs := h.small
  go_enter Tryz.func113, Tryz.ntmps113
  go_wp2
  go_ret
  exact ⟨by congr 2, rfl⟩

theorem sector_any (m x n r c : Nat) (D : Nat → Int) (i : Nat) (w : World) (h : DiskAt w m x n r c D) (hi : i < n) :
    Calls Tryz.prog 91 #[.pointer (some ⟨m, 0, none⟩), .int .i64 i] w fun e w' => e = .returned (.slice (some ⟨x, 64 * i, none⟩) 64 64) ∧ w = w' := by
  have h0 := h.row
  have hs := h.small
  have e1 : ((i : Int) * 64) = ((64 * i : Nat) : Int) := by omega
  go_enter Tryz.func91, Tryz.ntmps91
  go_wp2
  go_ret
  have e2 : (i + 1) * 64 - 64 * i = 64 := by omega
  exact ⟨show Ending.returned (.slice (some ⟨x, 64 * i, none⟩) ((i + 1) * 64 - 64 * i) ((i + 1) * 64 - 64 * i)) = _ by rw [e2], rfl⟩

theorem dcheck_nil (v : Value) (w : World) : Calls Tryz.prog 90 #[.pointer none, v] w fun e w' => e = .returned (.int .i64 1) ∧ w = w' := by
  go_enter Tryz.func90, Tryz.ntmps90
  go_wp2
  go_ret
  exact ⟨rfl, rfl⟩

/-- Is each of these numbers that of a sector? -/
def inB (n : Nat) (ls : List Int) : Bool := ls.all fun i => decide (0 ≤ i ∧ i < n)
/-- What check tells. -/
def chk (n : Nat) (ls : List Int) : Int := if inB n ls = true then 0 else 4
theorem chk_yes {n : Nat} {ls : List Int} (h : inB n ls = true) : chk n ls = 0 := by simp [chk, h]
theorem chk_no {n : Nat} {ls : List Int} (h : inB n ls = false) : chk n ls = 4 := by simp [chk, h]
theorem inB_snoc (n : Nat) (ls : List Int) (k : Nat) (h : k < ls.length) (h1 : inB n (ls.take k) = true) (h2 : 0 ≤ ls[k]) (h3 : ls[k] < n) : inB n (ls.take (k + 1)) = true := by
  rw [List.take_succ_eq_append_getElem h]
  unfold inB at h1 ⊢
  rw [List.all_append, h1]
  simp [h2, h3]
theorem inB_bad (n : Nat) (ls : List Int) (k : Nat) (h : k < ls.length) (h2 : ¬ (0 ≤ ls[k] ∧ ls[k] < n)) : inB n ls = false := by
  unfold inB
  rw [List.all_eq_false]
  exact ⟨ls[k], List.getElem_mem h, by simpa using h2⟩

set_option maxHeartbeats 1000000 in
theorem check_any {N : Nat → Prop} (m x n r c : Nat) (D : Nat → Int) (v : Value) (ls : List Int) (w : World) (h : DiskAt w m x n r c D) (hv : Ints N w v ls) (hl : ls.length ≤ 1000000) :
    Calls Tryz.prog 90 #[.pointer (some ⟨m, 0, none⟩), v] w fun e w' => e = .returned (.int .i64 (chk n ls)) ∧ w = w' := by
  have HV := Lib.hid hv
  have hs := h.small
  have HL := Lib.hid (len_any m x n r c D w h)
  obtain ⟨a, cp, rfl, hcp, _⟩ := hv
  rw [List.length_map] at HV hcp ⊢
  clear h
  go_enter Tryz.func90, Tryz.ntmps90
  go_wp2
  go_loop [11] (fun i => ∃ k : Nat, k ≤ ls.length ∧ i = .int .i64 k ∧ inB n (ls.take k) = true) (fun i => ls.length - (intOf i).toNat)
  case atStart => exact ⟨0, Nat.zero_le _, rfl, rfl⟩
  case round =>
    obtain ⟨k, hk, rfl, hin⟩ := hrel
    have HI := Lib.hid hin
    clear hin
    by_cases hlt : k < ls.length
    · obtain ⟨b, off, c', he, _, _, _, hc⟩ := HV.out.at_ (k := k) (by simpa using hlt)
      rw [List.length_map] at he
      injection he with e1 e2 e3
      subst e1 e3
      rw [List.getElem_map] at hc
      have HS := Lib.hid (inB_snoc n ls k hlt HI.out)
      have HB := Lib.hid (inB_bad n ls k hlt)
      generalize ls[k] = q at hc HS HB
      by_cases h1 : q < 0
      · go_wp2
        go_ret
        refine ⟨?_, rfl⟩
        rw [chk_no (HB.out (by omega))]
        rfl
      · by_cases h2 : (n : Int) ≤ q
        · go_wp2_with (go_at_call 113; refine HL.out.mono ?_; rintro e w' ⟨rfl, rfl⟩)
          go_ret
          refine ⟨?_, rfl⟩
          rw [chk_no (HB.out (by omega))]
          rfl
        · go_wp2_with (go_at_call 113; refine HL.out.mono ?_; rintro e w' ⟨rfl, rfl⟩)
          go_round
          case rel => exact ⟨k + 1, by omega, by go_num, HS.out (by omega) (by omega)⟩
          case measure => simp [intOf]; omega
    · go_wp2
      go_ret
      refine ⟨?_, rfl⟩
      have e := HI.out
      rw [List.take_of_length_le (by omega)] at e
      rw [chk_yes e]
      rfl
theorem one_ints {N : Nat → Prop} (w : World) (i : Int) (h : N w.heap.size) : Ints N (w.alloc (.cells #[.int .i64 i] 3)) (.slice (some ⟨w.heap.size, 0, none⟩) 1 1) [i] := by
  refine ⟨_, 1, rfl, by simp, .inr ⟨_, 0, rfl, h, fun j u hu => ?_⟩⟩
  rw [World.cell?_alloc_at _ _ _ _ rfl]
  match j, hu with
  | 0, hu => simpa using hu
  | j + 1, hu => simp at hu

/-- What gives new bytes. -/
def Gave (xs : List Int) (w : World) (e : Ending) (w' : World) : Prop := ∃ g c, e = .returned (.slice (some ⟨g, 0, none⟩) xs.length c) ∧ w'.ownsRow w.heap.size 5 1 (.slice (some ⟨g, 0, none⟩) xs.length c) xs.length (xs.map (Value.int .u8)) ∧ Below w.heap.size w w'

set_option maxHeartbeats 1000000 in
theorem clone_any {N : Nat → Prop} (b off c : Nat) (xs : List Int) (w : World) (hv : Bts N w (.slice (some ⟨b, off, none⟩) xs.length c) xs) (hl : xs.length ≤ 1000000) (h0 : 0 < xs.length) :
    Calls Tryz.prog 66 #[.slice (some ⟨b, off, none⟩) xs.length c] w (Gave xs w) := by
  obtain ⟨i0, hi, hz0, hz1, hz2⟩ := info_parts Tryz.info5
  have hsrc : Hid (∀ (o : Obj) j u, (xs.map (Value.int .u8))[j]? = some u → (w.alloc o).cell? ((⟨b, off, none⟩ : Addr).add j) = some u) := by
    obtain ⟨a', c', he, _, h⟩ := hv
    injection he with e1 e2 e3
    subst e1
    rcases h with h | ⟨b', off', he', _, h⟩
    · simp at h; subst h; simp at h0
    · injection he' with he'
      injection he' with e4 e5
      subst e4 e5
      intro o j u hu
      rw [add_plain, World.cell?_alloc_lt _ _ _ (World.block_lt_of_cell? _ _ (h j u hu))]
      exact h j u hu
  clear hv
  have hq := Lib.run_eql_slice_nil (P := Tryz.prog) w 33 5 (some ⟨b, off, none⟩) xs.length c 0 0 Tryz.underlying33
  go_enter Tryz.func66, Tryz.ntmps66
  go_wp2_with (at_builtin; refine wpList_append_own _ rfl _ _ 33 rfl w.heap.size 5 i0 (.int .u8 0) 1 1 Tryz.underlying33 hi hz0 hz1 hz2 rfl (by decide) _ 0 [] rfl ?c0 ⟨b, off, none⟩ xs.length c (xs.map (Value.int .u8)) rfl (by simp) ?c1 ?c2 ?c3 ?c4 ?c5 ?_)
  case c0 => exact World.ownsRow_lit w #[] 0 (Nat.le_refl _) (by decide) rfl
  case c1 => exact hsrc.out _
  case c2 => intro u hu; simp at hu; obtain ⟨x, _, rfl⟩ := hu; rfl
  case c3 => unfold maxLen; omega
  case c4 => omega
  case c5 => simp
  intro v' w1 hown' hgrow _
  have hb : Below w.heap.size w w1 := ((Below.refl _ _).alloc (Nat.le_refl _) _).grown hgrow (by simp) (fun k hk => by simp [Value.ownBlock] at hk; omega)
  have HO := Lib.hid hown'
  have HB := Lib.hid hb
  clear hown' hgrow hb
  go_wp2
  go_ret
  rcases HO.out.2 with ⟨_, h0'⟩ | ⟨g, cap, cur, rfl, _⟩
  · omega
  · exact ⟨g, cap, rfl, HO.out, HB.out⟩
end Go.Proofs.YtccpmaahnfgkeaaGreatDoor

/- What Read, Write and Clear of package disk do. No condition but those that each statement names. -/
namespace Go.Proofs.YtccpmaahnfgkeaaGreatDoor
set_option maxRecDepth 1000000
open Go.ChangeShapes Go.WideShapes Go.ChangeAt Go.RowKit

theorem inB_one {n : Nat} {i : Int} : inB n [i] = decide (0 ≤ i ∧ i < n) := by simp [inB]
theorem check_one (m x n r c : Nat) (D : Nat → Int) (i : Int) (w : World) (h : DiskAt w m x n r c D) :
    Calls Tryz.prog 90 #[.pointer (some ⟨m, 0, none⟩), .slice (some ⟨w.heap.size, 0, none⟩) 1 1] (w.alloc (.cells #[.int .i64 i] 3)) fun e w' => e = .returned (.int .i64 (chk n [i])) ∧ DiskAt w' m x n r c D ∧ Below w.heap.size w w' :=
  (check_any (N := fun _ => True) m x n r c D _ [i] _ (h.fresh ((Below.refl _ _).alloc (Nat.le_refl _) _)) (one_ints w i trivial) (by simp)).mono
    fun e w' ⟨he, hw⟩ => ⟨he, by rw [← hw]; exact h.fresh ((Below.refl _ _).alloc (Nat.le_refl _) _), by rw [← hw]; exact (Below.refl _ _).alloc (Nat.le_refl _) _⟩

theorem read_nil (i : Int) (w : World) : Calls Tryz.prog 63 #[.pointer none, .int .i64 i] w fun e w' => e = .returned (.tuple #[.slice none 0 0, .int .i64 1]) ∧ Below w.heap.size w w' := by
  go_enter Tryz.func63, Tryz.ntmps63
  go_wp2_with (go_at_call 90; refine (dcheck_nil _ _).mono ?_; rintro e w' ⟨rfl, rfl⟩)
  go_ret2
  exact ⟨rfl, (Below.refl _ _).alloc (Nat.le_refl _) _⟩

theorem read_no (m x n r c : Nat) (D : Nat → Int) (i : Int) (w : World) (h : DiskAt w m x n r c D) (hi : ¬ (0 ≤ i ∧ i < n)) :
    Calls Tryz.prog 63 #[.pointer (some ⟨m, 0, none⟩), .int .i64 i] w fun e w' => e = .returned (.tuple #[.slice none 0 0, .int .i64 4]) ∧ Below w.heap.size w w' := by
  have hc := check_one m x n r c D i w h
  rw [chk_no (by rw [inB_one]; simpa using hi)] at hc
  have HC := Lib.hid hc
  clear hc h hi
  go_enter Tryz.func63, Tryz.ntmps63
  go_wp2_with (go_at_call 90; refine HC.out.mono ?_; rintro e w' ⟨rfl, _, hb⟩)
  go_ret2
  exact ⟨rfl, hb⟩

/-- A count goes up. -/
theorem DiskAt.read1 {w : World} {m x n r c : Nat} {D : Nat → Int} (h : DiskAt w m x n r c D) : DiskAt (w.setCell ⟨m, 0, none⟩ (.int .i64 ((r : Int) + 1))) m x n (r + 1) c D := by
  have ha := h.apart
  refine ⟨?_, ?_, ?_, fun j hj => ?_, fun j => ?_, fun j => ?_, h.apart, h.small, h.rng, by simpa [World.setCell] using h.mlt, by simpa [World.setCell] using h.xlt⟩
  · rw [World.cell?_setCell_same _ _ _ h.reads]; rfl
  · rw [World.cell?_setCell_other _ _ _ _ (by simp)]; exact h.writes
  · rw [World.cell?_setCell_other _ _ _ _ (by simp)]; exact h.row
  · rw [World.cell?_setCell_other _ _ _ _ (by intro e; injection e; omega)]; exact h.byte j hj
  · rw [World.frozen?_setCell]; exact h.thaw j
  · rw [World.frozen?_setCell]; exact h.thaw' j
theorem DiskAt.write1 {w : World} {m x n r c : Nat} {D : Nat → Int} (h : DiskAt w m x n r c D) : DiskAt (w.setCell ⟨m, 1, none⟩ (.int .i64 ((c : Int) + 1))) m x n r (c + 1) D := by
  have ha := h.apart
  refine ⟨?_, ?_, ?_, fun j hj => ?_, fun j => ?_, fun j => ?_, h.apart, h.small, h.rng, by simpa [World.setCell] using h.mlt, by simpa [World.setCell] using h.xlt⟩
  · rw [World.cell?_setCell_other _ _ _ _ (by simp)]; exact h.reads
  · rw [World.cell?_setCell_same _ _ _ h.writes]; rfl
  · rw [World.cell?_setCell_other _ _ _ _ (by simp)]; exact h.row
  · rw [World.cell?_setCell_other _ _ _ _ (by intro e; injection e; omega)]; exact h.byte j hj
  · rw [World.frozen?_setCell]; exact h.thaw j
  · rw [World.frozen?_setCell]; exact h.thaw' j

theorem own_lower {w : World} {base base' n : Nat} {e : TypeId} {v : Value} {xs : List Value} (h : w.ownsRow base e 1 v n xs) (hb : base' ≤ base) : w.ownsRow base' e 1 v n xs :=
  ⟨h.1, h.2.imp id fun ⟨g, cap, cur, h1, h2, h3⟩ => ⟨g, cap, cur, h1, Nat.le_trans hb h2, h3⟩⟩

/-- What a read that may be leaves: new bytes, the sector's, and a count that went up. -/
def ReadPost (m x n r c : Nat) (D : Nat → Int) (i : Nat) (w : World) (e : Ending) (w' : World) : Prop :=
  ∃ g cp, e = .returned (.tuple #[.slice (some ⟨g, 0, none⟩) 64 cp, .int .i64 0]) ∧ w'.ownsRow w.heap.size 5 1 (.slice (some ⟨g, 0, none⟩) 64 cp) 64 ((sec D i).map (Value.int .u8)) ∧ DiskAt w' m x n (r + 1) c D ∧ Only (· = m) w w'

set_option maxHeartbeats 1000000 in
theorem read_yes (m x n r c : Nat) (D : Nat → Int) (i : Nat) (w : World) (h : DiskAt w m x n r c D) (hi : i < n) (hr : r ≤ 4000000000000000000) :
    Calls Tryz.prog 63 #[.pointer (some ⟨m, 0, none⟩), .int .i64 i] w (ReadPost m x n r c D i w) := by
  have hc := check_one m x n r c D i w h
  rw [chk_yes (by rw [inB_one]; simpa using hi)] at hc
  have HC := Lib.hid hc
  clear hc h
  go_enter Tryz.func63, Tryz.ntmps63
  go_wp2_with fail
  refine HC.out.mono ?_
  rintro e w1 ⟨rfl, h1, hb1⟩
  have H2 := Lib.hid h1.read1
  have hrd := h1.reads
  have hth := h1.thaw' 0
  have hlt := h1.mlt
  have O2 : Hid (Only (· = m) w (w1.setCell ⟨m, 0, none⟩ (.int .i64 ((r : Int) + 1)))) :=
    show Only _ _ _ from Only.setCell (F := (· = m)) (Only.of_below hb1) ⟨m, 0, none⟩ (.inl rfl) _
  have HS := Lib.hid (sector_any m x n (r + 1) c D i _ H2.out hi)
  have hb := H2.out.sec hi
  have HL := Lib.hid (clone_any x (64 * i) 64 (sec D i) _ (by rw [sec_len]; exact hb) (by rw [sec_len]; omega) (by rw [sec_len]; omega))
  rw [sec_len] at HL
  clear hb h1 hb1 HC
  go_wp2_with fail
  refine HS.out.mono ?_
  rintro e w' ⟨rfl, rfl⟩
  go_wp2_with fail
  refine HL.out.mono ?_
  rintro e w' ⟨g, cp, rfl, hown, hbl⟩
  rw [sec_len] at hown
  have HO : Hid (w'.ownsRow w.heap.size 5 1 (.slice (some ⟨g, 0, none⟩) 64 cp) 64 ((sec D i).map (Value.int .u8))) := own_lower hown O2.out.size
  have HD := Lib.hid (H2.out.fresh hbl)
  have HX : Hid (Only (· = m) w w') := O2.out.then_ (Only.of_below (F := fun _ => False) hbl) (fun _ _ h => h.elim)
  clear hown hbl
  go_wp2
  go_ret2
  exact ⟨g, cp, rfl, HO.out, HD.out, HX.out⟩
end Go.Proofs.YtccpmaahnfgkeaaGreatDoor

/- What Write and Clear of package disk do. No condition but those that each statement names. -/
namespace Go.Proofs.YtccpmaahnfgkeaaGreatDoor
set_option maxRecDepth 1000000
open Go.ChangeShapes Go.WideShapes Go.ChangeAt Go.RowKit

/-- Bytes laid over a disk's, from place o on. -/
def over (D : Nat → Int) (o : Nat) (bs : List Int) : Nat → Int := fun j => if o ≤ j ∧ j < o + bs.length then bs.getD (j - o) 0 else D j
theorem over_put (D : Nat → Int) (i : Nat) (bs : List Int) (h : bs.length ≤ 64) : over (over D (64 * i) bs) (64 * i + bs.length) (List.replicate (64 - bs.length) 0) = put D i bs := by
  funext j
  simp only [over, put, List.length_replicate]
  by_cases h1 : 64 * i ≤ j ∧ j < 64 * i + 64
  · rw [if_pos h1]
    by_cases h2 : 64 * i + bs.length ≤ j
    · rw [if_pos (by omega)]
      simp only [List.getD, List.getElem?_replicate]
      rw [if_pos (by omega), List.getElem?_eq_none (by omega)]
      rfl
    · rw [if_neg (by omega), if_pos (by omega)]
  · rw [if_neg h1, if_neg (by omega), if_neg (by omega)]
theorem over_bytes {D : Nat → Int} (hD : ∀ j, 0 ≤ D j ∧ D j ≤ 255) (o : Nat) {bs : List Int} (hb : Bytes bs) : ∀ j, 0 ≤ over D o bs j ∧ over D o bs j ≤ 255 := by
  intro j
  simp only [over]
  split
  · rw [List.getD]
    cases h : bs[j - o]? with
    | none => simp
    | some n => exact hb n (List.mem_of_getElem? h)
  · exact hD j
theorem size_setCells (b : Nat) : ∀ (vs : List Value) (o : Nat) (w : World), (w.setCells b o vs).heap.size = w.heap.size
  | [], _, _ => rfl
  | v :: r, o, w => by rw [World.setCells, size_setCells b r]; simp [World.setCell]
theorem DiskAt.over {w : World} {m x n r c : Nat} {D : Nat → Int} (h : DiskAt w m x n r c D) (o : Nat) (bs : List Int) (hb : Bytes bs) (ho : o + bs.length ≤ 64 * n) :
    DiskAt (w.setCells x o (bs.map (Value.int .u8))) m x n r c (over D o bs) := by
  have ha := h.apart
  refine ⟨?_, ?_, ?_, fun j hj => ?_, fun j => ?_, fun j => ?_, h.apart, h.small, over_bytes h.rng o hb, by rw [size_setCells]; exact h.mlt, by rw [size_setCells]; exact h.xlt⟩
  · rw [World.cell?_setCells_out _ _ _ _ _ (fun e => absurd e ha)]; exact h.reads
  · rw [World.cell?_setCells_out _ _ _ _ _ (fun e => absurd e ha)]; exact h.writes
  · rw [World.cell?_setCells_out _ _ _ _ _ (fun e => absurd e ha)]; exact h.row
  · by_cases h1 : o ≤ j ∧ j < o + bs.length
    · obtain ⟨k, rfl⟩ : ∃ k, j = o + k := ⟨j - o, by omega⟩
      rw [World.cell?_setCells_in x _ o w (fun k hk => by rw [List.length_map] at hk; rw [h.byte _ (by omega)]; rfl) k (by rw [List.length_map]; omega)]
      simp only [YtccpmaahnfgkeaaGreatDoor.over]
      rw [if_pos h1, List.getElem_map, show o + k - o = k by omega, List.getD, List.getElem?_eq_getElem (by omega)]
      rfl
    · rw [World.cell?_setCells_out _ _ _ _ _ (fun _ _ => by show j < o ∨ _ ≤ j; rw [List.length_map]; omega), h.byte j hj]
      simp only [YtccpmaahnfgkeaaGreatDoor.over]
      rw [if_neg h1]
  · rw [World.frozen?_setCells]; exact h.thaw j
  · rw [World.frozen?_setCells]; exact h.thaw' j

theorem zero5 : ∀ w, (zeroValue 5).run Tryz.prog w = .ok (.int .u8 0) w := fun w => by
  obtain ⟨i0, hi, hz0, hz1, hz2⟩ := info_parts Tryz.info5
  simp [zeroValue, typeInfo, hi, hz0]
theorem clear_run {w : World} {m x n r c : Nat} {D : Nat → Int} (h : DiskAt w m x n r c D) (a : Option Addr) (o k cp : Nat) (ho : o + k ≤ 64 * n) (ha : 0 < k → a = some ⟨x, o, none⟩) (ty : TypeId) :
    (Builtin.clear_ #[33] ty #[.slice a k cp]).run Tryz.prog w = .ok (.tuple #[]) (w.setCells x o ((List.replicate k 0).map (Value.int .u8))) := by
  rw [List.map_replicate]
  rcases Nat.eq_zero_or_pos k with rfl | hk
  · cases a <;> simp [Builtin.clear_, run_underlying Tryz.underlying33, World.setCells]
  · rw [ha hk]
    exact Lib.run_clear_slice w 33 5 ty (.int .u8 0) Tryz.underlying33 zero5 rfl rfl x o k cp hk (fun j hj => by rw [h.byte _ (by omega)]; rfl) (fun j _ => h.thaw _)
theorem copy_run {N : Nat → Prop} {w : World} {m x n r c : Nat} {D : Nat → Int} (h : DiskAt w m x n r c D) (i : Nat) (hi : i < n) (v : Value) (bs : List Int) (hv : Bts N w v bs) (hl : bs.length ≤ 64) (ty : TypeId) :
    (Builtin.copy_ #[33, 33] ty #[.slice (some ⟨x, 64 * i, none⟩) 64 64, v]).run Tryz.prog w = .ok (.int .i64 bs.length) (w.setCells x (64 * i) (bs.map (Value.int .u8))) := by
  have hs : (Tryz.prog.info? 5).map (·.size) = some 1 := by
    obtain ⟨i0, hi, hz0, hz1, hz2⟩ := info_parts Tryz.info5
    simp [hi, hz1]
  obtain ⟨a, cp, rfl, _, h'⟩ := hv
  rw [List.length_map]
  rcases h' with h' | ⟨b, off, rfl, _, h'⟩
  · obtain rfl : bs = [] := List.map_eq_nil_iff.1 h'
    exact run_copy_none w 33 33 ty 5 _ a 64 64 0 cp Tryz.underlying33 hs (by simp)
  · have := run_copy_cells (P := Tryz.prog) w 33 33 ty 5 x (64 * i) 64 64 ⟨b, off, none⟩ bs.length cp (bs.map (Value.int .u8)) Tryz.underlying33 hs (by rw [List.length_map]; exact (Nat.min_eq_left hl).symm)
      (fun j u hu => by rw [add_plain]; exact h' j u hu) (fun j hj => by rw [List.length_map] at hj; rw [h.byte _ (by omega)]; rfl) (fun j _ => h.thaw _)
      (fun u hu => by obtain ⟨q, _, rfl⟩ := List.mem_map.1 hu; rfl)
    rw [List.length_map] at this
    exact this

theorem write_none (m x n r c : Nat) (D : Nat → Int) (i : Int) (v : Value) (w : World) (h : DiskAt w m x n r c D) (hi : ¬ (0 ≤ i ∧ i < n)) :
    Calls Tryz.prog 87 #[.pointer (some ⟨m, 0, none⟩), .int .i64 i, v] w fun e w' => e = .returned (.int .i64 4) ∧ Below w.heap.size w w' := by
  have hc := check_one m x n r c D i w h
  rw [chk_no (by rw [inB_one]; simpa using hi)] at hc
  have HC := Lib.hid hc
  clear hc h hi
  go_enter Tryz.func87, Tryz.ntmps87
  go_wp2_with (go_at_call 90; refine HC.out.mono ?_; rintro e w' ⟨rfl, _, hb⟩)
  go_ret
  exact ⟨rfl, hb⟩
theorem write_long {N : Nat → Prop} (m x n r c : Nat) (D : Nat → Int) (i : Nat) (v : Value) (bs : List Int) (w : World) (h : DiskAt w m x n r c D) (hi : i < n) (hv : Bts N w v bs) (hl : 64 < bs.length) (hl2 : bs.length ≤ 9223372036854775807) :
    Calls Tryz.prog 87 #[.pointer (some ⟨m, 0, none⟩), .int .i64 i, v] w fun e w' => e = .returned (.int .i64 2) ∧ Below w.heap.size w w' := by
  have hc := check_one m x n r c D i w h
  rw [chk_yes (by rw [inB_one]; simpa using hi)] at hc
  have HC := Lib.hid hc
  obtain ⟨a, cp, rfl, _⟩ := hv.form
  have hl' : (64 : Int) < bs.length := by omega
  clear hc h hi hv
  go_enter Tryz.func87, Tryz.ntmps87
  go_wp2_with (go_at_call 90; refine HC.out.mono ?_; rintro e w' ⟨rfl, _, hb⟩)
  go_ret
  exact ⟨rfl, hb⟩

/-- What a write that may be leaves. -/
def WritePost (m x n r c : Nat) (D : Nat → Int) (i : Nat) (bs : List Int) (w : World) (e : Ending) (w' : World) : Prop :=
  e = .returned (.int .i64 0) ∧ DiskAt w' m x n r (c + 1) (put D i bs) ∧ Only (dk m x) w w'

set_option maxHeartbeats 1000000 in
theorem write_yes {N : Nat → Prop} (m x n r c : Nat) (D : Nat → Int) (i : Nat) (v : Value) (bs : List Int) (w : World) (h : DiskAt w m x n r c D) (hi : i < n) (hc : c ≤ 4000000000000000000) (hv : Bts N w v bs) (hy : Bytes bs) (hl : bs.length ≤ 64) :
    Calls Tryz.prog 87 #[.pointer (some ⟨m, 0, none⟩), .int .i64 i, v] w (WritePost m x n r c D i bs w) := by
  have hc1 := check_one m x n r c D i w h
  rw [chk_yes (by rw [inB_one]; simpa using hi)] at hc1
  have HC := Lib.hid hc1
  have HV := Lib.hid hv
  obtain ⟨a, cp, rfl, _⟩ := hv.form
  have hl' : ¬ (64 : Int) < bs.length := by omega
  clear hc1 h hv
  go_enter Tryz.func87, Tryz.ntmps87
  go_wp2_with fail
  refine HC.out.mono ?_
  rintro e w1 ⟨rfl, h1, hb1⟩
  have hv1 := HV.out.only (Only.of_below (F := fun _ => False) hb1) (fun _ _ h => h)
  have hcp := copy_run h1 i hi _ bs hv1 hl
  have h2 := h1.over (64 * i) bs hy (by omega)
  have o2 : Only (dk m x) w (w1.setCells x (64 * i) (bs.map (Value.int .u8))) := Only.setCells x (.inl (.inr rfl)) _ _ _ (Only.of_below hb1)
  generalize w1.setCells x (64 * i) (bs.map (Value.int .u8)) = w2 at hcp h2 o2
  have h3 := h2.over (64 * i + bs.length) (List.replicate (64 - bs.length) 0) (zeros_bytes _) (by rw [List.length_replicate]; omega)
  rw [over_put D i bs hl] at h3
  have o3 : Only (dk m x) w (w2.setCells x (64 * i + bs.length) ((List.replicate (64 - bs.length) 0).map (Value.int .u8))) := Only.setCells x (.inl (.inr rfl)) _ _ _ o2
  have hcl := fun a cp ha => clear_run h2 a (64 * i + bs.length) (64 - bs.length) cp (by omega) ha
  generalize w2.setCells x (64 * i + bs.length) ((List.replicate (64 - bs.length) 0).map (Value.int .u8)) = w3 at hcl h3 o3
  have H4 := Lib.hid h3.write1
  have O4 : Hid (Only (dk m x) w (w3.setCell ⟨m, 1, none⟩ (.int .i64 ((c : Int) + 1)))) := o3.setCell ⟨m, 1, none⟩ (.inl (.inl rfl)) _
  have hrd := h3.writes
  have hth := h3.thaw' 1
  have HS := Lib.hid (sector_any m x n r c D i w1 h1 hi)
  clear h1 hb1 HC HV hv1 h2 o2 o3 h3
  go_wp2_with fail
  refine HS.out.mono ?_
  rintro e w' ⟨rfl, rfl⟩
  by_cases h64 : bs.length = 64
  · have hcl := hcl (some ⟨x, 64 * i, none⟩) 0 (by omega)
    rw [h64] at hcp hcl
    go_wp2_with fail
    go_ret
    exact ⟨rfl, H4.out, O4.out⟩
  · have hcl := hcl (some ⟨x, 64 * i + bs.length, none⟩) (64 - bs.length) (fun _ => rfl)
    have h65 : ¬ 64 = bs.length := fun e => h64 e.symm
    have h66 : ((bs.length : Nat) : Int) ≤ 64 := by omega
    go_wp2_with fail
    go_ret
    exact ⟨rfl, H4.out, O4.out⟩
end Go.Proofs.YtccpmaahnfgkeaaGreatDoor

/- What Clear and Used of package disk do. No condition but those that each statement names. -/
namespace Go.Proofs.YtccpmaahnfgkeaaGreatDoor
set_option maxRecDepth 1000000
open Go.ChangeShapes Go.WideShapes Go.ChangeAt Go.RowKit

/-- A disk with these sectors cleared. -/
def clr (D : Nat → Int) (ls : List Int) : Nat → Int := ls.foldl (fun D i => put D i.toNat []) D
theorem clr_snoc (D : Nat → Int) (ls : List Int) (k : Nat) (h : k < ls.length) : clr D (ls.take (k + 1)) = put (clr D (ls.take k)) ls[k].toNat [] := by
  rw [List.take_succ_eq_append_getElem h]
  unfold clr
  rw [List.foldl_append]
  rfl
theorem inB_at {n : Nat} {ls : List Int} (h : inB n ls = true) {k : Nat} (hk : k < ls.length) : ∃ i : Nat, ls[k] = (i : Int) ∧ i < n := by
  have := List.all_eq_true.1 h _ (List.getElem_mem hk)
  have h2 : 0 ≤ ls[k] ∧ ls[k] < n := by simpa using this
  exact ⟨ls[k].toNat, by omega, by omega⟩
theorem over_clear (D : Nat → Int) (i : Nat) : over D (64 * i) (List.replicate 64 0) = put D i [] := by
  have h := over_put D i [] (by simp)
  have e : over D (64 * i) [] = D := by
    funext j
    simp only [over]
    rw [if_neg (by simp)]
  rw [e] at h
  exact h

theorem clear_nil (v : Value) (w : World) : Calls Tryz.prog 94 #[.pointer none, v] w fun e w' => e = .returned (.int .i64 1) ∧ w = w' := by
  go_enter Tryz.func94, Tryz.ntmps94
  go_wp2_with (go_at_call 90; refine (dcheck_nil _ _).mono ?_; rintro e w' ⟨rfl, rfl⟩)
  go_ret
  exact ⟨rfl, rfl⟩
theorem clear_no {N : Nat → Prop} (m x n r c : Nat) (D : Nat → Int) (v : Value) (ls : List Int) (w : World) (h : DiskAt w m x n r c D) (hv : Ints N w v ls) (hl : ls.length ≤ 1000000) (hi : inB n ls = false) :
    Calls Tryz.prog 94 #[.pointer (some ⟨m, 0, none⟩), v] w fun e w' => e = .returned (.int .i64 4) ∧ w = w' := by
  have hc := check_any m x n r c D v ls w h hv hl
  rw [chk_no hi] at hc
  have HC := Lib.hid hc
  clear hc h hv hi
  go_enter Tryz.func94, Tryz.ntmps94
  go_wp2_with (go_at_call 90; refine HC.out.mono ?_; rintro e w' ⟨rfl, rfl⟩)
  go_ret
  exact ⟨rfl, rfl⟩

/-- What a clearing that may be leaves. -/
def ClearPost (m x n r c : Nat) (D : Nat → Int) (w : World) (e : Ending) (w' : World) : Prop := e = .returned (.int .i64 0) ∧ DiskAt w' m x n r c D ∧ Only (dk m x) w w'
def ClearInv (m x n r c : Nat) (D : Nat → Int) (w w' : World) : Prop := DiskAt w' m x n r c D ∧ Only (dk m x) w w'

set_option maxHeartbeats 1000000 in
theorem clear_yes {N : Nat → Prop} (m x n r c : Nat) (D : Nat → Int) (v : Value) (ls : List Int) (w : World) (h : DiskAt w m x n r c D) (hv : Ints N w v ls) (hN : ∀ b, N b → ¬ dk m x b) (hl : ls.length ≤ 1000000) (hi : inB n ls = true) :
    Calls Tryz.prog 94 #[.pointer (some ⟨m, 0, none⟩), v] w (ClearPost m x n r c (clr D ls) w) := by
  have hc := check_any m x n r c D v ls w h hv hl
  rw [chk_yes hi] at hc
  have HC := Lib.hid hc
  have HV := Lib.hid hv
  have HD := Lib.hid h
  have HI := Lib.hid hi
  have HN := Lib.hid hN
  obtain ⟨a, cp, rfl, hcp, _⟩ := hv
  rw [List.length_map] at HV HC hcp ⊢
  clear hc h hi hN
  go_enter Tryz.func94, Tryz.ntmps94
  go_wp2_with fail
  refine HC.out.mono ?_
  rintro e w' ⟨rfl, rfl⟩
  go_wp2_with fail
  go_loopw [16] (fun i wr => ∃ k : Nat, k ≤ ls.length ∧ i = .int .i64 k ∧ ClearInv m x n r c (clr D (ls.take k)) w wr) (fun i _ => ls.length - (intOf i).toNat)
  case atStart => exact ⟨0, Nat.zero_le _, rfl, HD.out, Only.refl _ _⟩
  case round =>
    obtain ⟨k, hk, rfl, h1, o1⟩ := hrel
    by_cases hlt : k < ls.length
    · have hv1 := HV.out.only o1 HN.out
      obtain ⟨b, off, c', he, _, _, _, hc⟩ := Vals.at_ (k := k) hv1 (by simpa using hlt)
      rw [List.length_map] at he
      injection he with e1 e2 e3
      subst e1 e3
      rw [List.getElem_map] at hc
      obtain ⟨i, hi, hin⟩ := inB_at HI.out hlt
      have HS : Hid (clr D (ls.take (k + 1)) = put (clr D (ls.take k)) i []) := by
        show _ = _
        rw [clr_snoc D ls k hlt, hi, Int.toNat_natCast]
      rw [hi] at hc
      have HT := Lib.hid (sector_any m x n r c _ i wr h1 hin)
      have hcl := fun ty => clear_run h1 (some ⟨x, 64 * i, none⟩) (64 * i) 64 64 (by omega) (fun _ => rfl) ty
      have h2 := h1.over (64 * i) (List.replicate 64 0) (zeros_bytes _) (by rw [List.length_replicate]; omega)
      rw [over_clear] at h2
      have o2 : Only (dk m x) w (wr.setCells x (64 * i) ((List.replicate 64 0).map (Value.int .u8))) := Only.setCells x (.inl (.inr rfl)) _ _ _ o1
      generalize wr.setCells x (64 * i) ((List.replicate 64 0).map (Value.int .u8)) = w2 at hcl h2 o2
      have H2 := Lib.hid h2
      have O2 := Lib.hid o2
      clear h2 o2 h1 o1 hi hv1
      go_wp2_with fail
      refine HT.out.mono ?_
      rintro e w' ⟨rfl, rfl⟩
      go_wp2_with fail
      go_roundw
      case rel => exact ⟨k + 1, by omega, by go_num, by rw [HS.out]; exact H2.out, O2.out⟩
      case measure => simp [intOf]; omega
    · rw [List.take_of_length_le (by omega)] at h1
      have H1 := Lib.hid h1
      have O1 := Lib.hid o1
      clear h1 o1
      go_wp2_with fail
      go_ret
      exact ⟨rfl, H1.out, O1.out⟩

theorem cntU_zero {D : Nat → Int} {n : Nat} (h : sec D n = List.replicate 64 0) : cntU D (n + 1) = cntU D n := by rw [cntU, if_pos h]; rfl
theorem cntU_one {D : Nat → Int} {n : Nat} (h : sec D n ≠ List.replicate 64 0) : cntU D (n + 1) = cntU D n + 1 := by rw [cntU, if_neg h]
theorem zeros_made (w : World) (n : Nat) : Bts (fun b => b = w.heap.size) (w.alloc (.cells (madeCells (Value.int .u8 0).cells n) 5)) (.slice (some ⟨w.heap.size, 0, none⟩) n n) (List.replicate n 0) := by
  refine ⟨_, n, by simp, by simp, .inr ⟨_, 0, rfl, rfl, fun j u hu => ?_⟩⟩
  rw [List.map_replicate, List.getElem?_replicate] at hu
  split at hu
  · rw [Nat.zero_add, made_cell w n j (by omega)]; exact hu
  · cases hu

end Go.Proofs.YtccpmaahnfgkeaaGreatDoor

/- How an argument of type []byte, or of type []websterref06.Do, of a law of layer 3 is read. -/
namespace Go.Proofs.YtccpmaahnfgkeaaGreatDoor
set_option maxRecDepth 1000000
open Go.ChangeShapes Go.WideShapes Go.ChangeAt Go.RowKit

theorem Tryz.laidOut : laidOutB Tryz.prog = true := by kernel_rfl
theorem Tryz.own : ownKnob Tryz.prog.godebug = none := by kernel_rfl
theorem Tryz.cells5 : Tryz.prog.cellsOf 5 = 1 := by kernel_rfl
theorem Tryz.cells3 : Tryz.prog.cellsOf 3 = 1 := by kernel_rfl
theorem Tryz.cells33 : Tryz.prog.cellsOf 33 = 1 := by kernel_rfl

theorem wf_u8 {n : Int} (h : (Lit.int .u8 n).wf = true) : 0 ≤ n ∧ n ≤ 255 := by
  have h1 : IntKind.u8.min = 0 := rfl
  have h2 : IntKind.u8.max = 255 := rfl
  simp only [Lit.wf, Bool.and_eq_true, decide_eq_true_eq] at h
  omega
theorem wf_i64 {n : Int} (h : (Lit.int .i64 n).wf = true) : -9223372036854775808 ≤ n ∧ n ≤ 9223372036854775807 := by
  have h1 : IntKind.i64.min = -9223372036854775808 := rfl
  have h2 : IntKind.i64.max = 9223372036854775807 := rfl
  simp only [Lit.wf, Bool.and_eq_true, decide_eq_true_eq] at h
  omega

/-- A row of bytes that came in. -/
def ArgB (w : World) (v : Value) (xs : List Int) : Prop := Bts (· < w.heap.size) w v xs ∧ Bytes xs ∧ xs.length ≤ maxLen

theorem bytes_cells {H : Type} {enc : TypeId × Value → H} {W : World} {fuel : Nat} {cs : List Value} {x : DataW H × List MemPlace}
    (h : DataW.trod enc Tryz.prog W 0 (fun _ => true) true fuel 33 cs = some x) : ∃ v xs, cs = [v] ∧ ArgB W v xs := by
  rcases open_ints Tryz.underlying33 Tryz.underlying5 Tryz.cells5 h with ⟨rfl, _⟩ | ⟨a, len, cap, zs, rfl, _, hl, hm, hz, _, hcell, hwz⟩
  · exact ⟨_, [], rfl, ⟨none, 0, rfl, by simp, .inl rfl⟩, by intro n hn; simp at hn, by simp⟩
  · simp only [if_true] at hz
    have e1 : (zs.take len).length = len := by rw [List.length_take]; omega
    refine ⟨_, zs.take len, rfl, ⟨some a, cap, by rw [List.length_map, e1], by rw [List.length_map, e1]; exact hl, ?_⟩, fun n hn => wf_u8 (hwz n (List.mem_of_mem_take hn)), by omega⟩
    by_cases h0 : len = 0
    · left; subst h0; rfl
    · obtain ⟨b, off, spot⟩ := a
      have hspot : spot = none := by simpa [Addr.add] using World.cell?_spot (hcell 0 (by omega))
      subst hspot
      have hlt : b < W.heap.size := by
        have := World.block_lt_of_cell? _ _ (hcell 0 (by omega))
        simpa [Addr.add] using this
      refine .inr ⟨b, off, rfl, hlt, fun j u hu => ?_⟩
      rw [List.getElem?_map] at hu
      by_cases hj : j < len
      · have := hcell j (by omega)
        rw [add_plain] at this
        rw [this, ← hu, List.getElem?_take, if_pos hj, List.getD]
        cases hq : zs[j]? with
        | none => rw [List.getElem?_eq_none_iff] at hq; omega
        | some q => rfl
      · rw [List.getElem?_eq_none (by rw [e1]; omega)] at hu
        cases hu

/-- An argument of type []byte. -/
theorem open_bts {H : Type} {enc : TypeId × Value → H} {W : World} {base : Nat} {v : Value} {d : DataW H} {ps : List MemPlace} (hok : Value.okWide Tryz.prog W .any base 33 v)
    (h : DataW.Trod enc Tryz.prog W 0 (fun _ => true) true 33 v d ps) : ∃ xs, ArgB W v xs := by
  obtain ⟨a0, len, cap, rfl⟩ := okWide_slice Tryz.underlying33 hok
  obtain ⟨fuel, hf⟩ := h
  obtain ⟨v', xs, hv, hx⟩ := bytes_cells hf
  simp [Value.cells] at hv
  subst hv
  exact ⟨xs, hx⟩

theorem int_field {H : Type} {enc : TypeId × Value → H} {W : World} {fuel : Nat} {cs : List Value} {x : DataW H × List MemPlace} {j : Nat} (hl : j < cs.length)
    (h : DataW.trod enc Tryz.prog W 0 (fun _ => true) true fuel 3 ((cs.drop j).take (Tryz.prog.cellsOf 3)) = some x) : ∃ n : Int, cs[j]? = some (.int .i64 n) ∧ (Lit.int .i64 n).wf = true := by
  obtain ⟨n, hn, _, hw⟩ := DataW.trod_int Tryz.underlying3 h
  rw [Tryz.cells3, List.drop_eq_getElem_cons hl] at hn
  have hn : cs[j] = .int .i64 n := (List.cons.inj hn).1
  exact ⟨n, by rw [List.getElem?_eq_getElem hl, hn], hw⟩
theorem bytes_field {H : Type} {enc : TypeId × Value → H} {W : World} {fuel : Nat} {cs : List Value} {x : DataW H × List MemPlace} {j : Nat} (hl : j < cs.length)
    (h : DataW.trod enc Tryz.prog W 0 (fun _ => true) true fuel 33 ((cs.drop j).take (Tryz.prog.cellsOf 33)) = some x) : ∃ v xs, cs[j]? = some v ∧ ArgB W v xs := by
  obtain ⟨v, xs, hv, hx⟩ := bytes_cells h
  rw [Tryz.cells33, List.drop_eq_getElem_cons hl] at hv
  have hv : cs[j] = v := (List.cons.inj hv).1
  exact ⟨v, xs, by rw [List.getElem?_eq_getElem hl, hv], hx⟩

end Go.Proofs.YtccpmaahnfgkeaaGreatDoor

/- What the laws' own functions Copy and Spoil do: new bytes; bytes of one's own written over. -/
namespace Go.Proofs.YtccpmaahnfgkeaaGreatDoor
set_option maxRecDepth 1000000
open Go.ChangeShapes Go.WideShapes Go.ChangeAt Go.RowKit

theorem own_only {w w' : World} {base n : Nat} {e : TypeId} {v : Value} {xs : List Value} {F : Nat → Prop} (h : w.ownsRow base e 1 v n xs) (o : Only F w w') (hF : ∀ b, base ≤ b → ¬ F b) : w'.ownsRow base e 1 v n xs :=
  ⟨h.1, h.2.imp id fun ⟨g, cap, cur, h1, h2, h3, h4⟩ => ⟨g, cap, cur, h1, h2, (o.block g (Array.getElem?_eq_some_iff.1 h3).1 (hF g h2)).trans h3, h4⟩⟩
theorem bts_take {N : Nat → Prop} {w : World} {g cp n : Nat} {xs : List Int} (h : Bts N w (.slice (some ⟨g, 0, none⟩) n cp) xs) (k : Nat) (hk : k ≤ xs.length) : Bts N w (.slice (some ⟨g, 0, none⟩) k cp) (xs.take k) := by
  obtain ⟨a, c, he, hc, h⟩ := h
  injection he with e1 e2 e3
  subst e1 e3
  have hl : (xs.take k).length = k := by rw [List.length_take]; omega
  rw [List.length_map] at hc
  refine ⟨_, cp, by rw [List.length_map, hl], by rw [List.length_map, hl]; omega, ?_⟩
  rcases h with h | ⟨b, off, ha, hb, h⟩
  · left
    rw [List.map_eq_nil_iff] at h
    rw [h]; simp
  · refine .inr ⟨b, off, ha, hb, fun j u hu => h j u ?_⟩
    rw [List.getElem?_map, List.getElem?_take] at hu
    rw [List.getElem?_map]
    split at hu
    · exact hu
    · cases hu
theorem pad_take (bs : List Int) : (pad bs).take bs.length = bs := by simp [pad]

/-- What gives new bytes, or none. -/
def Copied (xs : List Int) (w : World) (e : Ending) (w' : World) : Prop := ∃ v, e = .returned v ∧ w'.ownsRow w.heap.size 5 1 v xs.length (xs.map (Value.int .u8)) ∧ Below w.heap.size w w'

set_option maxHeartbeats 1000000 in
theorem copy_any {N : Nat → Prop} (v : Value) (xs : List Int) (w : World) (hv : Bts N w v xs) (hl : xs.length ≤ 1000000) :
    Calls Tryz.prog 60 #[v] w (Copied xs w) := by
  obtain ⟨i0, hi, hz0, hz1, hz2⟩ := info_parts Tryz.info5
  obtain ⟨a, c, rfl, hc, h⟩ := hv
  rw [List.length_map] at hc ⊢
  rcases a with _ | ⟨b, off, spot⟩
  · have h0 : xs = [] := by
      rcases h with h | ⟨b, off, ha, _⟩
      · exact List.map_eq_nil_iff.1 h
      · cases ha
    subst h0
    have hr : ∀ ty, (Builtin.append_ #[33, 33] ty #[.slice none 0 0, .slice none 0 c]).run Tryz.prog w = .ok (.slice none 0 0) w := fun ty => by
      simp [Builtin.append_, run_underlying Tryz.underlying33, sizeOf, typeInfo, hi, Builtin.lenOf, Builtin.firstCells]
    go_enter Tryz.func60, Tryz.ntmps60
    go_wp2
    go_ret
    exact ⟨_, rfl, World.ownsRow_nil _ _ _ _, Below.refl _ _⟩
  · have hsrc : Hid (∀ j u, (xs.map (Value.int .u8))[j]? = some u → w.cell? ((⟨b, off, spot⟩ : Addr).add j) = some u) := by
      rcases h with h | ⟨b', off', ha, _, h⟩
      · rw [h]; intro j u hu; simp at hu
      · injection ha with ha
        injection ha with e1 e2 e3
        subst e1 e2 e3
        intro j u hu
        rw [add_plain]
        exact h j u hu
    clear h
    go_enter Tryz.func60, Tryz.ntmps60
    go_wp2_with (at_builtin; refine wpList_append_own _ rfl _ _ 33 rfl w.heap.size 5 i0 (.int .u8 0) 1 1 Tryz.underlying33 hi hz0 hz1 hz2 rfl (by decide) _ 0 [] rfl ?c0 ⟨b, off, spot⟩ xs.length c (xs.map (Value.int .u8)) rfl (by simp) ?c1 ?c2 ?c3 ?c4 ?c5 ?_)
    case c0 => exact World.ownsRow_nil _ _ _ _
    case c1 => exact hsrc.out
    case c2 => intro u hu; simp at hu; obtain ⟨x, _, rfl⟩ := hu; rfl
    case c3 => unfold maxLen; omega
    case c4 => omega
    case c5 => simp
    intro v' w1 hown' hgrow _
    have hb : Below w.heap.size w w1 := (Below.refl _ _).grown hgrow (by simp) (fun k hk => by simp [Value.ownBlock] at hk)
    have HO := Lib.hid hown'
    have HB := Lib.hid hb
    clear hown' hgrow hb
    go_wp2
    go_ret
    exact ⟨v', rfl, by simpa using HO.out, HB.out⟩

end Go.Proofs.YtccpmaahnfgkeaaGreatDoor
