/- Texts of the layers below, one behind the other: VWds VDec VSam VKn VOpn VRfr VRfp VRfw. -/
import Derived.Test.YtccpmaahnfgkeaaGreatDoorLVa
import Derived.BigRegion
import Derived.Lib.SmallJoins

/- What wide's own functions 'words' and 'fits' return: the words that stand in bytes; whether so many bytes are an object of that kind and size. -/
namespace Go.Proofs.YtccpmaahnfgkeaaGreatDoor.Wd
open Go.ChangeShapes Go.WideShapes Go.ChangeAt Go.RowKit
set_option maxRecDepth 1000000

set_option maxHeartbeats 400000 in
theorem fits_any (k n : Int) (l : Nat) (w : World) (h1 : In64 k) (h2 : In64 n) :
    Calls Tryz.prog 65 #[.int .i64 k, .int .i64 n, .int .i64 l] w fun e w' => e = .returned (.bool (fitsB k n l)) ∧ w = w' := by
  obtain ⟨h1, h1'⟩ := h1
  obtain ⟨h2, h2'⟩ := h2
  by_cases hn : 0 ≤ n ∧ n ≤ 1000
  · obtain ⟨n0, n1⟩ := hn
    by_cases k1 : k = 1
    · subst k1
      have HE := Lib.hid (show ((l : Int) == 4 * n) = fitsB 1 n l by simp [fitsB, n0, n1])
      go_enter Tryz.func65, Tryz.ntmps65
      go_wp2
      go_ret
      exact ⟨ret_b HE.out, rfl⟩
    · by_cases k2 : k = 2
      · subst k2
        have HE := Lib.hid (show ((l : Int) == n) = fitsB 2 n l by simp [fitsB, n0, n1])
        go_enter Tryz.func65, Tryz.ntmps65
        go_wp2
        go_ret
        exact ⟨ret_b HE.out, rfl⟩
      · have HE := Lib.hid (show false = fitsB k n l by simp [fitsB, k1, k2])
        have e1 : (k == 1) = false := by simpa using k1
        have e2 : (k == 2) = false := by simpa using k2
        go_enter Tryz.func65, Tryz.ntmps65
        go_wp2
        go_ret
        exact ⟨ret_b HE.out, rfl⟩
  · have HE := Lib.hid (show false = fitsB k n l by simp only [fitsB, hn]; simp)
    by_cases n0 : n < 0
    · clear hn
      go_enter Tryz.func65, Tryz.ntmps65
      go_wp2
      go_ret
      exact ⟨ret_b HE.out, rfl⟩
    · have n1 : 1000 < n := by omega
      clear hn
      go_enter Tryz.func65, Tryz.ntmps65
      go_wp2
      go_ret
      exact ⟨ret_b HE.out, rfl⟩

theorem mkI (w : World) (n : Nat) (hn : n ≤ 100000) : (Instr.makeSlice 23 (.int .i64 (n : Int)) (.int .i64 (n : Int))).run Tryz.prog w = .ok (.slice (some ⟨w.heap.size, 0, none⟩) n n) (w.alloc (.cells (madeCells (Value.int .i64 0).cells n) 3)) := by
  obtain ⟨i0, hi, hz0, hz1, hz2⟩ := info_parts Tryz.info3
  have h := run_make (P := Tryz.prog) w 23 3 i0 (.int .i64 0) Tryz.underlying23 hi hz0 .i64 .i64 (n : Int) (n : Int) (by omega) (by omega) (by rw [hz2]; omega) (by omega)
  rw [hz1, Nat.mul_one, show (n : Int).toNat = n by omega] at h
  exact h

/-- What stands in the numbers' block behind k rounds: the first k words. -/
def WdsInv (g q k : Nat) (xs : List Int) (w wr : World) : Prop :=
  (∀ j, j < k → wr.cell? ⟨g, j, none⟩ = some (.int .i64 (wd xs (4 * j)))) ∧ (∀ j, k ≤ j → j < q → wr.cell? ⟨g, j, none⟩ = some (.int .i64 0)) ∧ (∀ j, wr.frozen? ⟨g, j, none⟩ = false) ∧ Below g w wr
def WdsPost (xs : List Int) (w : World) (e : Ending) (w' : World) : Prop :=
  ∃ c, e = .returned (.slice (some ⟨w.heap.size, 0, none⟩) (ws xs).length c) ∧ RowI w' (.slice (some ⟨w.heap.size, 0, none⟩) (ws xs).length c) (ws xs) ∧ Below w.heap.size w w'

theorem made_cell (w : World) (n j : Nat) (h : j < n) : (w.alloc (.cells (madeCells (Value.int .i64 0).cells n) 3)).cell? ⟨w.heap.size, j, none⟩ = some (.int .i64 0) := by
  rw [World.cell?_alloc_at _ _ _ _ rfl]
  have e : madeCells (Value.int .i64 0).cells n = Array.replicate n (.int .i64 0) := by
    apply Array.ext
    · simp [size_madeCells, Value.cells]
    · intro i h1 h2
      simp [madeCells, Value.cells, Nat.mod_one]
  simp [e, h]
theorem made_frozen (w : World) (n j : Nat) : (w.alloc (.cells (madeCells (Value.int .i64 0).cells n) 3)).frozen? ⟨w.heap.size, j, none⟩ = false := by
  unfold World.frozen?
  rw [heap_alloc_new]
  simp
theorem wd_in (xs : List Int) (p : Nat) (h : Bytes xs) : -2147483648 ≤ wd xs p ∧ wd xs p ≤ 2147483647 := by
  have := acc_le h p 4
  unfold wd sgn
  split <;> omega
theorem ws_i64 (xs : List Int) (h : Bytes xs) : I64 (ws xs) := by
  intro n hn
  unfold ws at hn
  obtain ⟨i, _, rfl⟩ := List.mem_map.1 hn
  have := wd_in xs (4 * i) h
  omega

set_option maxHeartbeats 1000000 in
theorem words_any (v : Value) (xs : List Int) (w : World) (hb : RowB w v xs) (hl : xs.length ≤ 10000) :
    Calls Tryz.prog 64 #[v] w (WdsPost xs w) := by
  have HV := Lib.hid hb.1
  have HY := Lib.hid hb.2.1.bytes
  obtain ⟨_, _, a, c, rfl, hc⟩ := hb
  have hd : (xs.length : Int) / 4 = (xs.length / 4 : Nat) := by omega
  have hm := mkI w (xs.length / 4) (by omega)
  have HQ := Lib.hid (show 4 * (xs.length / 4) ≤ xs.length by omega)
  have HLW := Lib.hid (ws_len xs)
  have hq : xs.length / 4 ≤ 2500 := by omega
  generalize xs.length / 4 = q at hd hm HQ HLW hq
  have HI : Hid (WdsInv w.heap.size q 0 xs w (w.alloc (.cells (madeCells (Value.int .i64 0).cells q) 3))) :=
    ⟨fun j hj => absurd hj (by omega), fun j _ hj => made_cell w q j hj, fun j => made_frozen w q j, (Below.refl _ _).alloc (Nat.le_refl _) _⟩
  go_enter Tryz.func64, Tryz.ntmps64
  go_wp2
  clear hm
  generalize hg : w.heap.size = g at *
  go_loopw [11] (fun i wr => ∃ k : Nat, k ≤ q ∧ i = .int .i64 k ∧ WdsInv g q k xs w wr) (fun i _ => q - (intOf i).toNat)
  case atStart => exact ⟨0, Nat.zero_le _, rfl, HI.out⟩
  case round =>
    obtain ⟨k, hk, rfl, hi⟩ := hrel
    have HI2 := Lib.hid hi
    obtain ⟨hc1, hc2, hf, hbl⟩ := hi
    have HBL := Lib.hid hbl
    by_cases hlt : k < q
    · have hcell := hc2 k (Nat.le_refl _) hlt
      have hfk := hf k
      clear hc1 hc2 hf hbl
      have h4 : 4 * k + 4 ≤ xs.length := by have := HQ.out; omega
      have HG := Lib.hid (fun w' hv => get_yes (.slice a xs.length c) xs (4 * k) w' hv HY.out (by omega) h4)
      have e4 : ((4 * k : Nat) : Int) = 4 * (k : Int) := by omega
      rw [e4] at HG
      have HE := Lib.hid (show sgn (acc xs (4 * k) 4) = wd xs (4 * k) from rfl)
      generalize sgn (acc xs (4 * k) 4) = z at HG HE
      have hlt' : (k : Int) < q := by omega
      clear e4
      go_wp2_with fail
      refine (HG.out _ (HV.out.kept (hg ▸ HBL.out))).mono ?_
      rintro e w1 ⟨rfl, rfl⟩
      go_wp2
      go_roundw
      case rel =>
        refine ⟨k + 1, by omega, by go_num, fun j h1 => ?_, fun j h1 h2 => ?_, fun j => ?_, ?_⟩
        · by_cases hj : j = k
          · subst hj
            rw [← HE.out]
            exact World.cell?_setCell_same _ _ _ hcell
          · rw [World.cell?_setCell_other _ _ _ _ (by intro e; injection e; omega)]; exact HI2.out.1 j (by omega)
        · rw [World.cell?_setCell_other _ _ _ _ (by intro e; injection e; omega)]; exact HI2.out.2.1 j (by omega) h2
        · rw [World.frozen?_setCell]; exact HI2.out.2.2.1 j
        · exact HBL.out.setCell (Nat.le_refl g) _
      case measure => simp [intOf]; omega
    · clear hc2 hf hbl
      obtain rfl : k = q := by omega
      clear hc1
      go_wp2
      go_ret
      refine ⟨k, by rw [HLW.out, hg]; rfl, ?_, hg ▸ HBL.out⟩
      rw [hg]
      refine ⟨⟨_, _, rfl, .inr ⟨g, 0, rfl, fun i hi => ?_⟩⟩, ws_i64 xs HY.out, _, _, rfl, by rw [HLW.out]; omega⟩
      rw [HLW.out] at hi
      have h4 := HQ.out
      rw [ws_at xs i (by have := ws_len xs; rw [HLW.out] at this; omega), Nat.zero_add]
      exact HI2.out.1 i hi
end Go.Proofs.YtccpmaahnfgkeaaGreatDoor.Wd

/- What Decode of package wide returns of any bytes: the object, or the error. -/
namespace Go.Proofs.YtccpmaahnfgkeaaGreatDoor.Wd
open Go.ChangeShapes Go.WideShapes Go.ChangeAt Go.RowKit
set_option maxRecDepth 1000000

/-- A struct of four cells in a block of its own. -/
def Box (p : Nat) (x y z u : Value) (w : World) : Prop := Bx p x y z u w ∧ (∀ j, w.frozen? ⟨p, j, none⟩ = false) ∧ p < w.heap.size
theorem Box.kept {p : Nat} {x y z u : Value} {w w' : World} {B : Nat} (h : Box p x y z u w) (hb : Below B w w') (hp : p < B) (hB : B ≤ w.heap.size) : Box p x y z u w' :=
  ⟨h.1.kept hb hp, fun j => (World.frozen?_of_block (w := w) (a := ⟨p, j, none⟩) (hb.block p hp)).trans (h.2.1 j), Nat.lt_of_lt_of_le hp (Nat.le_trans hB hb.size)⟩
theorem box_new (w : World) (x y z u : Value) : Box w.heap.size x y z u (w.alloc (.cells #[x, y, z, u] 35)) := by
  refine ⟨⟨?_, ?_, ?_, ?_⟩, fun j => ?_, by simp⟩
  · rw [World.cell?_alloc_at _ _ _ _ rfl]; rfl
  · rw [World.cell?_alloc_at _ _ _ _ rfl]; rfl
  · rw [World.cell?_alloc_at _ _ _ _ rfl]; rfl
  · rw [World.cell?_alloc_at _ _ _ _ rfl]; rfl
  · unfold World.frozen?
    rw [heap_alloc_new]
    simp
theorem Box.put {w : World} {p : Nat} {x y z u : Value} (h : Box p x y z u w) (x' y' z' u' : Value) :
    Box p x' y' z' u' ((((w.setCell ⟨p, 0, none⟩ x').setCell ⟨p, 1, none⟩ y').setCell ⟨p, 2, none⟩ z').setCell ⟨p, 3, none⟩ u') := by
  obtain ⟨⟨h1, h2, h3, h4⟩, h5, h6⟩ := h
  refine ⟨⟨?_, ?_, ?_, ?_⟩, fun j => ?_, by simpa [World.setCell] using h6⟩
  · rw [World.cell?_setCell_other _ _ _ _ (by simp), World.cell?_setCell_other _ _ _ _ (by simp), World.cell?_setCell_other _ _ _ _ (by simp), World.cell?_setCell_same _ _ _ h1]
  · rw [World.cell?_setCell_other _ _ _ _ (by simp), World.cell?_setCell_other _ _ _ _ (by simp), World.cell?_setCell_same _ _ _ ((World.cell?_setCell_other _ _ _ _ (by simp)).trans h2)]
  · rw [World.cell?_setCell_other _ _ _ _ (by simp), World.cell?_setCell_same _ _ _ ((World.cell?_setCell_other _ _ _ _ (by simp)).trans ((World.cell?_setCell_other _ _ _ _ (by simp)).trans h3))]
  · rw [World.cell?_setCell_same _ _ _ ((World.cell?_setCell_other _ _ _ _ (by simp)).trans ((World.cell?_setCell_other _ _ _ _ (by simp)).trans ((World.cell?_setCell_other _ _ _ _ (by simp)).trans h4)))]
  · rw [World.frozen?_setCell, World.frozen?_setCell, World.frozen?_setCell, World.frozen?_setCell]; exact h5 j
theorem Box.put2 {w : World} {p : Nat} {x y z u : Value} (h : Box p x y z u w) (z' : Value) : Box p x y z' u (w.setCell ⟨p, 2, none⟩ z') := by
  obtain ⟨⟨h1, h2, h3, h4⟩, h5, h6⟩ := h
  refine ⟨⟨?_, ?_, ?_, ?_⟩, fun j => ?_, by simpa [World.setCell] using h6⟩
  · rw [World.cell?_setCell_other _ _ _ _ (by simp)]; exact h1
  · rw [World.cell?_setCell_other _ _ _ _ (by simp)]; exact h2
  · rw [World.cell?_setCell_same _ _ _ h3]
  · rw [World.cell?_setCell_other _ _ _ _ (by simp)]; exact h4
  · rw [World.frozen?_setCell]; exact h5 j
theorem Box.put3 {w : World} {p : Nat} {x y z u : Value} (h : Box p x y z u w) (u' : Value) : Box p x y z u' (w.setCell ⟨p, 3, none⟩ u') := by
  obtain ⟨⟨h1, h2, h3, h4⟩, h5, h6⟩ := h
  refine ⟨⟨?_, ?_, ?_, ?_⟩, fun j => ?_, by simpa [World.setCell] using h6⟩
  · rw [World.cell?_setCell_other _ _ _ _ (by simp)]; exact h1
  · rw [World.cell?_setCell_other _ _ _ _ (by simp)]; exact h2
  · rw [World.cell?_setCell_other _ _ _ _ (by simp)]; exact h3
  · rw [World.cell?_setCell_same _ _ _ h4]
  · rw [World.frozen?_setCell]; exact h5 j
theorem Box.other {w : World} {p g : Nat} {x y z u : Value} (h : Box p x y z u w) (hg : p ≠ g) (j : Nat) (v : Value) : Box p x y z u (w.setCell ⟨g, j, none⟩ v) := by
  obtain ⟨⟨h1, h2, h3, h4⟩, h5, h6⟩ := h
  refine ⟨⟨?_, ?_, ?_, ?_⟩, fun j => ?_, by simpa [World.setCell] using h6⟩
  · rw [World.cell?_setCell_other _ _ _ _ (by intro e; injection e; omega)]; exact h1
  · rw [World.cell?_setCell_other _ _ _ _ (by intro e; injection e; omega)]; exact h2
  · rw [World.cell?_setCell_other _ _ _ _ (by intro e; injection e; omega)]; exact h3
  · rw [World.cell?_setCell_other _ _ _ _ (by intro e; injection e; omega)]; exact h4
  · rw [World.frozen?_setCell]; exact h5 j
theorem load_box {w : World} {p : Nat} {x y : Int} {z u : Value} (hb : Box p (.int .i64 x) (.int .i64 y) z u w) : (loadVar 35 ⟨p, 0, none⟩).run Tryz.prog w = .ok (.agg #[.int .i64 x, .int .i64 y, z, u]) w := by
  obtain ⟨⟨h1, h2, h3, h4⟩, _, _⟩ := hb
  go_simp
theorem res_box {fn : Func} {p : Tmp} (h : fn.results = #[.cell p 35]) {tmps : Array Value} {w : World} {b : Nat} {x y : Int} {z u : Value} (hp : tmps.getD p undef = .pointer (some ⟨b, 0, none⟩)) (hb : Box b (.int .i64 x) (.int .i64 y) z u w) :
    (results fn tmps).run Tryz.prog w = .ok (.agg #[.int .i64 x, .int .i64 y, z, u]) w := by
  simp only [results, h]
  rw [Array.getD_eq_getD_getElem?] at hp
  simp [hp, asAddr, load_box hb]
theorem res_box2 {fn : Func} {p t : Tmp} (h : fn.results = #[.cell p 35, .tmp t]) {tmps : Array Value} {w : World} {b : Nat} {x y : Int} {z u : Value} (hp : tmps.getD p undef = .pointer (some ⟨b, 0, none⟩)) (hb : Box b (.int .i64 x) (.int .i64 y) z u w) :
    (results fn tmps).run Tryz.prog w = .ok (.tuple #[.agg #[.int .i64 x, .int .i64 y, z, u], tmps.getD t undef]) w := by
  rw [results_cell_tmp h, hp]
  simp [Result.andThen, asAddr, load_box hb]

def DecNo (w : World) (e : Ending) (w' : World) : Prop := e = .returned (.tuple #[.agg #[.int .i64 0, .int .i64 0, .slice none 0 0, .slice none 0 0], .int .i64 5]) ∧ Below w.heap.size w w'


set_option maxHeartbeats 1000000 in
theorem decode_short (v : Value) (xs : List Int) (w : World) (h : RowB w v xs) (hl : xs.length < 12) :
    Calls Tryz.prog 34 #[v] w (DecNo w) := by
  obtain ⟨_, _, a, c, rfl, hc⟩ := h
  have hl' : (xs.length : Int) < 12 := by omega
  go_enter Tryz.func34, Tryz.ntmps34
  go_wp2
  exact bodyPost_ret (res_box2 rfl rfl (box_new w _ _ _ _)) rfl ⟨rfl, (Below.refl _ _).alloc (Nat.le_refl _) _⟩

theorem bts_take {w : World} {b off c n : Nat} {xs : List Int} (h : Bts w (.slice (some ⟨b, off, none⟩) n c) xs) (k : Nat) (hk : k ≤ xs.length) : Bts w (.slice (some ⟨b, off, none⟩) k c) (xs.take k) := by
  obtain ⟨a, c', he, h⟩ := h
  injection he with e1 e2 e3
  subst e1 e3
  have hl : (xs.take k).length = k := by rw [List.length_take]; omega
  refine ⟨_, _, by rw [hl], ?_⟩
  rcases h with rfl | ⟨b', off', ha, h⟩
  · left; simp
  · refine .inr ⟨b', off', ha, fun i hi => ?_⟩
    rw [hl] at hi
    have e : (xs.take k).getD i 0 = xs.getD i 0 := by simp only [List.getD, List.getElem?_take]; rw [if_pos hi]
    rw [e]; exact h i (by omega)
theorem bts_drop {w : World} {b off c n : Nat} {xs : List Int} (h : Bts w (.slice (some ⟨b, off, none⟩) n c) xs) (k : Nat) (hk : k ≤ xs.length) : Bts w (.slice (some ⟨b, off + k, none⟩) (xs.length - k) (c - k)) (xs.drop k) := by
  obtain ⟨a, c', he, h⟩ := h
  injection he with e1 e2 e3
  subst e1 e3
  refine ⟨_, _, by rw [List.length_drop], ?_⟩
  rcases h with rfl | ⟨b', off', ha, h⟩
  · left; simp
  · injection ha with ha
    injection ha with e4 e5
    subst e4 e5
    refine .inr ⟨b, off + k, rfl, fun i hi => ?_⟩
    rw [List.length_drop] at hi
    have e : (xs.drop k).getD i 0 = xs.getD (k + i) 0 := by simp [List.getD, List.getElem?_drop]
    rw [e, Nat.add_assoc]; exact h (k + i) (by omega)

/-- The slice value v, if it has cells, has them in a block behind q. -/
def Hi (q : Nat) (v : Value) : Prop := ∀ b off n c, v = .slice (some ⟨b, off, none⟩) n c → q < b
def Abv (q : Nat) (w w' : World) : Prop := ∀ k, q < k → k < w.heap.size → w'.heap[k]? = w.heap[k]?
theorem Ints.abv {q : Nat} {w w' : World} {v : Value} {ls : List Int} (h : Ints w v ls) (hh : Hi q v) (ha : Abv q w w') : Ints w' v ls := by
  unfold Hi at hh
  unfold Abv at ha
  obtain ⟨a, c, rfl, h⟩ := h
  refine ⟨a, c, rfl, h.imp id fun ⟨b, off, e, h'⟩ => ⟨b, off, e, fun i hi => ?_⟩⟩
  subst e
  have hl : b < w.heap.size := World.block_lt_of_cell? _ _ (h' i hi)
  exact (World.cell?_of_block (w := w) (ha b (hh _ _ _ _ rfl) hl)).trans (h' i hi)
theorem Bts.abv {q : Nat} {w w' : World} {v : Value} {ls : List Int} (h : Bts w v ls) (hh : Hi q v) (ha : Abv q w w') : Bts w' v ls := by
  unfold Hi at hh
  unfold Abv at ha
  obtain ⟨a, c, rfl, h⟩ := h
  refine ⟨a, c, rfl, h.imp id fun ⟨b, off, e, h'⟩ => ⟨b, off, e, fun i hi => ?_⟩⟩
  subst e
  have hl : b < w.heap.size := World.block_lt_of_cell? _ _ (h' i hi)
  exact (World.cell?_of_block (w := w) (ha b (hh _ _ _ _ rfl) hl)).trans (h' i hi)
theorem Hi.nil (q n c : Nat) : Hi q (.slice none n c) := fun _ _ _ _ h => by cases h
theorem Hi.own {w : World} {base q n : Nat} {e : TypeId} {v : Value} {xs : List Value} (h : w.ownsRow base e 1 v n xs) (hq : q < base) : Hi q v := by
  intro b off n' c he
  rcases h.2 with ⟨rfl, _⟩ | ⟨g, cap, cur, rfl, hb, _⟩
  · cases he
  · injection he with e1
    injection e1 with e1
    injection e1 with e1
    omega
theorem Abv.set (q : Nat) (w : World) (p j : Nat) (u : Value) (hp : p ≤ q) : Abv q w (w.setCell ⟨p, j, none⟩ u) := fun k hk _ => Below.heap_setCell _ _ _ _ (by show k ≠ p; omega)
theorem Abv.trans {q : Nat} {a b c : World} (h : Abv q a b) (g : Abv q b c) (hs : a.heap.size ≤ b.heap.size) : Abv q a c := fun k h1 h2 => (g k h1 (by omega)).trans (h k h1 h2)
theorem Abv.put {q : Nat} {w : World} {p : Nat} {x y z u : Value} (hp : p ≤ q) : Abv q w ((((w.setCell ⟨p, 0, none⟩ x).setCell ⟨p, 1, none⟩ y).setCell ⟨p, 2, none⟩ z).setCell ⟨p, 3, none⟩ u) := fun k hk _ => by
  have hne : k ≠ p := by omega
  rw [Below.heap_setCell _ _ _ _ (show k ≠ p from hne), Below.heap_setCell _ _ _ _ (show k ≠ p from hne), Below.heap_setCell _ _ _ _ (show k ≠ p from hne), Below.heap_setCell _ _ _ _ (show k ≠ p from hne)]
/-- The object o, with rows behind q. -/
def ObjHi (q : Nat) (w : World) (wv bv : Value) (o : Ob) : Prop := RowI w wv o.w ∧ RowB w bv o.b ∧ In64 o.c ∧ In64 o.k ∧ Hi q wv ∧ Hi q bv
theorem ObjHi.abv {q : Nat} {w w' : World} {wv bv : Value} {o : Ob} (h : ObjHi q w wv bv o) (ha : Abv q w w') : ObjHi q w' wv bv o :=
  ⟨⟨h.1.1.abv h.2.2.2.2.1 ha, h.1.2⟩, ⟨h.2.1.1.abv h.2.2.2.2.2 ha, h.2.1.2⟩, h.2.2⟩
theorem ObjHi.kept {q : Nat} {w w' : World} {wv bv : Value} {o : Ob} (h : ObjHi q w wv bv o) (hb : Below w.heap.size w w') : ObjHi q w' wv bv o :=
  ⟨h.1.kept hb, h.2.1.kept hb, h.2.2⟩
theorem ObjHi.obj {q : Nat} {w : World} {wv bv : Value} {o : Ob} (h : ObjHi q w wv bv o) : ObjAt w (.agg #[.int .i64 o.c, .int .i64 o.k, wv, bv]) o := ⟨wv, bv, rfl, h.1, h.2.1, h.2.2.1, h.2.2.2.1⟩
def DecYes (o : Ob) (w : World) (e : Ending) (w' : World) : Prop := ∃ wv bv q, w.heap.size ≤ q ∧ e = .returned (.tuple #[.agg #[.int .i64 o.c, .int .i64 o.k, wv, bv], .int .i64 0]) ∧ ObjHi q w' wv bv o ∧ Below w.heap.size w w'
def DecPost (xs : List Int) (w : World) (e : Ending) (w' : World) : Prop := (decB xs = true → DecYes (rdO xs) w e w') ∧ (decB xs = false → DecNo w e w')
theorem rowB_nil (w : World) : RowB w (.slice none 0 0) [] := ⟨⟨_, _, rfl, .inl rfl⟩, fun _ h => by simp at h, _, _, rfl, Nat.le_refl _⟩
theorem rowI_nil (w : World) : RowI w (.slice none 0 0) [] := ⟨⟨_, _, rfl, .inl rfl⟩, fun _ h => by simp at h, _, _, rfl, Nat.le_refl _⟩
theorem put_below {B p : Nat} {a w : World} {x y z u : Value} (h : Below B a w) (hp : B ≤ p) : Below B a ((((w.setCell ⟨p, 0, none⟩ x).setCell ⟨p, 1, none⟩ y).setCell ⟨p, 2, none⟩ z).setCell ⟨p, 3, none⟩ u) :=
  (((h.setCell (p := ⟨p, 0, none⟩) hp x).setCell (p := ⟨p, 1, none⟩) hp y).setCell (p := ⟨p, 2, none⟩) hp z).setCell (p := ⟨p, 3, none⟩) hp u

/-- What 'words' gives of the first twelve bytes: three words, in new memory. -/
def HeadPost (x y z : Int) (w : World) (e : Ending) (w' : World) : Prop :=
  ∃ g c, e = .returned (.slice (some ⟨g, 0, none⟩) 3 c) ∧ Below w.heap.size w w' ∧ w.heap.size ≤ g ∧ w'.cell? ⟨g, 0, none⟩ = some (.int .i64 x) ∧ w'.cell? ⟨g, 1, none⟩ = some (.int .i64 y) ∧ w'.cell? ⟨g, 2, none⟩ = some (.int .i64 z)
theorem head_of {xs : List Int} {x y z : Int} {w w' : World} {e : Ending} (hw : ws xs = [x, y, z]) (h : WdsPost xs w e w') : HeadPost x y z w e w' := by
  obtain ⟨c, rfl, ⟨⟨a, c', he, h⟩, _⟩, hb⟩ := h
  rw [hw] at he h ⊢
  injection he with e1 e2 e3
  subst e1
  rcases h with h | ⟨g, off, ha, h⟩
  · cases h
  injection ha with ha
  injection ha with e4 e5
  subst e4 e5
  exact ⟨_, c, rfl, hb, Nat.le_refl _, h 0 (by simp), h 1 (by simp), h 2 (by simp)⟩

set_option maxHeartbeats 2000000 in
theorem decode_long (v : Value) (xs : List Int) (w : World) (h : RowB w v xs) (hl : 12 ≤ xs.length) (hl2 : xs.length ≤ 10000) :
    Calls Tryz.prog 34 #[v] w (DecPost xs w) := by
  have HY := Lib.hid h.2.1
  have hv := h.1
  obtain ⟨_, _, a, c, rfl, hc⟩ := h
  obtain ⟨b, off, rfl⟩ : ∃ b off, a = some ⟨b, off, none⟩ := by
    obtain ⟨a', c', he, h⟩ := hv
    injection he with e1 e2 e3
    subst e1
    rcases h with rfl | ⟨b, off, ha, _⟩
    · simp at hl
    · exact ⟨b, off, ha⟩
  have HV := Lib.hid hv
  have hl' : ¬ (xs.length : Int) < 12 := by omega
  have h12 : (12 : Int) ≤ c := by omega
  have h12' : (12 : Int) ≤ xs.length := by omega
  have R1 : Hid (∀ w', Bts w' (.slice (some ⟨b, off, none⟩) xs.length c) xs → RowB w' (.slice (some ⟨b, off, none⟩) 12 c) (xs.take 12)) := fun w' hv =>
    ⟨bts_take hv 12 hl, HY.out.take 12, _, _, by rw [List.length_take, Nat.min_eq_left hl], by rw [List.length_take]; omega⟩
  obtain ⟨o2, ho2, R2⟩ : ∃ o2, (if c = 12 then some (⟨b, off, none⟩ : Addr) else some ⟨b, off + 12, none⟩) = some ⟨b, o2, none⟩ ∧ Hid (∀ w', Bts w' (.slice (some ⟨b, off, none⟩) xs.length c) xs → RowB w' (.slice (some ⟨b, o2, none⟩) (xs.length - 12) (c - 12)) (xs.drop 12)) := by
    by_cases h0 : c = 12
    · refine ⟨off, by rw [if_pos h0], fun w' hv => ⟨?_, HY.out.drop 12, _, _, by rw [List.length_drop], by rw [List.length_drop]; omega⟩⟩
      have e : xs.drop 12 = [] := List.drop_eq_nil_of_le (by omega)
      rw [e]
      exact ⟨_, _, by rw [show xs.length - 12 = 0 by omega]; rfl, .inl rfl⟩
    · exact ⟨off + 12, by rw [if_neg h0], fun w' hv => ⟨bts_drop hv 12 hl, HY.out.drop 12, _, _, by rw [List.length_drop], by rw [List.length_drop]; omega⟩⟩
  have hw3 : ws (xs.take 12) = [wd xs 0, wd xs 4, wd xs 8] := by
    unfold ws
    rw [List.length_take, show min 12 xs.length / 4 = 3 by omega]
    show [wd (xs.take 12) (4 * 0), wd (xs.take 12) (4 * 1), wd (xs.take 12) (4 * 2)] = _
    rw [wd_take _ _ _ (by omega), wd_take _ _ _ (by omega), wd_take _ _ _ (by omega)]
  have HW3 := Lib.hid hw3
  have HW1 : Hid (∀ w', Bts w' (.slice (some ⟨b, off, none⟩) xs.length c) xs → Calls Tryz.prog 64 #[.slice (some ⟨b, off, none⟩) 12 c] w' (WdsPost (xs.take 12) w')) := fun w' hv => words_any _ _ w' (R1.out w' hv) (by rw [List.length_take]; omega)
  have HW2 : Hid (∀ w', Hid (Bts w' (.slice (some ⟨b, off, none⟩) xs.length c) xs) → Calls Tryz.prog 64 #[.slice (some ⟨b, off, none⟩) 12 c] w' (HeadPost (wd xs 0) (wd xs 4) (wd xs 8) w')) := fun w' hv => (HW1.out w' hv.out).mono fun e w1 h => head_of HW3.out h
  have V0 : Hid (Bts (w.alloc (.cells #[.int .i64 0, .int .i64 0, .slice none 0 0, .slice none 0 0] 35)) (.slice (some ⟨b, off, none⟩) xs.length c) xs) := hv.kept ((Below.refl _ _).alloc (Nat.le_refl _) _)
  have X0 : Hid (Box w.heap.size (.int .i64 0) (.int .i64 0) (.slice none 0 0) (.slice none 0 0) (w.alloc (.cells #[.int .i64 0, .int .i64 0, .slice none 0 0, .slice none 0 0] 35))) := box_new w _ _ _ _
  have HK : Hid (∀ wa wb : World, Below wa.heap.size wa wb → Hid (Bts wa (.slice (some ⟨b, off, none⟩) xs.length c) xs) → Hid (Bts wb (.slice (some ⟨b, off, none⟩) xs.length c) xs)) := fun wa wb hb h => h.out.kept hb
  have hv1 : Hid (Bts (w.alloc (.cells #[.int .i64 0, .int .i64 0, .slice none 0 0, .slice none 0 0] 35)).drew (.slice (some ⟨b, off, none⟩) xs.length c) xs) := V0.out.kept (below_drewN _ _ 1)
  clear hv hw3
  go_enter Tryz.func34, Tryz.ntmps34
  go_wp2
  go_region_held3 (fun w' => Hid (Bts w' (.slice (some ⟨b, off, none⟩) xs.length c) xs)) (first | go_keep | (exact HK.out _ _ hb1 (by assumption))) (first | (go_at_call 64; refine (HW2.out _ (by assumption)).mono ?_; rintro e w1 ⟨g1, c1, rfl, hb1, hg1, d0, d1, d2⟩))
  have BA : Below w.heap.size w (w.alloc (.cells #[.int .i64 0, .int .i64 0, .slice none 0 0, .slice none 0 0] 35)).drew := ((Below.refl _ _).alloc (Nat.le_refl _) _).trans (below_drewN _ _ 1)
  have hb1' : Below (w.heap.size + 1) (w.alloc (.cells #[.int .i64 0, .int .i64 0, .slice none 0 0, .slice none 0 0] 35)).drew w1 := hb1.mono (by simp [World.drew])
  have HG1 : Hid (w.heap.size + 1 ≤ g1) := by
    have := hg1
    simp [World.drew] at this
    exact this
  have B1 : Hid (Below w.heap.size w w1) := BA.trans (hb1'.mono (by omega))
  have X1 : Hid (Box w.heap.size (.int .i64 0) (.int .i64 0) (.slice none 0 0) (.slice none 0 0) w1) := (X0.out.kept (B := w.heap.size + 1) (below_drewN _ _ 1) (by omega) (by simp)).kept hb1' (by omega) (by simp)
  have VB : Hid (RowB w1 (.slice (some ⟨b, o2, none⟩) (xs.length - 12) (c - 12)) (xs.drop 12)) := R2.out _ (HV.out.kept B1.out)
  have I0 := Lib.hid (wd_in xs 0 HY.out.bytes)
  have I4 := Lib.hid (wd_in xs 4 HY.out.bytes)
  have I8 := Lib.hid (wd_in xs 8 HY.out.bytes)
  have LD := Lib.hid (show (xs.drop 12).length = xs.length - 12 by rw [List.length_drop])
  have LB := Lib.hid (show xs.length - 12 ≤ 9988 by omega)
  have HD : Hid (decB xs = (fitsB (wd xs 4) (wd xs 8) (xs.length - 12) && okO (rdO xs))) := by
    show decB xs = _
    unfold decB
    rw [show decide (12 ≤ xs.length) = true by simpa using hl, Bool.true_and]
  have HR : Hid (rdO xs = if wd xs 4 = 1 then ⟨wd xs 0, 1, ws (xs.drop 12), []⟩ else ⟨wd xs 0, wd xs 4, [], xs.drop 12⟩) := Lib.hid rfl
  clear hb1 hb1' BA hg1 hv1 hl hl' hl2 h12 h12' hc ho2 X0 V0 HW1 HW2 HW3 R1 R2 HV HK
  generalize hx0 : wd xs 0 = x0 at *
  generalize hk4 : wd xs 4 = k at *
  generalize hn8 : wd xs 8 = n at *
  generalize hlen : xs.length - 12 = m at *
  generalize hbody : xs.drop 12 = ys at *
  generalize c - 12 = c2 at *
  clear hx0 hk4 hn8 hlen hbody
  go_wp2
  go_region_held3 (fun w' => w'.cell? ⟨g1, 0, none⟩ = some (.int .i64 x0) ∧ w'.cell? ⟨g1, 1, none⟩ = some (.int .i64 k)) (first | go_keep) (fail)
  have hB2 : Below w1.heap.size w1 (w1.alloc (.cells #[.int .i64 x0, .int .i64 k, .slice none 0 0, .slice none 0 0] 35)).drew := ((Below.refl _ _).alloc (Nat.le_refl _) _).trans (below_drewN _ _ 1)
  have hP1 := B1.out.size
  have hG1 := World.block_lt_of_cell? _ _ d2
  have hX1 := X1.out.2.2
  have e2 := (hB2.cell (p := ⟨g1, 2, none⟩) hG1).trans d2
  have B2 := Lib.hid (B1.out.trans (hB2.mono hP1))
  have X2 := Lib.hid (X1.out.kept hB2 hX1 (Nat.le_refl _))
  have Y2 : Hid (Box w1.heap.size (.int .i64 x0) (.int .i64 k) (.slice none 0 0) (.slice none 0 0) (w1.alloc (.cells #[.int .i64 x0, .int .i64 k, .slice none 0 0, .slice none 0 0] 35)).drew) := (box_new w1 _ _ _ _).kept (B := w1.heap.size + 1) (below_drewN _ _ 1) (by omega) (by simp)
  have V2 := Lib.hid (VB.out.kept hB2)
  have Q2 := Lib.hid (show w.heap.size < w1.heap.size from hX1)
  have S2 := Lib.hid (show w1.heap.size < (w1.alloc (.cells #[.int .i64 x0, .int .i64 k, .slice none 0 0, .slice none 0 0] 35)).drew.heap.size by simp [World.drew])
  clear hB2 hP1 hG1 hX1 d0 d1 d2 B1 X1 VB HG1
  generalize (w1.alloc (.cells #[.int .i64 x0, .int .i64 k, .slice none 0 0, .slice none 0 0] 35)).drew = w2 at *
  generalize w1.heap.size = p6 at *
  have HF : Hid (∀ w, Calls Tryz.prog 65 #[.int .i64 k, .int .i64 n, .int .i64 (m : Int)] w fun e w' => e = .returned (.bool (fitsB k n m)) ∧ w' = w) := fun w =>
    (fits_any k n m w ⟨by have := I4.out; omega, by have := I4.out; omega⟩ ⟨by have := I8.out; omega, by have := I8.out; omega⟩).mono fun _ _ ⟨h1, h2⟩ => ⟨h1, h2.symm⟩
  obtain ⟨y0, y1, y2, y3⟩ := Y2.out.1
  cases hf : fitsB k n m with
  | false =>
    rw [hf] at HF HD
    clear hf
    obtain ⟨⟨z0, z1, z2, z3⟩, zf, _⟩ := X2.out
    have zf0 := zf 0
    have zf1 := zf 1
    have zf2 := zf 2
    have zf3 := zf 3
    clear zf
    go_wp2
    go_quiet (first | (go_at_call 65; exact Calls.quiet_of_same (HF.out _)))
    go_wp2
    exact bodyPost_ret (res_box2 rfl rfl ((X2.out.kept (below_drewN _ _ nq) (Nat.lt_trans Q2.out S2.out) (Nat.le_refl _)).put _ _ _ _)) rfl
      ⟨fun h => by rw [HD.out] at h; simp at h, fun _ => ⟨rfl, put_below (B2.out.trans (below_drewN _ _ nq)) (Nat.le_refl _)⟩⟩
  | true =>
    rw [hf] at HF HD
    have hk12 : k = 1 ∨ k = 2 := by
      unfold fitsB at hf
      simp only [Bool.and_eq_true, Bool.or_eq_true, beq_iff_eq] at hf
      exact hf.2.imp (fun h => h.1) fun h => h.1
    clear hf
    rcases hk12 with rfl | rfl
    · go_wp2
      go_quiet (first | (go_at_call 65; exact Calls.quiet_of_same (HF.out _)))
      have X3 := Lib.hid (X2.out.kept (below_drewN _ w2 nq) (Nat.lt_trans Q2.out S2.out) (Nat.le_refl _))
      have Y3 := Lib.hid (Y2.out.kept (below_drewN _ w2 nq) S2.out (Nat.le_refl _))
      have V3 := Lib.hid (V2.out.kept (below_drewN _ w2 nq))
      have B3 := Lib.hid (B2.out.trans (below_drewN _ w2 nq))
      have S3 : Hid (p6 < (w2.drewN nq).heap.size) := S2.out
      clear y0 y1 y2 y3 e2
      obtain ⟨y0, y1, y2, y3⟩ := Y3.out.1
      generalize w2.drewN nq = w3 at *
      go_wp2_with fail
      refine (words_any _ ys _ V3.out (by have := LD.out; have := LB.out; omega)).mono ?_
      rintro e w4 ⟨c4, rfl, hr4, hb4⟩
      have s3 := S3.out
      have X4 := Lib.hid (X3.out.kept hb4 (Nat.lt_trans Q2.out s3) (Nat.le_refl _))
      have Y4 := Lib.hid (Y3.out.kept hb4 s3 (Nat.le_refl _))
      have B4 := Lib.hid (B3.out.trans (hb4.mono (by have := Q2.out; omega)))
      have O4 : Hid (ObjHi p6 w4 (.slice (some ⟨w3.heap.size, 0, none⟩) (ws ys).length c4) (.slice none 0 0) ⟨x0, 1, ws ys, []⟩) :=
        ⟨hr4, rowB_nil _, ⟨by have := I0.out; show _ ≤ x0; omega, by have := I0.out; show x0 ≤ _; omega⟩, ⟨by show _ ≤ (1 : Int); omega, by show (1 : Int) ≤ _; omega⟩, fun b off n c he => by injection he with e1; injection e1 with e1; injection e1 with e1; omega, Hi.nil _ _ _⟩
      have HR2 : Hid (rdO xs = ⟨x0, 1, ws ys, []⟩) := by
        have h := HR.out
        simp only [if_true] at h
        exact h
      clear hr4 hb4 y0 y1 y2 y3 s3 HR
      have LW := Lib.hid (ws_len ys)
      generalize ws ys = zs at *
      generalize w3.heap.size = g4 at *
      obtain ⟨⟨y0, y1, y2, y3⟩, yf, _⟩ := Y4.out
      have yf2 := yf 2
      clear yf
      go_wp2_with fail
      have Y5 := Lib.hid (Y4.out.put2 (.slice (some ⟨g4, 0, none⟩) zs.length c4))
      have X5 := Lib.hid (X4.out.other (Nat.ne_of_lt Q2.out) 2 (.slice (some ⟨g4, 0, none⟩) zs.length c4))
      have O5 := Lib.hid (O4.out.abv (Abv.set p6 w4 p6 2 (.slice (some ⟨g4, 0, none⟩) zs.length c4) (Nat.le_refl _)))
      have B5 := Lib.hid (B4.out.setCell (p := ⟨p6, 2, none⟩) (Nat.le_of_lt Q2.out) (.slice (some ⟨g4, 0, none⟩) zs.length c4))
      clear y0 y1 y2 y3 yf2
      generalize w4.setCell ⟨p6, 2, none⟩ (.slice (some ⟨g4, 0, none⟩) zs.length c4) = w5 at *
      refine (check_any _ ⟨x0, 1, zs, []⟩ _ O5.out.obj ⟨by show zs.length ≤ _; have := LW.out; have := LD.out; have := LB.out; omega, by simp⟩).mono ?_
      rintro e w6 ⟨rfl, hb6⟩
      have Y6 := Lib.hid (Y5.out.kept hb6 Y5.out.2.2 (Nat.le_refl _))
      have X6 := Lib.hid (X5.out.kept hb6 X5.out.2.2 (Nat.le_refl _))
      have O6 := Lib.hid (O5.out.kept hb6)
      have B6 := Lib.hid (B5.out.trans (hb6.mono B5.out.size))
      clear hb6
      obtain ⟨⟨y0, y1, y2, y3⟩, _, _⟩ := Y6.out
      obtain ⟨⟨z0, z1, z2, z3⟩, zf, _⟩ := X6.out
      have zf0 := zf 0
      have zf1 := zf 1
      have zf2 := zf 2
      have zf3 := zf 3
      clear zf
      cases hok : okO ⟨x0, 1, zs, []⟩ with
      | true =>
        have HD2 : Hid (decB xs = true) := by
          show decB xs = true
          rw [HD.out, HR2.out, hok]; rfl
        rw [chk_is hok]
        clear hok
        go_wp2
        exact bodyPost_ret (res_box2 rfl rfl (X6.out.put _ _ _ _)) rfl
          ⟨fun _ => by rw [HR2.out]; exact ⟨_, _, p6, Nat.le_of_lt Q2.out, rfl, O6.out.abv (Abv.put (Nat.le_of_lt Q2.out)), put_below B6.out (Nat.le_refl _)⟩, fun h => by rw [HD2.out] at h; cases h⟩
      | false =>
        have HD2 : Hid (decB xs = false) := by
          show decB xs = false
          rw [HD.out, HR2.out, hok]; rfl
        rw [chk_not hok]
        clear hok
        go_wp2
        exact bodyPost_ret (res_box2 rfl rfl (X6.out.put _ _ _ _)) rfl
          ⟨fun h => (by rw [HD2.out] at h; cases h), fun _ => ⟨rfl, put_below B6.out (Nat.le_refl _)⟩⟩
    · go_wp2
      go_quiet (first | (go_at_call 65; exact Calls.quiet_of_same (HF.out _)))
      have X3 := Lib.hid (X2.out.kept (below_drewN _ w2 nq) (Nat.lt_trans Q2.out S2.out) (Nat.le_refl _))
      have Y3 := Lib.hid (Y2.out.kept (below_drewN _ w2 nq) S2.out (Nat.le_refl _))
      have V3 := Lib.hid (V2.out.kept (below_drewN _ w2 nq))
      have B3 := Lib.hid (B2.out.trans (below_drewN _ w2 nq))
      have S3 : Hid (p6 < (w2.drewN nq).heap.size) := S2.out
      clear y0 y1 y2 y3 e2
      obtain ⟨y0, y1, y2, y3⟩ := Y3.out.1
      generalize w2.drewN nq = w3 at *
      go_wp2_with fail
      refine (cloneB_any _ ys _ V3.out.1 (by have := LD.out; have := LB.out; omega)).mono ?_
      rintro e w4 ⟨v4, rfl, hr4, hb4⟩
      obtain ⟨a4, c4, rfl, _⟩ := own_room hr4
      have s3 := S3.out
      have X4 := Lib.hid (X3.out.kept hb4 (Nat.lt_trans Q2.out s3) (Nat.le_refl _))
      have Y4 := Lib.hid (Y3.out.kept hb4 s3 (Nat.le_refl _))
      have B4 := Lib.hid (B3.out.trans (hb4.mono (by have := Q2.out; omega)))
      have O4 : Hid (ObjHi p6 w4 (.slice none 0 0) (.slice a4 ys.length c4) ⟨x0, 2, [], ys⟩) :=
        ⟨rowI_nil _, RowB.own hr4 V3.out.2.1, ⟨by have := I0.out; show _ ≤ x0; omega, by have := I0.out; show x0 ≤ _; omega⟩, ⟨by show _ ≤ (2 : Int); omega, by show (2 : Int) ≤ _; omega⟩, Hi.nil _ _ _, Hi.own hr4 s3⟩
      have HR2 : Hid (rdO xs = ⟨x0, 2, [], ys⟩) := by
        have h := HR.out
        rw [if_neg (by decide)] at h
        exact h
      clear hr4 hb4 y0 y1 y2 y3 s3
      obtain ⟨⟨y0, y1, y2, y3⟩, yf, _⟩ := Y4.out
      have yf2 := yf 3
      clear yf
      go_wp2_with fail
      have Y5 := Lib.hid (Y4.out.put3 (.slice a4 ys.length c4))
      have X5 := Lib.hid (X4.out.other (Nat.ne_of_lt Q2.out) 3 (.slice a4 ys.length c4))
      have O5 := Lib.hid (O4.out.abv (Abv.set p6 w4 p6 3 (.slice a4 ys.length c4) (Nat.le_refl _)))
      have B5 := Lib.hid (B4.out.setCell (p := ⟨p6, 3, none⟩) (Nat.le_of_lt Q2.out) (.slice a4 ys.length c4))
      clear y0 y1 y2 y3 yf2
      generalize w4.setCell ⟨p6, 3, none⟩ (.slice a4 ys.length c4) = w5 at *
      refine (check_any _ ⟨x0, 2, [], ys⟩ _ O5.out.obj ⟨by simp, by show ys.length ≤ _; have := LD.out; have := LB.out; omega⟩).mono ?_
      rintro e w6 ⟨rfl, hb6⟩
      have Y6 := Lib.hid (Y5.out.kept hb6 Y5.out.2.2 (Nat.le_refl _))
      have X6 := Lib.hid (X5.out.kept hb6 X5.out.2.2 (Nat.le_refl _))
      have O6 := Lib.hid (O5.out.kept hb6)
      have B6 := Lib.hid (B5.out.trans (hb6.mono B5.out.size))
      clear hb6
      obtain ⟨⟨y0, y1, y2, y3⟩, _, _⟩ := Y6.out
      obtain ⟨⟨z0, z1, z2, z3⟩, zf, _⟩ := X6.out
      have zf0 := zf 0
      have zf1 := zf 1
      have zf2 := zf 2
      have zf3 := zf 3
      clear zf
      cases hok : okO ⟨x0, 2, [], ys⟩ with
      | true =>
        have HD2 : Hid (decB xs = true) := by
          show decB xs = true
          rw [HD.out, HR2.out, hok]; rfl
        rw [chk_is hok]
        clear hok
        go_wp2
        exact bodyPost_ret (res_box2 rfl rfl (X6.out.put _ _ _ _)) rfl
          ⟨fun _ => by rw [HR2.out]; exact ⟨_, _, p6, Nat.le_of_lt Q2.out, rfl, O6.out.abv (Abv.put (Nat.le_of_lt Q2.out)), put_below B6.out (Nat.le_refl _)⟩, fun h => by rw [HD2.out] at h; cases h⟩
      | false =>
        have HD2 : Hid (decB xs = false) := by
          show decB xs = false
          rw [HD.out, HR2.out, hok]; rfl
        rw [chk_not hok]
        clear hok
        go_wp2
        exact bodyPost_ret (res_box2 rfl rfl (X6.out.put _ _ _ _)) rfl
          ⟨fun h => (by rw [HD2.out] at h; cases h), fun _ => ⟨rfl, put_below B6.out (Nat.le_refl _)⟩⟩
end Go.Proofs.YtccpmaahnfgkeaaGreatDoor.Wd

/- What Same of package wide, the chapter's Same, and Word of package wide return. -/
namespace Go.Proofs.YtccpmaahnfgkeaaGreatDoor.Wd
open Go.ChangeShapes Go.WideShapes Go.ChangeAt Go.RowKit
set_option maxRecDepth 1000000

def sameO (a b : Ob) : Bool := decide (a.c = b.c) && decide (a.k = b.k) && decide (a.w = b.w) && decide (a.b = b.b)
theorem sameO_iff (a b : Ob) : sameO a b = true ↔ a = b := by
  obtain ⟨c, k, l, x⟩ := a
  obtain ⟨c', k', l', x'⟩ := b
  simp [sameO, and_assoc]
theorem sameO_self (a : Ob) : sameO a a = true := (sameO_iff a a).2 rfl
def SamePost (a b : Ob) (w : World) (e : Ending) (w' : World) : Prop := e = .returned (.bool (sameO a b)) ∧ Below w.heap.size w w'
theorem bel2 (w : World) (x y : Obj) : Below w.heap.size w ((w.alloc x).alloc y) := ((Below.refl _ _).alloc (Nat.le_refl _) _).alloc (by simp) _

theorem bx_top1 (w : World) (x y z u : Value) (o : Obj) : Bx w.heap.size x y z u ((w.alloc (.cells #[x, y, z, u] 35)).alloc o) :=
  ((box_new w x y z u).kept (B := w.heap.size + 1) ((Below.refl _ _).alloc (by simp) _) (by omega) (by simp)).1
theorem bx_top2 (w : World) (x y z u x' y' z' u' : Value) : Bx (w.heap.size + 1) x y z u ((w.alloc (.cells #[x', y', z', u'] 35)).alloc (.cells #[x, y, z, u] 35)) := by
  have h := (box_new (w.alloc (.cells #[x', y', z', u'] 35)) x y z u).1
  simpa using h

set_option maxHeartbeats 1000000 in
theorem same_ref (v1 v2 : Value) (a b : Ob) (w : World) (h1 : ObjAt w v1 a) (h2 : ObjAt w v2 b) (hs1 : Short a) (hs2 : Short b) :
    Calls Tryz.prog 11 #[v1, v2] w (SamePost a b w) := by
  obtain ⟨wv1, bv1, rfl, hw1, hb1, _, _⟩ := h1
  obtain ⟨wv2, bv2, rfl, hw2, hb2, _, _⟩ := h2
  have W1 := Lib.hid hw1
  have W2 := Lib.hid hw2
  have Q1 := Lib.hid hb1
  have Q2 := Lib.hid hb2
  obtain ⟨_, _, a1, c1, rfl, _⟩ := hw1
  obtain ⟨_, _, a2, c2, rfl, _⟩ := hw2
  obtain ⟨_, _, a3, c3, rfl, _⟩ := hb1
  obtain ⟨_, _, a4, c4, rfl, _⟩ := hb2
  have HI : Hid (∀ w', Below w.heap.size w w' → Calls Tryz.prog 20 #[.slice a1 a.w.length c1, .slice a2 b.w.length c2] w' fun e w'' => e = .returned (.bool (decide (a.w = b.w))) ∧ Below w'.heap.size w' w'') := fun w' hb => (sameInts_any _ _ _ _ w' (W1.out.1.kept hb) (W2.out.1.kept hb) hs1.1).mono fun _ _ h => h.below
  have HB : Hid (∀ w', Below w.heap.size w w' → Calls Tryz.prog 35 #[.slice a3 a.b.length c3, .slice a4 b.b.length c4] w' fun e w'' => e = .returned (.bool (decide (a.b = b.b))) ∧ Below w'.heap.size w' w'') := fun w' hb => (same_any _ _ _ _ w' (Q1.out.1.kept hb) (Q2.out.1.kept hb) Q1.out.2.1 Q2.out.2.1).mono fun _ _ ⟨h1, h2⟩ => ⟨h1, h2 ▸ Below.refl _ _⟩
  obtain ⟨x1, k1, l1, b1⟩ := a
  obtain ⟨x2, k2, l2, b2⟩ := b
  simp only at *
  have HE : Hid (∀ t, t = sameO ⟨x1, k1, l1, b1⟩ ⟨x2, k2, l2, b2⟩ → t = (decide (x1 = x2) && decide (k1 = k2) && decide (l1 = l2) && decide (b1 = b2))) := fun t h => h
  have HS : Hid (sameO ⟨x1, k1, l1, b1⟩ ⟨x2, k2, l2, b2⟩ = (decide (x1 = x2) && decide (k1 = k2) && decide (l1 = l2) && decide (b1 = b2))) := Lib.hid rfl
  clear HE
  by_cases hx : x1 = x2
  · subst hx
    by_cases hk : k1 = k2
    · subst hk
      simp only [decide_true, Bool.true_and] at HS
      cases hl : decide (l1 = l2) with
      | true =>
        rw [hl] at HI HS
        clear hl
        generalize decide (b1 = b2) = t at HB HS
        go_enter Tryz.func11, Tryz.ntmps11
        go_wp2_with fail
        refine (HI.out _ (bel2 w _ _)).mono ?_
        rintro e w1 ⟨rfl, hb1⟩
        have d0 := (Bx.kept (p := w.heap.size + 1) (x := .int .i64 x1) (y := .int .i64 k1) (z := .slice a2 l2.length c2) (u := .slice a4 b2.length c4) (bx_top2 w _ _ _ _ _ _ _ _) hb1 (by simp))
        have d1 := (Bx.kept (p := w.heap.size) (x := .int .i64 x1) (y := .int .i64 k1) (z := .slice a1 l1.length c1) (u := .slice a3 b1.length c3) (bx_top1 w _ _ _ _ _) hb1 (by simp; omega))
        obtain ⟨_, _, _, d03⟩ := d0
        obtain ⟨_, _, _, d13⟩ := d1
        have B1 := Lib.hid ((bel2 w _ _).trans (hb1.mono (by simp; omega)))
        clear hb1
        go_wp2_with fail
        refine (HB.out _ B1.out).mono ?_
        rintro e w2 ⟨rfl, hb2⟩
        have B2 := Lib.hid (B1.out.trans (hb2.mono B1.out.size))
        clear hb2 d03 d13
        go_wp2
        go_ret
        exact ⟨ret_b (by rw [HS.out]; simp), B2.out⟩
      | false =>
        rw [hl] at HI HS
        clear hl
        go_enter Tryz.func11, Tryz.ntmps11
        go_wp2_with fail
        refine (HI.out _ (bel2 w _ _)).mono ?_
        rintro e w1 ⟨rfl, hb1⟩
        have B1 := Lib.hid ((bel2 w _ _).trans (hb1.mono (by simp; omega)))
        clear hb1
        go_wp2
        go_ret
        exact ⟨ret_b (by rw [HS.out]; simp), B1.out⟩
    · have hq : (k1 == k2) = false := by simpa using hk
      have HS2 := Lib.hid (show false = sameO ⟨x1, k1, l1, b1⟩ ⟨x1, k2, l2, b2⟩ by rw [HS.out]; simp [hk])
      clear hk
      go_enter Tryz.func11, Tryz.ntmps11
      go_wp2
      go_ret
      exact ⟨ret_b HS2.out, bel2 w _ _⟩
  · have hq : (x1 == x2) = false := by simpa using hx
    have HS2 := Lib.hid (show false = sameO ⟨x1, k1, l1, b1⟩ ⟨x2, k2, l2, b2⟩ by rw [HS.out]; simp [hx])
    clear hx
    go_enter Tryz.func11, Tryz.ntmps11
    go_wp2
    go_ret
    exact ⟨ret_b HS2.out, bel2 w _ _⟩
end Go.Proofs.YtccpmaahnfgkeaaGreatDoor.Wd

/- 'known', the chapter's example: it returns true. No condition. -/
namespace Go.Proofs.YtccpmaahnfgkeaaGreatDoor.Wd
open Go.ChangeShapes Go.WideShapes Go.ChangeAt Go.RowKit
set_option maxRecDepth 1000000

def ex : Ob := ⟨6, 1, [3, 8], []⟩
theorem ex_ok : okO ex = true := by decide
theorem ex_enc : encO ex = [0, 0, 0, 6, 0, 0, 0, 1, 0, 0, 0, 2, 0, 0, 0, 3, 0, 0, 0, 8] := by decide
theorem ex_dec : decB [0, 0, 0, 6, 0, 0, 0, 1, 0, 0, 0, 2, 0, 0, 0, 3, 0, 0, 0, 8] = true ∧ rdO [0, 0, 0, 6, 0, 0, 0, 1, 0, 0, 0, 2, 0, 0, 0, 3, 0, 0, 0, 8] = ex := by rw [← ex_enc]; exact dec_enc ex_ok
theorem obj_zero (w : World) : ObjAt w (.agg #[.int .i64 0, .int .i64 0, .slice none 0 0, .slice none 0 0]) ⟨0, 0, [], []⟩ := ⟨_, _, rfl, rowI_nil w, rowB_nil w, by simp [In64], by simp [In64]⟩
theorem ints2 (w : World) (x y : Int) : Ints (w.alloc (.cells #[.int .i64 x, .int .i64 y] 3)) (.slice (some ⟨w.heap.size, 0, none⟩) 2 2) [x, y] := by
  refine ⟨_, _, rfl, .inr ⟨_, _, rfl, fun i hi => ?_⟩⟩
  rw [World.cell?_alloc_at _ _ _ _ rfl]
  match i, hi with
  | 0, _ => rfl
  | 1, _ => rfl
theorem ex_at (w : World) : ObjAt (w.alloc (.cells #[.int .i64 3, .int .i64 8] 3)) (.agg #[.int .i64 6, .int .i64 1, .slice (some ⟨w.heap.size, 0, none⟩) 2 2, .slice none 0 0]) ex :=
  ⟨_, _, rfl, ⟨ints2 w 3 8, by intro n hn; simp [ex] at hn; omega, _, _, rfl, by simp [ex]⟩, rowB_nil _, by simp [In64, ex], by simp [In64, ex]⟩
def exB : List Int := [0, 0, 0, 6, 0, 0, 0, 1, 0, 0, 0, 2, 0, 0, 0, 3, 0, 0, 0, 8]
theorem exB_byL : ByL exB := by intro n hn; simp [exB] at hn; omega

theorem bts_lit (w : World) (xs : List Int) : Bts (w.alloc (.cells (xs.map (Value.int .u8)).toArray 5)) (.slice (some ⟨w.heap.size, 0, none⟩) xs.length xs.length) xs := by
  refine ⟨_, _, rfl, .inr ⟨_, _, rfl, fun i hi => ?_⟩⟩
  rw [World.cell?_alloc_at _ _ _ _ rfl]
  simp [List.getElem?_eq_getElem hi, List.getD]
theorem exB_at (w : World) : Bts (w.alloc (.cells #[.int .u8 0, .int .u8 0, .int .u8 0, .int .u8 6, .int .u8 0, .int .u8 0, .int .u8 0, .int .u8 1, .int .u8 0, .int .u8 0, .int .u8 0, .int .u8 2, .int .u8 0, .int .u8 0, .int .u8 0, .int .u8 3, .int .u8 0, .int .u8 0, .int .u8 0, .int .u8 8] 5)) (.slice (some ⟨w.heap.size, 0, none⟩) 20 20) exB := bts_lit w exB
theorem Box.next {p : Nat} {x y z u : Value} {w w' : World} (h : Box p x y z u w) (hb : Below w.heap.size w w') : Box p x y z u w' := h.kept hb h.2.2 (Nat.le_refl _)
theorem box_new2 (w : World) (o : Obj) (x y z u : Value) : Box (w.heap.size + 1) x y z u ((w.alloc o).alloc (.cells #[x, y, z, u] 35)) := by
  have h := box_new (w.alloc o) x y z u
  rw [show (w.alloc o).heap.size = w.heap.size + 1 by simp] at h
  exact h
theorem two_below (w : World) (x y : Obj) : Below (w.heap.size + 1) (w.alloc x) ((w.alloc x).alloc y) := (Below.refl _ _).alloc (by simp) _

end Go.Proofs.YtccpmaahnfgkeaaGreatDoor.Wd

/- How an argument that is an object, or a row of bytes, is read: as an object, a list of bytes, with its room. -/
namespace Go.Proofs.YtccpmaahnfgkeaaGreatDoor.Wd
set_option maxRecDepth 1000000
open Go.ChangeShapes Go.WideShapes Go.ChangeAt Go.RowKit

theorem cells_row {H : Type} {enc : TypeId × Value → H} {W : World} {t e : TypeId} {k : IntKind} {v : Value} {fuel : Nat} {x : DataW H × List MemPlace}
    (ht : Tryz.prog.underlying t = some (.slice e)) (he : Tryz.prog.underlying e = some (.int k)) (hc : Tryz.prog.cellsOf e = 1)
    (h : DataW.trod enc Tryz.prog W 0 (fun _ => true) true fuel t [v] = some x) :
    ∃ (xs : List Int) (a0 : Option Addr) (c : Nat), v = .slice a0 xs.length c ∧ xs.length ≤ c ∧ xs.length ≤ maxLen ∧ (∀ n ∈ xs, (Lit.int k n).wf = true) ∧ (xs = [] ∨ ∃ b off, a0 = some ⟨b, off, none⟩ ∧ ∀ i, i < xs.length → W.cell? ⟨b, off + i, none⟩ = some (.int k (xs.getD i 0))) := by
  rcases open_ints ht he hc h with ⟨hcs, _⟩ | ⟨a, len, cap, zs, hcs, _, hl, hm, hz, _, hcell, hwz⟩
  · simp only [List.cons.injEq, and_true] at hcs
    exact ⟨[], none, 0, hcs, Nat.le_refl _, Nat.zero_le _, by simp, .inl rfl⟩
  · simp only [List.cons.injEq, and_true] at hcs
    simp only [if_true] at hz
    have e1 : (zs.take len).length = len := by rw [List.length_take]; omega
    refine ⟨zs.take len, some a, cap, by rw [e1]; exact hcs, by omega, by omega, fun n hn => hwz n (List.mem_of_mem_take hn), ?_⟩
    by_cases h0 : len = 0
    · left; subst h0; rfl
    · obtain ⟨b, off, spot⟩ := a
      have hspot : spot = none := by simpa [Addr.add] using World.cell?_spot (hcell 0 (by omega))
      subst hspot
      refine .inr ⟨b, off, rfl, fun i hi => ?_⟩
      rw [e1] at hi
      have := hcell i (by omega)
      rw [add_plain] at this
      rw [this]
      simp [List.getD, hi]

theorem rowB_of {H : Type} {enc : TypeId × Value → H} {W : World} {v : Value} {fuel : Nat} {x : DataW H × List MemPlace} (h : DataW.trod enc Tryz.prog W 0 (fun _ => true) true fuel 33 [v] = some x) : ∃ xs, RowB W v xs ∧ xs.length ≤ maxLen := by
  obtain ⟨xs, a, c, rfl, hl, hm, hw, hx⟩ := cells_row Tryz.underlying33 Tryz.underlying5 Tryz.cells5 h
  exact ⟨xs, ⟨⟨_, _, rfl, hx⟩, ByL.of (bytes_of hw), _, _, rfl, hl⟩, hm⟩
theorem rowI_of {H : Type} {enc : TypeId × Value → H} {W : World} {v : Value} {fuel : Nat} {x : DataW H × List MemPlace} (h : DataW.trod enc Tryz.prog W 0 (fun _ => true) true fuel 23 [v] = some x) : ∃ xs, RowI W v xs ∧ xs.length ≤ maxLen := by
  obtain ⟨xs, a, c, rfl, hl, hm, hw, hx⟩ := cells_row Tryz.underlying23 Tryz.underlying3 Tryz.cells3 h
  exact ⟨xs, ⟨⟨_, _, rfl, hx⟩, fun n hn => wf_i64 (hw n hn), _, _, rfl, hl⟩, hm⟩

/-- An argument of type []byte. -/
theorem open_rowB {H : Type} {enc : TypeId × Value → H} {W : World} {base : Nat} {v : Value} {d : DataW H} {ps : List MemPlace} (hok : Value.okWide Tryz.prog W .any base 33 v)
    (h : DataW.Trod enc Tryz.prog W 0 (fun _ => true) true 33 v d ps) : ∃ xs, RowB W v xs ∧ xs.length ≤ maxLen := by
  obtain ⟨a0, len, cap, rfl⟩ := okWide_slice Tryz.underlying33 hok
  obtain ⟨fuel, hf⟩ := h
  exact rowB_of hf

theorem Tryz.cells35 : Tryz.prog.cellsOf 35 = 4 := by kernel_rfl
/-- An argument that is an object. -/
theorem open_obj {H : Type} {enc : TypeId × Value → H} {W : World} {base : Nat} {v : Value} {d : DataW H} {ps : List MemPlace} (hok : Value.okWide Tryz.prog W .any base 35 v)
    (h : DataW.Trod enc Tryz.prog W 0 (fun _ => true) true 35 v d ps) : ∃ o, ObjAt W v o ∧ o.w.length ≤ maxLen ∧ o.b.length ≤ maxLen := by
  obtain ⟨v0, v1, v2, v3, y0, y1, y2, y3, n, rfl, _, _, h0, h1, h2, h3⟩ := Joins.open_agg4 Tryz.underlying35 (by kernel_rfl) Tryz.cells35 hok h
  obtain ⟨c, hc, _, wc⟩ := DataW.trod_int Tryz.underlying3 h0
  obtain ⟨k, hk, _, wk⟩ := DataW.trod_int Tryz.underlying3 h1
  simp only [List.cons.injEq, and_true] at hc hk
  subst hc hk
  obtain ⟨xs, hx, mx⟩ := rowI_of h2
  obtain ⟨ys, hy, my⟩ := rowB_of h3
  exact ⟨⟨c, k, xs, ys⟩, ⟨_, _, rfl, hx, hy, wf_i64 wc, wf_i64 wk⟩, mx, my⟩
end Go.Proofs.YtccpmaahnfgkeaaGreatDoor.Wd

/- What the chapter's Refs returns of any object: the numbers of what it names, in new memory. -/
namespace Go.Proofs.YtccpmaahnfgkeaaGreatDoor.Wd
open Go.ChangeShapes Go.WideShapes Go.ChangeAt Go.RowKit
set_option maxRecDepth 1000000

theorem refsL_yes (l : List Int) (v : Int) (h : namB v = true) : refsL (l ++ [v]) = refsL l ++ [namV v] := by simp [refsL, h]
theorem refsL_no (l : List Int) (v : Int) (h : namB v = false) : refsL (l ++ [v]) = refsL l := by simp [refsL, h]
theorem refsL_len (l : List Int) : (refsL l).length ≤ l.length := List.length_filterMap_le _ _
theorem take_at {l : List Int} {j : Nat} (h : j < l.length) (c : Int) : c :: l.take (j + 1) = (c :: l.take j) ++ [l.getD j 0] := by
  rw [List.take_succ_eq_append_getElem h]; simp [List.getD, List.getElem?_eq_getElem h]
theorem namV_in (v : Int) : -9223372036854775808 ≤ namV v ∧ namV v ≤ 9223372036854775807 := by
  unfold namV
  split
  · rename_i h; have := nam_rng h; omega
  · omega
theorem refsL_i64 (l : List Int) : I64 (refsL l) := by
  intro n hn
  obtain ⟨v, _, h⟩ := List.mem_filterMap.1 hn
  by_cases hv : namB v = true
  · rw [if_pos hv] at h; injection h with h; rw [← h]; exact namV_in v
  · rw [if_neg hv] at h; cases h
/-- One's own row of numbers, one longer. -/
theorem own_more {w : World} {base : Nat} {xs : List Int} {z : Int} {v : Value} (h : w.ownsRow base 3 1 v (xs.length + 1) (xs.map (Value.int .i64) ++ [.int .i64 z])) : w.ownsRow base 3 1 v (xs ++ [z]).length ((xs ++ [z]).map (Value.int .i64)) := by
  rw [List.length_append, List.map_append]; exact h
/-- What stands in memory behind j rounds: the box, and one's own row. -/
def FInv (w : World) (c k : Int) (l : List Int) (wv bv : Value) (j : Nat) (r : Value) (wr : World) : Prop :=
  Box w.heap.size (.int .i64 c) (.int .i64 k) wv bv wr ∧ (∃ n, wr.ownsRow (w.heap.size + 1) 3 1 r n ((refsL (c :: l.take j)).map (Value.int .i64)) ∧ n = (refsL (c :: l.take j)).length) ∧ Below w.heap.size w wr

set_option maxHeartbeats 2000000 in
theorem refrefs_any (v0 : Value) (o : Ob) (w : World) (hb0 : ObjAt w v0 o) (hs : o.w.length ≤ 1200) :
    Calls Tryz.prog 46 #[v0] w (GaveI (refsO o) w) := by
  obtain ⟨i0, hi, hz0, hz1, hz2⟩ := info_parts Tryz.info3
  obtain ⟨wv, bv, rfl, hI, ⟨_, _, a2, c2, rfl, _⟩, hc1, _⟩ := hb0
  have HI := Lib.hid hI.1
  have H6 := Lib.hid hI.2.1
  obtain ⟨_, _, a1, c1, rfl, _⟩ := hI
  obtain ⟨c, k, l, b⟩ := o
  simp only at *
  have HNC := Lib.hid (fun w => named_ref c w hc1.1 hc1.2)
  have HS := Lib.hid hs
  have X := Lib.hid (box_new w (.int .i64 c) (.int .i64 k) (.slice a1 l.length c1) (.slice a2 b.length c2))
  have BA : Hid (Below w.heap.size w (w.alloc (.cells #[.int .i64 c, .int .i64 k, .slice a1 l.length c1, .slice a2 b.length c2] 35))) := (Below.refl _ _).alloc (Nat.le_refl _) _
  have hs' : (l.length : Int) ≤ 1200 := by omega
  show Calls Tryz.prog 46 _ w (GaveI (refsL (c :: l)) w)
  cases hnb : namB c with
  | true =>
    rw [hnb] at HNC
    have HT := Lib.hid (show refsL (c :: l.take 0) = [namV c] by simp [refsL, hnb])
    clear hnb
    generalize namV c = z at HNC HT
    go_enter Tryz.func46, Tryz.ntmps46
    go_wp2_with fail
    refine (HNC.out _).mono ?_
    rintro e w1 ⟨rfl, rfl⟩
    go_wp2_with (at_builtin; refine wpList_append_own _ rfl _ _ 23 rfl (w.heap.size + 1) 3 i0 (.int .i64 0) 1 8 Tryz.underlying23 hi hz0 hz1 hz2 rfl (by decide) _ _ _ rfl ((World.ownsRow_nil _ (w.heap.size + 1) 3 1).alloc _) ⟨w.heap.size + 1, 0, none⟩ 1 1 [.int .i64 z] rfl rfl ?c1 ?c2 ?c3 ?c4 ?c5 ?_)
    case c1 =>
      intro j u hj
      match j, hj with
      | 0, hj => simp at hj; subst hj; simp [Addr.add]
    case c2 => intro u hu; simp at hu; subst hu; rfl
    case c3 => skip; unfold maxLen; omega
    case c4 => skip; omega
    case c5 => simp
    intro v' w1 hown' hgrow _
    have B1 : Below (w.heap.size + 1) (w.alloc (.cells #[.int .i64 c, .int .i64 k, .slice a1 l.length c1, .slice a2 b.length c2] 35)) w1 := ((Below.refl _ _).alloc (by simp) _).grown hgrow (by simp) fun g hg => by simp [Value.ownBlock] at hg
    have F0 : Hid (FInv w c k l (.slice a1 l.length c1) (.slice a2 b.length c2) 0 v' w1) := ⟨X.out.kept B1 (by omega) (by simp), ⟨_, by rw [HT.out]; exact hown', by rw [HT.out]; rfl⟩, BA.out.trans (B1.mono (by omega))⟩
    obtain ⟨av, cv, rfl, _⟩ := own_room hown'
    clear hown' hgrow B1
    go_wp2
    go_loopw [3, 6] (fun r i wr => ∃ j : Nat, j ≤ l.length ∧ i = .int .i64 j ∧ Hid (FInv w c k l (.slice a1 l.length c1) (.slice a2 b.length c2) j r wr)) (fun _ i _ => l.length - (intOf i).toNat)
    case atStart => exact ⟨0, by omega, rfl, F0⟩
    case round =>
      obtain ⟨j, hj, rfl, hL⟩ := hrel
      obtain ⟨X1, ⟨n, hown, hn⟩, hb1⟩ := hL.out
      have HX1 := Lib.hid X1
      have HB1 := Lib.hid hb1
      have HNL := Lib.hid hn
      obtain ⟨⟨x0, x1, x2, x3⟩, _, hs1⟩ := X1
      clear hL hb1 F0 hn
      by_cases hlt : j < l.length
      · have hlt' : (j : Int) < l.length := by omega
        have HBN := Lib.hid (show n ≤ 1300 by have h1 := HNL.out; have h2 := refsL_len (c :: l.take j); simp only [List.length_cons, List.length_take] at h2; omega)
        have HLT := Lib.hid hlt
        obtain ⟨bb, off, cc, hz, hc⟩ := (HI.out.kept HB1.out).at_ hlt
        injection hz with q1 q2 q3
        subst q1
        clear q2 q3
        have HNM := Lib.hid (named_ref (l.getD j 0) wr (H6.out.at_ j).1 (H6.out.at_ j).2)
        cases hnb : namB (l.getD j 0) with
        | true =>
          rw [hnb] at HNM
          have HT := Lib.hid (show refsL (c :: l.take (j + 1)) = refsL (c :: l.take j) ++ [namV (l.getD j 0)] by rw [take_at hlt]; exact refsL_yes _ _ hnb)
          clear hnb
          generalize namV (l.getD j 0) = z at HNM HT
          generalize l.getD j 0 = y at HNM hc
          clear hlt
          go_wp2_with fail
          refine HNM.out.mono ?_
          rintro e w1 ⟨rfl, rfl⟩
          go_wp2_with (at_builtin; refine wpList_append_own _ rfl _ _ 23 rfl (w.heap.size + 1) 3 i0 (.int .i64 0) 1 8 Tryz.underlying23 hi hz0 hz1 hz2 rfl (by decide) _ _ _ rfl (hown.alloc _) ⟨wr.heap.size, 0, none⟩ 1 1 [.int .i64 z] rfl rfl ?c1 ?c2 ?c3 ?c4 ?c5 ?_)
          case c1 =>
            intro j u hj
            match j, hj with
            | 0, hj => simp at hj; subst hj; simp [Addr.add]
          case c2 => intro u hu; simp at hu; subst hu; rfl
          case c3 => have := HBN.out; unfold maxLen; omega
          case c4 => have := HBN.out; omega
          case c5 => simp; omega
          intro v' w1 hown' hgrow _
          have B1 : Below (w.heap.size + 1) wr w1 := ((Below.refl _ _).alloc (by omega) _).grown hgrow (by simp; omega) fun g hg => (hown.lt g hg).1
          have F1 : Hid (FInv w c k l (.slice (some ⟨bb, off, none⟩) l.length c1) (.slice a2 b.length c2) (j + 1) v' w1) := ⟨HX1.out.kept B1 (by omega) (by omega), ⟨_, by rw [HT.out, List.map_append]; exact hown', by rw [HT.out, HNL.out, List.length_append]; rfl⟩, HB1.out.trans (B1.mono (by omega))⟩
          obtain ⟨av, cv, rfl, _⟩ := own_room hown'
          clear hown hown' hgrow B1 x0 x1 x2 x3 hc
          go_wp2
          go_roundw
          case rel => exact ⟨j + 1, by omega, by go_num, F1⟩
          case measure => simp [intOf]; omega
        | false =>
          rw [hnb] at HNM
          have HT := Lib.hid (show refsL (c :: l.take (j + 1)) = refsL (c :: l.take j) by rw [take_at hlt]; exact refsL_no _ _ hnb)
          clear hnb
          generalize namV (l.getD j 0) = z at HNM
          generalize l.getD j 0 = y at HNM hc
          clear hlt
          have F1 : Hid (FInv w c k l (.slice (some ⟨bb, off, none⟩) l.length c1) (.slice a2 b.length c2) (j + 1) u3 wr) := ⟨HX1.out, ⟨n, by rw [HT.out]; exact hown, by rw [HT.out]; exact HNL.out⟩, HB1.out⟩
          clear hown
          go_wp2_with fail
          refine HNM.out.mono ?_
          rintro e w1 ⟨rfl, rfl⟩
          go_wp2
          go_roundw
          case rel => exact ⟨j + 1, by omega, by go_num, F1⟩
          case measure => simp [intOf]; omega
      · have e : j = l.length := by omega
        subst e
        rw [List.take_length] at hown HNL
        rw [HNL.out] at hown
        go_wp2
        go_ret
        exact ⟨_, rfl, own_down hown (by omega), HB1.out⟩
  | false =>
    rw [hnb] at HNC
    have HT := Lib.hid (show refsL (c :: l.take 0) = [] by simp [refsL, hnb])
    clear hnb
    generalize namV c = z at HNC
    have F0 : Hid (FInv w c k l (.slice a1 l.length c1) (.slice a2 b.length c2) 0 (.slice none 0 0) (w.alloc (.cells #[.int .i64 c, .int .i64 k, .slice a1 l.length c1, .slice a2 b.length c2] 35))) := ⟨X.out, ⟨0, by rw [HT.out]; exact World.ownsRow_nil _ _ _ _, by rw [HT.out]; rfl⟩, BA.out⟩
    go_enter Tryz.func46, Tryz.ntmps46
    go_wp2_with fail
    refine (HNC.out _).mono ?_
    rintro e w1 ⟨rfl, rfl⟩
    go_wp2
    go_loopw [3, 6] (fun r i wr => ∃ j : Nat, j ≤ l.length ∧ i = .int .i64 j ∧ Hid (FInv w c k l (.slice a1 l.length c1) (.slice a2 b.length c2) j r wr)) (fun _ i _ => l.length - (intOf i).toNat)
    case atStart => exact ⟨0, by omega, rfl, F0⟩
    case round =>
      obtain ⟨j, hj, rfl, hL⟩ := hrel
      obtain ⟨X1, ⟨n, hown, hn⟩, hb1⟩ := hL.out
      have HX1 := Lib.hid X1
      have HB1 := Lib.hid hb1
      have HNL := Lib.hid hn
      obtain ⟨⟨x0, x1, x2, x3⟩, _, hs1⟩ := X1
      clear hL hb1 F0 hn
      by_cases hlt : j < l.length
      · have hlt' : (j : Int) < l.length := by omega
        have HBN := Lib.hid (show n ≤ 1300 by have h1 := HNL.out; have h2 := refsL_len (c :: l.take j); simp only [List.length_cons, List.length_take] at h2; omega)
        have HLT := Lib.hid hlt
        obtain ⟨bb, off, cc, hz, hc⟩ := (HI.out.kept HB1.out).at_ hlt
        injection hz with q1 q2 q3
        subst q1
        clear q2 q3
        have HNM := Lib.hid (named_ref (l.getD j 0) wr (H6.out.at_ j).1 (H6.out.at_ j).2)
        cases hnb : namB (l.getD j 0) with
        | true =>
          rw [hnb] at HNM
          have HT := Lib.hid (show refsL (c :: l.take (j + 1)) = refsL (c :: l.take j) ++ [namV (l.getD j 0)] by rw [take_at hlt]; exact refsL_yes _ _ hnb)
          clear hnb
          generalize namV (l.getD j 0) = z at HNM HT
          generalize l.getD j 0 = y at HNM hc
          clear hlt
          go_wp2_with fail
          refine HNM.out.mono ?_
          rintro e w1 ⟨rfl, rfl⟩
          go_wp2_with (at_builtin; refine wpList_append_own _ rfl _ _ 23 rfl (w.heap.size + 1) 3 i0 (.int .i64 0) 1 8 Tryz.underlying23 hi hz0 hz1 hz2 rfl (by decide) _ _ _ rfl (hown.alloc _) ⟨wr.heap.size, 0, none⟩ 1 1 [.int .i64 z] rfl rfl ?c1 ?c2 ?c3 ?c4 ?c5 ?_)
          case c1 =>
            intro j u hj
            match j, hj with
            | 0, hj => simp at hj; subst hj; simp [Addr.add]
          case c2 => intro u hu; simp at hu; subst hu; rfl
          case c3 => have := HBN.out; unfold maxLen; omega
          case c4 => have := HBN.out; omega
          case c5 => simp; omega
          intro v' w1 hown' hgrow _
          have B1 : Below (w.heap.size + 1) wr w1 := ((Below.refl _ _).alloc (by omega) _).grown hgrow (by simp; omega) fun g hg => (hown.lt g hg).1
          have F1 : Hid (FInv w c k l (.slice (some ⟨bb, off, none⟩) l.length c1) (.slice a2 b.length c2) (j + 1) v' w1) := ⟨HX1.out.kept B1 (by omega) (by omega), ⟨_, by rw [HT.out, List.map_append]; exact hown', by rw [HT.out, HNL.out, List.length_append]; rfl⟩, HB1.out.trans (B1.mono (by omega))⟩
          obtain ⟨av, cv, rfl, _⟩ := own_room hown'
          clear hown hown' hgrow B1 x0 x1 x2 x3 hc
          go_wp2
          go_roundw
          case rel => exact ⟨j + 1, by omega, by go_num, F1⟩
          case measure => simp [intOf]; omega
        | false =>
          rw [hnb] at HNM
          have HT := Lib.hid (show refsL (c :: l.take (j + 1)) = refsL (c :: l.take j) by rw [take_at hlt]; exact refsL_no _ _ hnb)
          clear hnb
          generalize namV (l.getD j 0) = z at HNM
          generalize l.getD j 0 = y at HNM hc
          clear hlt
          have F1 : Hid (FInv w c k l (.slice (some ⟨bb, off, none⟩) l.length c1) (.slice a2 b.length c2) (j + 1) u3 wr) := ⟨HX1.out, ⟨n, by rw [HT.out]; exact hown, by rw [HT.out]; exact HNL.out⟩, HB1.out⟩
          clear hown
          go_wp2_with fail
          refine HNM.out.mono ?_
          rintro e w1 ⟨rfl, rfl⟩
          go_wp2
          go_roundw
          case rel => exact ⟨j + 1, by omega, by go_num, F1⟩
          case measure => simp [intOf]; omega
      · have e : j = l.length := by omega
        subst e
        rw [List.take_length] at hown HNL
        rw [HNL.out] at hown
        go_wp2
        go_ret
        exact ⟨_, rfl, own_down hown (by omega), HB1.out⟩
end Go.Proofs.YtccpmaahnfgkeaaGreatDoor.Wd

/- What Refs of package wide returns of any object: the numbers of what it names, in new memory. -/
namespace Go.Proofs.YtccpmaahnfgkeaaGreatDoor.Wd
open Go.ChangeShapes Go.WideShapes Go.ChangeAt Go.RowKit
set_option maxRecDepth 1000000
theorem own_set {w : World} {base n q j : Nat} {e : TypeId} {v u : Value} {xs : List Value} (h : w.ownsRow base e 1 v n xs) (hq : q < base) : (w.setCell ⟨q, j, none⟩ u).ownsRow base e 1 v n xs := by
  refine ⟨h.1, ?_⟩
  rcases h.2 with hn | ⟨g, cap, cur, rfl, hb, hgg, rest⟩
  · exact .inl hn
  · refine .inr ⟨g, cap, cur, rfl, hb, ?_, rest⟩
    rw [Below.heap_setCell _ _ _ _ (by dsimp only; omega)]
    exact hgg

/-- The variable in block q holds one's own row of the numbers xs. -/
def RInv (q base : Nat) (xs : List Int) (w : World) : Prop :=
  ∃ v n, w.cell? ⟨q, 0, none⟩ = some v ∧ w.frozen? ⟨q, 0, none⟩ = false ∧ q < base ∧ base ≤ w.heap.size ∧ w.ownsRow base 3 1 v n (xs.map (Value.int .i64)) ∧ n = xs.length
def R1Post (q base : Nat) (xs : List Int) (w : World) (e : Ending) (w' : World) : Prop := e = .returned (.tuple #[]) ∧ RInv q base xs w' ∧ Below q w w'

set_option maxHeartbeats 1000000 in
theorem refs1_yes (q base : Nat) (x : Int) (xs : List Int) (w : World) (hx : In64 x) (h : RInv q base xs w) (hl : xs.length ≤ 1300) (hn : namB x = true) :
    Calls Tryz.prog 74 #[.int .i64 x, .pointer (some ⟨q, 0, none⟩)] w (R1Post q base (xs ++ [namV x]) w) := by
  obtain ⟨i0, hi, hz0, hz1, hz2⟩ := info_parts Tryz.info3
  have HN := Lib.hid (named_any x w hx.1 hx.2)
  rw [hn] at HN
  clear hn hx
  generalize namV x = z at *
  obtain ⟨v, n, hc, hf, hq, hb, hown, rfl⟩ := h
  have HL := Lib.hid hl
  go_enter Tryz.func74, Tryz.ntmps74
  go_wp2_with fail
  refine HN.out.mono ?_
  rintro e w1 ⟨rfl, rfl⟩
  go_wp2_with (at_builtin; refine wpList_append_own _ rfl _ _ 23 rfl base 3 i0 (.int .i64 0) 1 8 Tryz.underlying23 hi hz0 hz1 hz2 rfl (by decide) _ _ _ rfl (hown.alloc _) ⟨w.heap.size, 0, none⟩ 1 1 [.int .i64 z] rfl rfl ?c1 ?c2 ?c3 ?c4 ?c5 ?_)
  case c1 =>
    intro j u hj
    match j, hj with
    | 0, hj => simp at hj; subst hj; simp [Addr.add]
  case c2 => intro u hu; simp at hu; subst hu; rfl
  case c3 => have := HL.out; unfold maxLen; omega
  case c4 => have := HL.out; omega
  case c5 => simp; omega
  intro v' w1 hown' hgrow _
  have B1 : Below base w w1 := ((Below.refl _ _).alloc hb _).grown hgrow (by simp; omega) fun g hg => (hown.lt g hg).1
  have hc1 := (B1.cell (p := ⟨q, 0, none⟩) hq).trans hc
  have hf1 := (B1.frozen (p := ⟨q, 0, none⟩) hq).trans hf
  have HB1 := Lib.hid B1
  have HO1 := Lib.hid hown'
  obtain ⟨av, cv, rfl, _⟩ := own_room hown'
  have HC1 := Lib.hid hc1
  have HF1 := Lib.hid hf1
  clear hown hown' hgrow B1 hc hf
  go_wp2
  first | go_end0 | refine bodyPost_ret (results_none rfl _ _ _) rfl ?_
  have hb2 : Below q w (w1.setCell ⟨q, 0, none⟩ (.slice av (xs.length + 1) cv)) := (HB1.out.mono (Nat.le_of_lt hq)).setCell (p := ⟨q, 0, none⟩) (Nat.le_refl q) _
  have hs2 : base ≤ (w1.setCell ⟨q, 0, none⟩ (.slice av (xs.length + 1) cv)).heap.size := by have := HB1.out.size; simp [World.setCell]; omega
  have hc2 : (w1.setCell ⟨q, 0, none⟩ (.slice av (xs.length + 1) cv)).cell? ⟨q, 0, none⟩ = some (.slice av (xs.length + 1) cv) := by rw [World.cell?_setCell_same _ _ _ HC1.out]
  have hf2 : (w1.setCell ⟨q, 0, none⟩ (.slice av (xs.length + 1) cv)).frozen? ⟨q, 0, none⟩ = false := by rw [World.frozen?_setCell]; exact HF1.out
  exact ⟨rfl, ⟨_, xs.length + 1, hc2, hf2, hq, hs2, by rw [List.map_append]; exact own_set HO1.out hq, by simp⟩, hb2⟩

set_option maxHeartbeats 1000000 in
theorem refs1_no (q base : Nat) (x : Int) (xs : List Int) (w : World) (hx : In64 x) (h : RInv q base xs w) (hn : namB x = false) :
    Calls Tryz.prog 74 #[.int .i64 x, .pointer (some ⟨q, 0, none⟩)] w (R1Post q base xs w) := by
  have HN := Lib.hid (named_any x w hx.1 hx.2)
  rw [hn] at HN
  have H := Lib.hid h
  clear hn hx h
  generalize namV x = z at *
  go_enter Tryz.func74, Tryz.ntmps74
  go_wp2_with fail
  refine HN.out.mono ?_
  rintro e w1 ⟨rfl, rfl⟩
  go_wp2
  first | go_end0 | refine bodyPost_ret (results_none rfl _ _ _) rfl ?_
  exact ⟨rfl, H.out, Below.refl _ _⟩
theorem refs1_any (q base : Nat) (x : Int) (xs : List Int) (w : World) (hx : In64 x) (h : RInv q base xs w) (hl : xs.length ≤ 1300) :
    Calls Tryz.prog 74 #[.int .i64 x, .pointer (some ⟨q, 0, none⟩)] w (R1Post q base (xs ++ refsL [x]) w) := by
  cases hn : namB x with
  | true =>
    have e : refsL [x] = [namV x] := by simp [refsL, hn]
    rw [e]; exact refs1_yes q base x xs w hx h hl hn
  | false =>
    have e : refsL [x] = [] := by simp [refsL, hn]
    rw [e, List.append_nil]; exact refs1_no q base x xs w hx h hn
end Go.Proofs.YtccpmaahnfgkeaaGreatDoor.Wd

/- What Refs of package wide returns of any object: the numbers of what it names, in new memory. -/
namespace Go.Proofs.YtccpmaahnfgkeaaGreatDoor.Wd
open Go.ChangeShapes Go.WideShapes Go.ChangeAt Go.RowKit
set_option maxRecDepth 1000000

theorem refsL_app (l m : List Int) : refsL (l ++ m) = refsL l ++ refsL m := List.filterMap_append
def PInv (w : World) (c k : Int) (l : List Int) (wv bv : Value) (j : Nat) (wr : World) : Prop :=
  Box w.heap.size (.int .i64 c) (.int .i64 k) wv bv wr ∧ RInv (w.heap.size + 1) (w.heap.size + 2) (refsL (c :: l.take j)) wr ∧ Below w.heap.size w wr
theorem rinv_start (w : World) (o : Obj) : RInv (w.heap.size + 1) (w.heap.size + 2) [] ((w.alloc o).alloc (.cells #[.slice none 0 0] 23)) := by
  refine ⟨.slice none 0 0, 0, ?_, ?_, by omega, by simp, World.ownsRow_nil _ _ _ _, rfl⟩
  · rw [World.cell?_alloc_at _ _ _ _ (by simp)]; rfl
  · have h : ∀ (w : World) (p : Nat), p = w.heap.size → (w.alloc (.cells #[.slice none 0 0] 23)).frozen? ⟨p, 0, none⟩ = false := by
      intro w p hp
      subst hp
      unfold World.frozen?
      rw [heap_alloc_new]
      simp
    exact h _ _ (by simp)

set_option maxHeartbeats 2000000 in
theorem refs_any (v0 : Value) (o : Ob) (w : World) (hb0 : ObjAt w v0 o) (hs : o.w.length ≤ 1200) :
    Calls Tryz.prog 43 #[v0] w (GaveI (refsO o) w) := by
  have hmf : ∀ (fn : Fn) (first cap : Array Value) (w : World), (Instr.makeFunc fn first cap).run Tryz.prog w = .ok (.func fn first cap) w := fun _ _ _ _ => rfl
  obtain ⟨wv, bv, rfl, hI, ⟨_, _, a2, c2, rfl, _⟩, hc1, _⟩ := hb0
  have HI := Lib.hid hI.1
  have H6 := Lib.hid hI.2.1
  obtain ⟨_, _, a1, c1, rfl, _⟩ := hI
  obtain ⟨c, k, l, b⟩ := o
  simp only at *
  have HS := Lib.hid hs
  have hs' : (l.length : Int) ≤ 1200 := by omega
  have X : Hid (Box w.heap.size (.int .i64 c) (.int .i64 k) (.slice a1 l.length c1) (.slice a2 b.length c2) ((w.alloc (.cells #[.int .i64 c, .int .i64 k, .slice a1 l.length c1, .slice a2 b.length c2] 35)).alloc (.cells #[.slice none 0 0] 23))) := (box_new w _ _ _ _).next ((Below.refl _ _).alloc (Nat.le_refl _) _)
  have BB := Lib.hid (bel2 w (.cells #[.int .i64 c, .int .i64 k, .slice a1 l.length c1, .slice a2 b.length c2] 35) (.cells #[.slice none 0 0] 23))
  have HC := Lib.hid (refs1_any (w.heap.size + 1) (w.heap.size + 2) c [] _ hc1 (rinv_start w (.cells #[.int .i64 c, .int .i64 k, .slice a1 l.length c1, .slice a2 b.length c2] 35)) (by simp))
  rw [List.nil_append] at HC
  show Calls Tryz.prog 43 _ w (GaveI (refsL (c :: l)) w)
  clear hc1
  go_enter Tryz.func43, Tryz.ntmps43
  go_wp2_with fail
  refine HC.out.mono ?_
  rintro e w1 ⟨rfl, hr1, hb1⟩
  have F0 : Hid (PInv w c k l (.slice a1 l.length c1) (.slice a2 b.length c2) 0 w1) := ⟨X.out.kept hb1 (by omega) (by simp), hr1, BB.out.trans (hb1.mono (by omega))⟩
  obtain ⟨⟨x0, x1, x2, x3⟩, _, _⟩ := F0.out.1
  clear hr1 hb1 HC
  go_wp2
  go_loopw [15] (fun i wr => ∃ j : Nat, j ≤ l.length ∧ i = .int .i64 j ∧ Hid (PInv w c k l (.slice a1 l.length c1) (.slice a2 b.length c2) j wr)) (fun i _ => l.length - (intOf i).toNat)
  case atStart => exact ⟨0, by omega, rfl, F0⟩
  case round =>
    obtain ⟨j, hj, rfl, hL⟩ := hrel
    clear F0 x0 x1 x2 x3
    by_cases hlt : j < l.length
    · have hlt' : (j : Int) < l.length := by omega
      have HLT := Lib.hid hlt
      obtain ⟨bb, off, cc, hz, hc⟩ := (HI.out.kept hL.out.2.2).at_ hlt
      injection hz with q1 q2 q3
      subst q1
      clear q2 q3
      have HC := Lib.hid (refs1_any (w.heap.size + 1) (w.heap.size + 2) (l.getD j 0) _ wr (H6.out.at_ j) hL.out.2.1 (by have h2 := refsL_len (c :: l.take j); simp only [List.length_cons, List.length_take] at h2; omega))
      rw [← refsL_app, ← take_at hlt] at HC
      generalize l.getD j 0 = y at HC hc
      clear hlt
      go_wp2_with fail
      refine HC.out.mono ?_
      rintro e w2 ⟨rfl, hr2, hb2⟩
      have F2 : Hid (PInv w c k l (.slice (some ⟨bb, off, none⟩) l.length c1) (.slice a2 b.length c2) (j + 1) w2) := ⟨hL.out.1.kept hb2 (by omega) (by have := hL.out.2.1; obtain ⟨_, _, _, _, _, h, _⟩ := this; omega), hr2, hL.out.2.2.trans (hb2.mono (by omega))⟩
      clear hr2 hb2 hc HC
      go_wp2
      go_roundw
      case rel => exact ⟨j + 1, by omega, by go_num, F2⟩
      case measure => simp [intOf]; omega
    · have e : j = l.length := by omega
      subst e
      obtain ⟨_, ⟨r, n, hr, _, _, _, hown, hn⟩, hb⟩ := hL.out
      rw [List.take_length] at hown hn
      subst hn
      obtain ⟨av, cv, rfl, _⟩ := own_room hown
      have HOW := Lib.hid hown
      have HB := Lib.hid hb
      clear hown hb
      go_wp2
      go_ret
      exact ⟨_, rfl, own_down HOW.out (by omega), HB.out⟩
end Go.Proofs.YtccpmaahnfgkeaaGreatDoor.Wd
