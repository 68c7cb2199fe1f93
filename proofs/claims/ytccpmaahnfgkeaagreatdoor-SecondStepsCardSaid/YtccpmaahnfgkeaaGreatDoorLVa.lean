/- Texts of the layers below, one behind the other: VOb VEq VCp VVal VChk VRch VEnc VRen. -/
import Derived.Test.YtccpmaahnfgkeaaGreatDoorLW
import Derived.Lib.SliceRun
import Derived.Deep.RegionHeld3
import Derived.Deep.AppendSrc

/- Plain facts on objects and their bytes: what the chapter says of them, as Lean functions, and that bytes and objects belong to one another. Nothing of the program. -/
namespace Go.Proofs.YtccpmaahnfgkeaaGreatDoor.Wd
set_option maxRecDepth 1000000
open Go.RowKit

/-- An object: its class, its kind, its words, its bytes. -/
structure Ob where
  c : Int
  k : Int
  w : List Int
  b : List Int

def valB (v : Int) : Bool := numB v || namB v
def okO (o : Ob) : Bool := namB o.c && ((o.k == 1 && o.b.isEmpty && decide (o.w.length ≤ 1000) && o.w.all valB) || (o.k == 2 && o.w.isEmpty && decide (o.b.length ≤ 1000)))
def chk (o : Ob) : Int := if okO o = true then 0 else 2
def sizeO (o : Ob) : Nat := if o.k = 1 then o.w.length else if o.k = 2 then o.b.length else 0
def encO (o : Ob) : List Int := allB [o.c, o.k, sizeO o] ++ (if o.k = 1 then allB o.w else o.b)
def refsL (l : List Int) : List Int := l.filterMap fun v => if namB v = true then some (namV v) else none
def refsO (o : Ob) : List Int := refsL (o.c :: o.w)

/-- The word at place p, and the words of bytes. -/
def wd (xs : List Int) (p : Nat) : Int := sgn (acc xs p 4)
def ws (ys : List Int) : List Int := (List.range (ys.length / 4)).map fun i => wd ys (4 * i)
def fitsB (k n : Int) (l : Nat) : Bool := decide (0 ≤ n ∧ n ≤ 1000) && ((k == 1 && (l : Int) == 4 * n) || (k == 2 && (l : Int) == n))
def rdO (xs : List Int) : Ob := if wd xs 4 = 1 then ⟨wd xs 0, 1, ws (xs.drop 12), []⟩ else ⟨wd xs 0, wd xs 4, [], xs.drop 12⟩
def decB (xs : List Int) : Bool := decide (12 ≤ xs.length) && fitsB (wd xs 4) (wd xs 8) (xs.length - 12) && okO (rdO xs)

theorem acc_drop (xs : List Int) (d p k : Nat) : acc (xs.drop d) p k = acc xs (d + p) k := by
  induction k with
  | zero => rfl
  | succ k ih => simp only [acc]; rw [ih]; congr 1; simp [List.getD, List.getElem?_drop, Nat.add_assoc]
theorem acc_take (xs : List Int) (d p k : Nat) (h : p + k ≤ d) : acc (xs.take d) p k = acc xs p k := by
  induction k with
  | zero => rfl
  | succ k ih => simp only [acc]; rw [ih (by omega)]; congr 1; simp only [List.getD, List.getElem?_take]; rw [if_pos (by omega)]
theorem wd_drop (xs : List Int) (d p : Nat) : wd (xs.drop d) p = wd xs (d + p) := by unfold wd; rw [acc_drop]
theorem wd_take (xs : List Int) (d p : Nat) (h : p + 4 ≤ d) : wd (xs.take d) p = wd xs p := by unfold wd; rw [acc_take _ _ _ _ h]
theorem acc_pre (xs ys : List Int) (p k : Nat) (h : p + k ≤ xs.length) : acc (xs ++ ys) p k = acc xs p k := by
  induction k with
  | zero => rfl
  | succ k ih => simp only [acc]; rw [ih (by omega)]; congr 1; simp only [List.getD]; rw [List.getElem?_append_left (by omega)]
theorem wd_pre (xs ys : List Int) (p : Nat) (h : p + 4 ≤ xs.length) : wd (xs ++ ys) p = wd xs p := by unfold wd; rw [acc_pre _ _ _ _ h]

theorem acc4 (a b c d : Int) (r : List Int) : acc (a :: b :: c :: d :: r) 0 4 = ((a * 256 + b) * 256 + c) * 256 + d := by
  show (((0 * 256 + a) * 256 + b) * 256 + c) * 256 + d = _
  rw [Int.zero_mul, Int.zero_add]
theorem ws4 (a b c d : Int) (r : List Int) : ws (a :: b :: c :: d :: r) = sgn (((a * 256 + b) * 256 + c) * 256 + d) :: ws r := by
  unfold ws
  have e : (a :: b :: c :: d :: r).length / 4 = r.length / 4 + 1 := by simp only [List.length_cons]; omega
  rw [e, List.range_succ_eq_map, List.map_cons, List.map_map]
  congr 1
  unfold wd; rw [Nat.mul_zero, acc4]
theorem ws_nil : ws [] = [] := rfl
theorem ws_len (ys : List Int) : (ws ys).length = ys.length / 4 := by simp [ws]
theorem ws_at (ys : List Int) (i : Nat) (h : i < ys.length / 4) : (ws ys).getD i 0 = wd ys (4 * i) := by simp [ws, List.getD, h]

theorem byts_of4 (a b c d : Int) (ha : 0 ≤ a ∧ a ≤ 255) (hb : 0 ≤ b ∧ b ≤ 255) (hc : 0 ≤ c ∧ c ≤ 255) (hd : 0 ≤ d ∧ d ≤ 255) :
    byts (sgn (((a * 256 + b) * 256 + c) * 256 + d)) 4 = [a, b, c, d] := by
  rw [byts4]
  have e := sgn_mod' (((a * 256 + b) * 256 + c) * 256 + d)
  generalize hs : sgn (((a * 256 + b) * 256 + c) * 256 + d) = s at e
  have e2 : s % 4294967296 = ((a * 256 + b) * 256 + c) * 256 + d := by
    rw [← hs]; unfold sgn; split <;> omega
  have e3 : s % 256 = d := by omega
  rw [e2, e3]
  congr 1
  · omega
  congr 1
  · omega
  congr 1
  omega

/-- A list whose elements are bytes. -/
def ByL (xs : List Int) : Prop := ∀ n ∈ xs, 0 ≤ n ∧ n ≤ 255
theorem ByL.bytes {xs : List Int} (h : ByL xs) : Bytes xs := by
  intro i
  by_cases hi : i < xs.length
  · have e : xs.getD i 0 = xs[i] := by simp [List.getD, List.getElem?_eq_getElem hi]
    rw [e]; exact h _ (List.getElem_mem hi)
  · have e : xs.getD i 0 = 0 := by simp [List.getD, List.getElem?_eq_none (Nat.le_of_not_lt hi)]
    rw [e]; omega
theorem ByL.of {xs : List Int} (h : Bytes xs) : ByL xs := by
  intro n hn
  obtain ⟨i, hi, rfl⟩ := List.getElem_of_mem hn
  have := h i
  rw [List.getD, List.getElem?_eq_getElem hi] at this
  exact this
theorem ByL.app {xs ys : List Int} (h : ByL xs) (g : ByL ys) : ByL (xs ++ ys) := fun n hn => (List.mem_append.1 hn).elim (h n) (g n)
theorem ByL.take {xs : List Int} (h : ByL xs) (k : Nat) : ByL (xs.take k) := fun n hn => h n (List.mem_of_mem_take hn)
theorem ByL.drop {xs : List Int} (h : ByL xs) (k : Nat) : ByL (xs.drop k) := fun n hn => h n (List.mem_of_mem_drop hn)
theorem byL_byts (o : Int) : ByL (byts o 4) := ByL.of (byts_Bytes o 4)
theorem byL_allB (l : List Int) : ByL (allB l) := by
  intro n hn
  obtain ⟨o, _, h⟩ := List.mem_flatMap.1 hn
  exact byL_byts o n h

theorem allB_ws : ∀ (n : Nat) (ys : List Int), ys.length = 4 * n → ByL ys → allB (ws ys) = ys
  | 0, ys, h, _ => by obtain rfl : ys = [] := List.eq_nil_of_length_eq_zero (by omega); rfl
  | n + 1, [], h, _ => by simp at h
  | n + 1, [_], h, _ => by simp at h; omega
  | n + 1, [_, _], h, _ => by simp at h; omega
  | n + 1, [_, _, _], h, _ => by simp at h; omega
  | n + 1, a :: b :: c :: d :: r, h, hy => by
    simp only [List.length_cons] at h
    rw [ws4]
    show byts _ 4 ++ allB (ws r) = _
    rw [allB_ws n r (by omega) (fun x hx => hy x (by simp [hx])), byts_of4 a b c d (hy a (by simp)) (hy b (by simp)) (hy c (by simp)) (hy d (by simp))]
    rfl

def I32 (l : List Int) : Prop := ∀ n ∈ l, -2147483648 ≤ n ∧ n ≤ 2147483647
theorem ws_allB : ∀ (l : List Int), I32 l → ws (allB l) = l
  | [], _ => rfl
  | o :: r, h => by
    show ws (byts o 4 ++ allB r) = _
    have h0 := h o (by simp)
    rw [byts4]
    show ws (_ :: _ :: _ :: _ :: allB r) = _
    rw [ws4, ws_allB r (fun n hn => h n (by simp [hn]))]
    congr 1
    have e : ((o % 4294967296 / 16777216 * 256 + o % 4294967296 / 65536 % 256) * 256 + o % 4294967296 / 256 % 256) * 256 + o % 256 = o % 4294967296 := by omega
    rw [e, sgn_mod o h0.1 h0.2]

theorem nam_rng {o : Int} (h : namB o = true) : o % 2 = 0 ∧ 2 ≤ o ∧ o ≤ 2147483646 := by simpa [namB] using h
theorem num_rng {o : Int} (h : numB o = true) : o % 2 = 1 ∧ -2147483647 ≤ o ∧ o ≤ 2147483647 := by simpa [numB] using h
theorem val_rng {o : Int} (h : valB o = true) : -2147483648 ≤ o ∧ o ≤ 2147483647 := by
  rcases Bool.or_eq_true _ _ ▸ h with h | h
  · have := num_rng h; omega
  · have := nam_rng h; omega

/-- What okO says, told plainly. -/
theorem okO_iff (o : Ob) : okO o = true ↔ namB o.c = true ∧ ((o.k = 1 ∧ o.b = [] ∧ o.w.length ≤ 1000 ∧ ∀ v ∈ o.w, valB v = true) ∨ (o.k = 2 ∧ o.w = [] ∧ o.b.length ≤ 1000)) := by
  simp [okO, List.isEmpty_iff, List.all_eq_true, and_assoc]

theorem head_len (o : Ob) : (allB [o.c, o.k, sizeO o]).length = 12 := by rw [allB_len]; rfl
theorem enc_len (o : Ob) : (encO o).length = 12 + (if o.k = 1 then 4 * o.w.length else o.b.length) := by
  unfold encO; rw [List.length_append, head_len]; split <;> simp [allB_len]
theorem enc_le {o : Ob} (h : okO o = true) : 12 ≤ (encO o).length ∧ (encO o).length ≤ 4012 := by
  rw [enc_len o]
  obtain ⟨_, ⟨hk, _, hl, _⟩ | ⟨hk, _, hl⟩⟩ := (okO_iff o).1 h
  · rw [if_pos hk]; omega
  · rw [if_neg (by omega)]; omega
theorem size_le {o : Ob} (h : okO o = true) : sizeO o ≤ 1000 := by
  obtain ⟨_, ⟨hk, _, hl, _⟩ | ⟨hk, _, hl⟩⟩ := (okO_iff o).1 h
  · simp [sizeO, hk, hl]
  · simp [sizeO, hk, hl]

theorem wd_allB (l : List Int) (i : Nat) (h : i < l.length) (hl : I32 l) : wd (allB l) (4 * i) = l.getD i 0 := by
  have h1 := ws_at (allB l) i (by rw [allB_len]; omega)
  rw [ws_allB l hl] at h1
  exact h1.symm

theorem i32_head {o : Ob} (h : okO o = true) : I32 [o.c, o.k, (sizeO o : Int)] := by
  have h1 := ((okO_iff o).1 h).1
  have h2 := nam_rng h1
  have h3 := size_le h
  have h4 : o.k = 1 ∨ o.k = 2 := by rcases ((okO_iff o).1 h).2 with h | h; exact .inl h.1; exact .inr h.1
  intro n hn
  simp only [List.mem_cons, List.not_mem_nil, or_false] at hn
  rcases hn with rfl | rfl | rfl <;> omega

theorem dec_enc {o : Ob} (h : okO o = true) : decB (encO o) = true ∧ rdO (encO o) = o := by
  have hi := i32_head h
  have hl := head_len o
  have e0 : wd (encO o) 0 = o.c := by unfold encO; rw [wd_pre _ _ _ (by omega)]; exact wd_allB [o.c, o.k, (sizeO o : Int)] 0 (by simp) hi
  have e1 : wd (encO o) 4 = o.k := by unfold encO; rw [wd_pre _ _ _ (by omega)]; exact wd_allB [o.c, o.k, (sizeO o : Int)] 1 (by simp) hi
  have e2 : wd (encO o) 8 = sizeO o := by unfold encO; rw [wd_pre _ _ _ (by omega)]; exact wd_allB [o.c, o.k, (sizeO o : Int)] 2 (by simp) hi
  have ed : (encO o).drop 12 = if o.k = 1 then allB o.w else o.b := by unfold encO; rw [List.drop_left' hl]
  have er : rdO (encO o) = o := by
    unfold rdO
    rw [e0, e1, ed]
    obtain ⟨c, k, w, b⟩ := o
    obtain ⟨_, ⟨rfl, rfl, _, hv⟩ | ⟨rfl, rfl, _⟩⟩ := (okO_iff _).1 h
    · simp only [if_true]
      rw [ws_allB w fun n hn => val_rng (hv n hn)]
    · simp
  refine ⟨?_, er⟩
  unfold decB
  rw [er, h, e1, e2]
  have := enc_le h
  have el := enc_len o
  have hs := size_le h
  simp only [Bool.and_true, Bool.and_eq_true, decide_eq_true_eq]
  refine ⟨by omega, ?_⟩
  unfold fitsB
  obtain ⟨_, ⟨hk, _, _, _⟩ | ⟨hk, _, _⟩⟩ := (okO_iff o).1 h
  · rw [if_pos hk] at el
    have : sizeO o = o.w.length := by simp [sizeO, hk]
    simp [hk]; omega
  · rw [if_neg (by omega)] at el
    have : sizeO o = o.b.length := by simp [sizeO, hk]
    simp [hk]; omega

/-- What decB says. -/
theorem dec_parts {xs : List Int} (h : decB xs = true) : 12 ≤ xs.length ∧ okO (rdO xs) = true ∧ 0 ≤ wd xs 8 ∧ wd xs 8 ≤ 1000 ∧ ((wd xs 4 = 1 ∧ (xs.length : Int) = 12 + 4 * wd xs 8) ∨ (wd xs 4 = 2 ∧ (xs.length : Int) = 12 + wd xs 8)) := by
  unfold decB fitsB at h
  simp only [Bool.and_eq_true, Bool.or_eq_true, decide_eq_true_eq, beq_iff_eq] at h
  obtain ⟨⟨h1, h2, h3⟩, h4⟩ := h
  exact ⟨h1, h4, h2.1, h2.2, h3.imp (fun ⟨a, b⟩ => ⟨a, by omega⟩) fun ⟨a, b⟩ => ⟨a, by omega⟩⟩

theorem take12 {xs : List Int} (h : 12 ≤ xs.length) (hy : ByL xs) : allB [wd xs 0, wd xs 4, wd xs 8] = xs.take 12 := by
  have h1 := allB_ws 3 (xs.take 12) (by rw [List.length_take]; omega) (hy.take 12)
  have e : ws (xs.take 12) = [wd xs 0, wd xs 4, wd xs 8] := by
    unfold ws
    rw [List.length_take, show min 12 xs.length / 4 = 3 by omega]
    show [wd (xs.take 12) (4 * 0), wd (xs.take 12) (4 * 1), wd (xs.take 12) (4 * 2)] = _
    rw [wd_take _ _ _ (by omega), wd_take _ _ _ (by omega), wd_take _ _ _ (by omega)]
  rw [e] at h1; exact h1

theorem enc_dec {xs : List Int} (h : decB xs = true) (hy : ByL xs) : encO (rdO xs) = xs := by
  obtain ⟨h1, h2, h3, h4, ⟨h5, h6⟩ | ⟨h5, h6⟩⟩ := dec_parts h
  · have e : rdO xs = ⟨wd xs 0, 1, ws (xs.drop 12), []⟩ := by unfold rdO; rw [if_pos h5]
    have es : (sizeO (rdO xs) : Int) = wd xs 8 := by
      rw [e]; simp only [sizeO, if_true]; rw [ws_len, List.length_drop]; omega
    unfold encO
    rw [es, e]
    simp only [if_true]
    rw [← h5, take12 h1 hy, allB_ws (wd xs 8).toNat _ (by rw [List.length_drop]; omega) (hy.drop 12), List.take_append_drop]
  · have e : rdO xs = ⟨wd xs 0, wd xs 4, [], xs.drop 12⟩ := by unfold rdO; rw [if_neg (by omega)]
    have es : (sizeO (rdO xs) : Int) = wd xs 8 := by
      rw [e]; simp only [sizeO, h5]; simp; omega
    unfold encO
    rw [es, e]
    rw [take12 h1 hy, if_neg (by show ¬ wd xs 4 = 1; omega), List.take_append_drop]

theorem rd_same_len {xs ys : List Int} (hx : decB xs = true) (hy : decB ys = true) (e1 : wd xs 4 = wd ys 4) (e2 : wd xs 8 = wd ys 8) : xs.length = ys.length := by
  obtain ⟨_, _, _, _, h⟩ := dec_parts hx
  obtain ⟨_, _, _, _, g⟩ := dec_parts hy
  omega
theorem dec_cut {xs : List Int} (h : decB xs = true) (k : Nat) (hk : k < xs.length) : decB (xs.take k) = false := by
  cases hd : decB (xs.take k) with
  | false => rfl
  | true =>
    have h1 := (dec_parts hd).1
    have h2 : (xs.take k).length = k := by rw [List.length_take]; omega
    have := rd_same_len hd h (wd_take _ _ _ (by omega)) (wd_take _ _ _ (by omega))
    omega
theorem dec_more {xs : List Int} (h : decB xs = true) (m : Int) : decB (xs ++ [m]) = false := by
  cases hd : decB (xs ++ [m]) with
  | false => rfl
  | true =>
    have h1 := (dec_parts h).1
    have := rd_same_len hd h (wd_pre _ _ _ (by omega)) (wd_pre _ _ _ (by omega))
    simp at this
end Go.Proofs.YtccpmaahnfgkeaaGreatDoor.Wd

/- What the functions that compare and copy rows of numbers and bytes do: slices.Equal, slices.Clone, and the laws' own SameInts, Same and Copy. No condition but those that each statement names. -/
namespace Go.Proofs.YtccpmaahnfgkeaaGreatDoor.Wd
open Go.RowKit
set_option maxRecDepth 1000000

theorem below_drewN (B : Nat) (w : World) (n : Nat) : Below B w (w.drewN n) := ⟨rfl, rfl, rfl, Nat.le_refl _, fun _ _ => rfl⟩

/-- A row of bytes, of numbers, as it lies in memory: with its room. -/
def RowB (w : World) (v : Value) (xs : List Int) : Prop := Bts w v xs ∧ ByL xs ∧ ∃ a c, v = .slice a xs.length c ∧ xs.length ≤ c
def I64 (l : List Int) : Prop := ∀ n ∈ l, -9223372036854775808 ≤ n ∧ n ≤ 9223372036854775807
def RowI (w : World) (v : Value) (xs : List Int) : Prop := Ints w v xs ∧ I64 xs ∧ ∃ a c, v = .slice a xs.length c ∧ xs.length ≤ c
theorem RowB.kept {w w' : World} {v : Value} {xs : List Int} (h : RowB w v xs) (hb : Below w.heap.size w w') : RowB w' v xs := ⟨h.1.kept hb, h.2⟩
theorem RowI.kept {w w' : World} {v : Value} {xs : List Int} (h : RowI w v xs) (hb : Below w.heap.size w w') : RowI w' v xs := ⟨h.1.kept hb, h.2⟩
theorem own_ints {w : World} {base : Nat} {v : Value} {xs : List Int} (h : w.ownsRow base 3 1 v xs.length (xs.map (Value.int .i64))) : Ints w v xs := by
  rcases h.2 with ⟨rfl, hn⟩ | ⟨g, cap, cur, rfl, _, hg, hnc, _, hcs, htake⟩
  · obtain rfl : xs = [] := List.eq_nil_of_length_eq_zero hn
    exact ⟨none, 0, rfl, .inl rfl⟩
  · refine ⟨_, cap, rfl, .inr ⟨g, 0, rfl, fun i hi => ?_⟩⟩
    have hc := h.cells (g := g) rfl i (.int .i64 (xs.getD i 0)) (by simp [List.getElem?_eq_getElem hi, List.getD])
    have ha : (⟨g, 0, none⟩ : Addr).add i = ⟨g, 0 + i, none⟩ := by unfold Addr.add; split <;> simp_all
    rw [ha] at hc
    exact hc
theorem own_room {w : World} {base n : Nat} {e : TypeId} {v : Value} {xs : List Value} (h : w.ownsRow base e 1 v n xs) : ∃ a c, v = .slice a n c ∧ n ≤ c := by
  rcases h.2 with ⟨rfl, hn⟩ | ⟨g, cap, cur, rfl, _, _, hnc, _⟩
  · exact ⟨none, 0, by rw [hn], by omega⟩
  · exact ⟨_, cap, rfl, hnc⟩
theorem RowB.own {w : World} {base : Nat} {v : Value} {xs : List Int} (h : w.ownsRow base 5 1 v xs.length (xs.map (Value.int .u8))) (hy : ByL xs) : RowB w v xs := ⟨own_bts h, hy, own_room h⟩
theorem RowI.own {w : World} {base : Nat} {v : Value} {xs : List Int} (h : w.ownsRow base 3 1 v xs.length (xs.map (Value.int .i64))) (hy : I64 xs) : RowI w v xs := ⟨own_ints h, hy, own_room h⟩

theorem take_snoc {xs ys : List Int} {k : Nat} (h1 : k < xs.length) (h2 : k < ys.length) (e : xs.take k = ys.take k) (g : xs.getD k 0 = ys.getD k 0) : xs.take (k + 1) = ys.take (k + 1) := by
  rw [List.take_succ_eq_append_getElem h1, List.take_succ_eq_append_getElem h2, e]
  simp only [List.getD, List.getElem?_eq_getElem h1, List.getElem?_eq_getElem h2] at g
  rw [show xs[k] = ys[k] from g]
theorem same_full {xs ys : List Int} (hl : xs.length = ys.length) (e : xs.take xs.length = ys.take xs.length) : xs = ys := by
  rw [List.take_length, hl, List.take_length] at e; exact e

def Said (b : Bool) (w : World) (e : Ending) (w' : World) : Prop := e = .returned (.bool b) ∧ ∃ d, w' = w.drewN d
theorem Said.below {b : Bool} {w w' : World} {e : Ending} (h : Said b w e w') : e = .returned (.bool b) ∧ Below w.heap.size w w' := by
  obtain ⟨h, d, rfl⟩ := h; exact ⟨h, below_drewN _ _ _⟩


set_option maxHeartbeats 1000000 in
theorem sameInts_any (v1 v2 : Value) (xs ys : List Int) (w : World) (h1 : Ints w v1 xs) (h2 : Ints w v2 ys) (hl1 : xs.length ≤ 1000000) :
    Calls Tryz.prog 20 #[v1, v2] w (Said (decide (xs = ys)) w) := by
  obtain ⟨a1, c1, rfl, h1⟩ := h1
  obtain ⟨a2, c2, rfl, h2⟩ := h2
  have H1 := Lib.hid h1
  have H2 := Lib.hid h2
  clear h1 h2
  by_cases hne : xs.length = ys.length
  · have HE := Lib.hid hne
    rw [← hne]
    clear hne
    go_enter Tryz.func20, Tryz.ntmps20
    go_wp2
    go_loopw [5] (fun s5 wx => ∃ k d : Nat, k ≤ xs.length ∧ s5 = .int .i64 k ∧ wx = w.drewN d ∧ xs.take k = ys.take k) (fun i _ => xs.length - (intOf i).toNat)
    case atStart => exact ⟨0, 0, Nat.zero_le _, rfl, rfl, rfl⟩
    case round =>
      obtain ⟨k, d, hk, rfl, hw, ht⟩ := hrel
      have HT := Lib.hid ht
      clear ht
      by_cases hlt : k < xs.length
      · have he := HE.out
        have hn1 : xs ≠ [] := fun e => by subst e; simp at hlt
        have hn2 : ys ≠ [] := fun e => by rw [e] at he; rw [he] at hlt; simp at hlt
        obtain ⟨b1, o1, rfl, q1⟩ := H1.out.resolve_left hn1
        obtain ⟨b2, o2, rfl, q2⟩ := H2.out.resolve_left hn2
        have r1 : wr.cell? ⟨b1, o1 + k, none⟩ = some (.int .i64 (xs.getD k 0)) := by rw [hw]; exact q1 k hlt
        have r2 : wr.cell? ⟨b2, o2 + k, none⟩ = some (.int .i64 (ys.getD k 0)) := by rw [hw]; exact q2 k (by omega)
        have hlt' : (k : Int) < xs.length := by omega
        have HW := Lib.hid hw
        clear hw q1 q2 hn1 hn2 he
        by_cases hg : xs.getD k 0 = ys.getD k 0
        · have HG := Lib.hid hg
          rw [← hg] at r2
          clear hg
          generalize xs.getD k 0 = z at r1 r2
          go_wp2
          go_quiet (fail)
          go_wp2
          go_roundw
          case rel => exact ⟨k + 1, d + nq, by omega, by go_num, by rw [HW.out, World.drewN_drewN], take_snoc hlt (by have := HE.out; omega) HT.out HG.out⟩
          case measure => simp [intOf]; omega
        · have HX := Lib.hid (show xs ≠ ys from fun e => hg (by rw [e]))
          have hz : (xs.getD k 0 != ys.getD k 0) = true := by simpa using hg
          clear hg
          generalize xs.getD k 0 = z at r1 hz
          generalize ys.getD k 0 = z2 at r2 hz
          go_wp2
          go_quiet (fail)
          go_wp2
          go_ret
          refine ⟨?_, d + nq, by rw [HW.out, World.drewN_drewN]⟩
          have := HX.out
          simp [this]
      · have HW := Lib.hid hw
        clear hw
        obtain rfl : k = xs.length := by omega
        go_wp2
        go_ret
        have : xs = ys := same_full HE.out HT.out
        exact ⟨by simp [this], d, HW.out⟩
  · have h3 : ((xs.length : Int) != ys.length) = true := by rw [bne_iff_ne]; omega
    have h4 : (xs.length != ys.length) = true := by simpa using hne
    have HN := Lib.hid hne
    clear hne
    go_enter Tryz.func20, Tryz.ntmps20
    go_wp2
    go_ret
    have : xs ≠ ys := fun e => HN.out (by rw [e])
    exact ⟨by simp [this], 0, rfl⟩
end Go.Proofs.YtccpmaahnfgkeaaGreatDoor.Wd

/- What slices.Clone, and the laws' own Same, Copy and Spoil do. No condition but those that each statement names. -/
namespace Go.Proofs.YtccpmaahnfgkeaaGreatDoor.Wd
open Go.ChangeShapes Go.WideShapes Go.ChangeAt Go.RowKit
set_option maxRecDepth 1000000

theorem nums_inj : ∀ {xs ys : List Int}, ByL xs → ByL ys → (xs.map fun n => UInt8.ofNat n.toNat) = (ys.map fun n => UInt8.ofNat n.toNat) → xs = ys
  | [], [], _, _, _ => rfl
  | [], _ :: _, _, _, h => by simp at h
  | _ :: _, [], _, _, h => by simp at h
  | x :: xs, y :: ys, hx, hy, h => by
    simp only [List.map_cons, List.cons.injEq] at h
    have h1 := hx x (by simp)
    have h2 := hy y (by simp)
    have h3 := congrArg UInt8.toNat h.1
    simp only [UInt8.toNat_ofNat'] at h3
    have : x = y := by omega
    rw [this, nums_inj (fun n hn => hx n (by simp [hn])) (fun n hn => hy n (by simp [hn])) h.2]
theorem str_neB {xs ys : List Int} (hx : ByL xs) (hy : ByL ys) (h : xs ≠ ys) : ((strOfNums xs).toList == (strOfNums ys).toList) = false := by
  rw [beq_eq_false_iff_ne, ByteArray.toList_eq, ByteArray.toList_eq]
  exact fun e => h (nums_inj hx hy e)
theorem same_any (v1 v2 : Value) (xs ys : List Int) (w : World) (h1 : Bts w v1 xs) (h2 : Bts w v2 ys) (hx : ByL xs) (hy : ByL ys) :
    Calls Tryz.prog 35 #[v1, v2] w fun e w' => e = .returned (.bool (decide (xs = ys))) ∧ w = w' := by
  by_cases he : xs = ys
  · subst he
    simp only [decide_true]
    exact same_eq v1 v2 xs w h1 h2
  · have c1 := conv_bts h1
    have c2 := conv_bts h2
    have hq := str_neB hx hy he
    simp only [he, decide_false]
    clear h1 h2
    go_enter Tryz.func35, Tryz.ntmps35
    go_wp2
    go_ret
    exact ⟨rfl, rfl⟩

theorem Tryz.info3 : (Tryz.prog.info? 3).map (fun i => (i.zero, i.size, i.bytes)) = some (some (.int .i64 0), 1, 8) := by kernel_rfl

/-- What gives new bytes, or new numbers, or none. -/
def GaveB (xs : List Int) (w : World) (e : Ending) (w' : World) : Prop := ∃ v, e = .returned v ∧ w'.ownsRow w.heap.size 5 1 v xs.length (xs.map (Value.int .u8)) ∧ Below w.heap.size w w'
def GaveI (xs : List Int) (w : World) (e : Ending) (w' : World) : Prop := ∃ v, e = .returned v ∧ w'.ownsRow w.heap.size 3 1 v xs.length (xs.map (Value.int .i64)) ∧ Below w.heap.size w w'


set_option maxHeartbeats 1000000 in
theorem cloneB_any (v : Value) (xs : List Int) (w : World) (hv : Bts w v xs) (hl : xs.length ≤ 1000000) :
    Calls Tryz.prog 66 #[v] w (GaveB xs w) := by
  obtain ⟨i0, hi, hz0, hz1, hz2⟩ := info_parts Tryz.info5
  obtain ⟨a, c, rfl, h⟩ := hv
  rcases a with _ | ⟨b, off, spot⟩
  · have h0 : xs = [] := by
      rcases h with h | ⟨b, off, ha, _⟩
      · exact h
      · cases ha
    subst h0
    have hq := Lib.run_eql_slice_nil (P := Tryz.prog) w 33 5 none 0 c 0 0 Tryz.underlying33
    go_enter Tryz.func66, Tryz.ntmps66
    go_wp2
    go_ret
    exact ⟨_, rfl, World.ownsRow_nil _ _ _ _, Below.refl _ _⟩
  · have hsrc : Hid (∀ (o : Obj) j u, (xs.map (Value.int .u8))[j]? = some u → (w.alloc o).cell? ((⟨b, off, spot⟩ : Addr).add j) = some u) := by
      rcases h with rfl | ⟨b', off', ha, h⟩
      · intro o j u hu; simp at hu
      · injection ha with ha
        injection ha with e1 e2 e3
        subst e1 e2 e3
        intro o j u hu
        have hj : j < xs.length := by
          have := (List.getElem?_eq_some_iff.1 hu).1; simpa using this
        have hu' : u = .int .u8 (xs.getD j 0) := by
          rw [List.getElem?_map, List.getElem?_eq_getElem hj] at hu
          simp [List.getD, List.getElem?_eq_getElem hj] at hu ⊢
          exact hu.symm
        rw [add_plain, hu', World.cell?_alloc_lt _ _ _ (World.block_lt_of_cell? _ _ (h j hj))]
        exact h j hj
    clear h
    have hq := Lib.run_eql_slice_nil (P := Tryz.prog) w 33 5 (some ⟨b, off, spot⟩) xs.length c 0 0 Tryz.underlying33
    go_enter Tryz.func66, Tryz.ntmps66
    go_wp2_with (at_builtin; refine wpList_append_own _ rfl _ _ 33 rfl w.heap.size 5 i0 (.int .u8 0) 1 1 Tryz.underlying33 hi hz0 hz1 hz2 rfl (by decide) _ 0 [] rfl ?c0 ⟨b, off, spot⟩ xs.length c (xs.map (Value.int .u8)) rfl (by simp) ?c1 ?c2 ?c3 ?c4 ?c5 ?_)
    case c0 => exact World.ownsRow_lit w #[] 0 (Nat.le_refl _) (by decide) rfl
    case c1 => exact hsrc.out _
    case c2 => intro u hu; simp at hu; obtain ⟨x, _, rfl⟩ := hu; rfl
    case c3 => unfold maxLen; omega
    case c4 => omega
    case c5 => simp
    intro v' w1 hown' hgrow _
    have hb : Below w.heap.size w w1 := ((Below.refl _ _).alloc (Nat.le_refl _) _).grown hgrow (by simp) (fun k hk => by simp [Value.ownBlock] at hk; omega)
    have HO := Lib.hid hown'
    have HB := Lib.hid hb
    clear hown' hgrow hb
    go_wp2
    go_ret
    exact ⟨v', rfl, by simpa using HO.out, HB.out⟩

set_option maxHeartbeats 1000000 in
theorem copy_any (v : Value) (xs : List Int) (w : World) (hv : Bts w v xs) (hl : xs.length ≤ 1000000) :
    Calls Tryz.prog 60 #[v] w (GaveB xs w) := by
  obtain ⟨i0, hi, hz0, hz1, hz2⟩ := info_parts Tryz.info5
  obtain ⟨a, c, rfl, h⟩ := hv
  rcases a with _ | ⟨b, off, spot⟩
  · have h0 : xs = [] := by
      rcases h with h | ⟨b, off, ha, _⟩
      · exact h
      · cases ha
    subst h0
    have hr : ∀ ty, (Builtin.append_ #[33, 33] ty #[.slice none 0 0, .slice none 0 c]).run Tryz.prog w = .ok (.slice none 0 0) w := fun ty => by
      simp [Builtin.append_, run_underlying Tryz.underlying33, sizeOf, typeInfo, hi, Builtin.lenOf, Builtin.firstCells]
    go_enter Tryz.func60, Tryz.ntmps60
    go_wp2
    go_ret
    exact ⟨_, rfl, World.ownsRow_nil _ _ _ _, Below.refl _ _⟩
  · have hsrc : Hid (∀ j u, (xs.map (Value.int .u8))[j]? = some u → w.cell? ((⟨b, off, spot⟩ : Addr).add j) = some u) := by
      rcases h with rfl | ⟨b', off', ha, h⟩
      · intro j u hu; simp at hu
      · injection ha with ha
        injection ha with e1 e2 e3
        subst e1 e2 e3
        intro j u hu
        have hj : j < xs.length := by
          have := (List.getElem?_eq_some_iff.1 hu).1; simpa using this
        have hu' : u = .int .u8 (xs.getD j 0) := by
          rw [List.getElem?_map, List.getElem?_eq_getElem hj] at hu
          simp [List.getD, List.getElem?_eq_getElem hj] at hu ⊢
          exact hu.symm
        rw [add_plain, hu']
        exact h j hj
    clear h
    go_enter Tryz.func60, Tryz.ntmps60
    go_wp2_with (at_builtin; refine wpList_append_own _ rfl _ _ 33 rfl w.heap.size 5 i0 (.int .u8 0) 1 1 Tryz.underlying33 hi hz0 hz1 hz2 rfl (by decide) _ 0 [] rfl ?c0 ⟨b, off, spot⟩ xs.length c (xs.map (Value.int .u8)) rfl (by simp) ?c1 ?c2 ?c3 ?c4 ?c5 ?_)
    case c0 => exact World.ownsRow_nil _ _ _ _
    case c1 => exact hsrc.out
    case c2 => intro u hu; simp at hu; obtain ⟨x, _, rfl⟩ := hu; rfl
    case c3 => unfold maxLen; omega
    case c4 => omega
    case c5 => simp
    intro v' w1 hown' hgrow _
    have hb : Below w.heap.size w w1 := (Below.refl _ _).grown hgrow (by simp) (fun k hk => by simp [Value.ownBlock] at hk)
    have HO := Lib.hid hown'
    have HB := Lib.hid hb
    clear hown' hgrow hb
    go_wp2
    go_ret
    exact ⟨v', rfl, by simpa using HO.out, HB.out⟩
end Go.Proofs.YtccpmaahnfgkeaaGreatDoor.Wd

/- Which words may stand in an object: the program's test and the chapter's, and the search for one that may not. -/
namespace Go.Proofs.YtccpmaahnfgkeaaGreatDoor.Wd
open Go.ChangeShapes Go.WideShapes Go.ChangeAt Go.RowKit
set_option maxRecDepth 1000000

theorem ret_b {x y : Bool} (h : x = y) : Ending.returned (.bool x) = .returned (.bool y) := by rw [h]
set_option maxHeartbeats 400000 in
theorem valid_any (v : Int) (w : World) (h1 : -9223372036854775808 ≤ v) (h2 : v ≤ 9223372036854775807) :
    Calls Tryz.prog 81 #[.int .i64 v] w fun e w' => e = .returned (.bool (valB v)) ∧ w = w' := by
  have e : valB v = (numB v || namB v) := rfl
  rw [e]
  have HA := Lib.hid (number_any v · h1 h2)
  have HB := Lib.hid (named_any v · h1 h2)
  generalize numB v = p at HA
  generalize namB v = q at HB
  generalize numV v = x at HA
  generalize namV v = y at HB
  clear e
  go_enter Tryz.func81, Tryz.ntmps81
  go_wp2_with fail
  refine (HA.out _).mono ?_
  rintro e w1 ⟨rfl, rfl⟩
  go_wp2_with fail
  refine (HB.out _).mono ?_
  rintro e w1 ⟨rfl, rfl⟩
  cases p
  · go_wp2
    go_ret
    exact ⟨rfl, rfl⟩
  · go_wp2
    go_ret
    exact ⟨rfl, rfl⟩

theorem check1_any (v : Int) (w : World) (h1 : -9223372036854775808 ≤ v) (h2 : v ≤ 9223372036854775807) :
    Calls Tryz.prog 80 #[.int .i64 v] w fun e w' => e = .returned (.bool (!valB v)) ∧ w = w' := by
  have HA := Lib.hid (valid_any v · h1 h2)
  generalize valB v = p at HA
  go_enter Tryz.func80, Tryz.ntmps80
  go_wp2_with fail
  refine (HA.out _).mono ?_
  rintro e w1 ⟨rfl, rfl⟩
  go_wp2
  go_ret
  exact ⟨rfl, rfl⟩

theorem take_all {xs : List Int} {k : Nat} (hk : k < xs.length) (h : (xs.take k).all valB = true) (g : valB (xs.getD k 0) = true) : (xs.take (k + 1)).all valB = true := by
  rw [List.take_succ_eq_append_getElem hk, List.all_append, h]
  simp only [List.getD, List.getElem?_eq_getElem hk, Option.getD_some] at g
  simp [g]
theorem not_all {xs : List Int} {k : Nat} (hk : k < xs.length) (g : valB (xs.getD k 0) = false) : xs.all valB = false := by
  simp only [List.getD, List.getElem?_eq_getElem hk, Option.getD_some] at g
  rw [List.all_eq_false]
  exact ⟨_, List.getElem_mem hk, by simp [g]⟩
theorem I64.at_ {xs : List Int} (h : I64 xs) (k : Nat) : -9223372036854775808 ≤ xs.getD k 0 ∧ xs.getD k 0 ≤ 9223372036854775807 := by
  by_cases hk : k < xs.length
  · simp only [List.getD, List.getElem?_eq_getElem hk, Option.getD_some]; exact h _ (List.getElem_mem hk)
  · simp only [List.getD, List.getElem?_eq_none (Nat.le_of_not_lt hk), Option.getD_none]; omega

abbrev pv : Value := .func (.func 80) #[] #[]
def Idx (b : Bool) (w : World) (e : Ending) (w' : World) : Prop := ∃ i : Int, e = .returned (.int .i64 i) ∧ decide (0 ≤ i) = b ∧ -1 ≤ i ∧ w = w'

set_option maxHeartbeats 1000000 in
theorem idx_any (v : Value) (xs : List Int) (w : World) (hv : Ints w v xs) (h6 : I64 xs) (hl : xs.length ≤ 1000000) :
    Calls Tryz.prog 108 #[v, pv] w (Idx (!xs.all valB) w) := by
  obtain ⟨a, c, rfl, h⟩ := hv
  have H := Lib.hid h
  have H6 := Lib.hid h6
  clear h h6
  go_enter Tryz.func108, Tryz.ntmps108
  go_wp2
  go_loop [8] (fun i => ∃ k : Nat, k ≤ xs.length ∧ i = .int .i64 k ∧ (xs.take k).all valB = true) (fun i => xs.length - (intOf i).toNat)
  case atStart => exact ⟨0, by omega, rfl, rfl⟩
  case round =>
    obtain ⟨k, hk, rfl, ht⟩ := hrel
    have HT := Lib.hid ht
    clear ht
    by_cases hlt : k < xs.length
    · have hn1 : xs ≠ [] := fun e => by subst e; simp at hlt
      obtain ⟨b1, o1, rfl, q1⟩ := H.out.resolve_left hn1
      have r1 := q1 k hlt
      clear q1 hn1
      have HI := Lib.hid (H6.out.at_ k)
      cases hg : valB (xs.getD k 0) with
      | true =>
        have HG := Lib.hid hg
        have HC := Lib.hid (fun w => check1_any (xs.getD k 0) w HI.out.1 HI.out.2)
        rw [hg] at HC
        clear hg
        generalize xs.getD k 0 = z at r1 HC
        go_wp2_with fail
        refine (HC.out _).mono ?_
        rintro e w1 ⟨rfl, rfl⟩
        go_wp2
        refine ⟨⟨k + 1, by omega, by go_num, take_all hlt HT.out HG.out⟩, by simp [intOf]; omega⟩
      | false =>
        have HG := Lib.hid hg
        have HC := Lib.hid (fun w => check1_any (xs.getD k 0) w HI.out.1 HI.out.2)
        rw [hg] at HC
        clear hg
        generalize xs.getD k 0 = z at r1 HC
        go_wp2_with fail
        refine (HC.out _).mono ?_
        rintro e w1 ⟨rfl, rfl⟩
        go_wp2
        go_ret
        refine ⟨k, rfl, ?_, by omega, rfl⟩
        rw [not_all hlt HG.out]
        simp
    · obtain rfl : k = xs.length := by omega
      go_wp2
      go_ret
      refine ⟨-1, rfl, ?_, by omega, rfl⟩
      have := HT.out
      rw [List.take_length] at this
      rw [this]; rfl

set_option maxHeartbeats 400000 in
theorem contains_any (v : Value) (xs : List Int) (w : World) (hv : Ints w v xs) (h6 : I64 xs) (hl : xs.length ≤ 1000000) :
    Calls Tryz.prog 79 #[v, pv] w fun e w' => e = .returned (.bool (!xs.all valB)) ∧ w = w' := by
  have HC := Lib.hid (fun w hv => idx_any v xs w hv h6 hl)
  have HV := Lib.hid hv
  obtain ⟨a, c, rfl, _⟩ := hv
  generalize (!xs.all valB) = q at HC
  go_enter Tryz.func79, Tryz.ntmps79
  go_wp2_with fail
  refine (HC.out _ HV.out).mono ?_
  rintro e w1 ⟨i, rfl, hq, hi, rfl⟩
  have HQ := Lib.hid hq
  clear hq
  go_wp2
  go_ret
  exact ⟨ret_b HQ.out, rfl⟩

set_option maxHeartbeats 400000 in
theorem ref_any (v : Int) (w : World) (h1 : -9223372036854775808 ≤ v) (h2 : v ≤ 9223372036854775807) :
    Calls Tryz.prog 89 #[.int .i64 v] w fun e w' => e = .returned (.bool (valB v)) ∧ w = w' := by
  by_cases hp : v % 2 = 0
  · have ht := tmod2_even hp
    have hv : ∀ b : Bool, (b = true ↔ 0 < v ∧ v < 2147483648) → b = valB v := fun b hb => by
      rw [Bool.eq_iff_iff, hb]
      simp only [valB, numB, namB, Bool.or_eq_true, decide_eq_true_eq]
      omega
    have HV := Lib.hid hv
    clear hv
    go_enter Tryz.func89, Tryz.ntmps89
    go_wp2
    all_goals go_ret
    all_goals exact ⟨ret_b (HV.out _ (by simp <;> omega)), rfl⟩
  · have ht := tmod2_neq (o := v) (by omega)
    have ht2 := tmod2_odd (o := v) (by omega)
    have hv : ∀ b : Bool, (b = true ↔ -2147483647 ≤ v ∧ v ≤ 2147483647) → b = valB v := fun b hb => by
      rw [Bool.eq_iff_iff, hb]
      simp only [valB, numB, namB, Bool.or_eq_true, decide_eq_true_eq]
      omega
    have HV := Lib.hid hv
    clear hv
    go_enter Tryz.func89, Tryz.ntmps89
    go_wp2
    all_goals go_ret
    all_goals exact ⟨ret_b (HV.out _ (by simp <;> omega)), rfl⟩
end Go.Proofs.YtccpmaahnfgkeaaGreatDoor.Wd

/- What Check and Size of package wide, and the chapter's Check, return of any object, and the laws' own 'long'. -/
namespace Go.Proofs.YtccpmaahnfgkeaaGreatDoor.Wd
open Go.ChangeShapes Go.WideShapes Go.ChangeAt Go.RowKit
set_option maxRecDepth 1000000

def In64 (n : Int) : Prop := -9223372036854775808 ≤ n ∧ n ≤ 9223372036854775807
/-- The value v is the object o, in the world w. -/
def ObjAt (w : World) (v : Value) (o : Ob) : Prop := ∃ wv bv, v = .agg #[.int .i64 o.c, .int .i64 o.k, wv, bv] ∧ RowI w wv o.w ∧ RowB w bv o.b ∧ In64 o.c ∧ In64 o.k
theorem ObjAt.kept {w w' : World} {v : Value} {o : Ob} (h : ObjAt w v o) (hb : Below w.heap.size w w') : ObjAt w' v o := by
  obtain ⟨wv, bv, rfl, h1, h2, h3⟩ := h
  exact ⟨wv, bv, rfl, h1.kept hb, h2.kept hb, h3⟩
def Short (o : Ob) : Prop := o.w.length ≤ 1000000 ∧ o.b.length ≤ 1000000

def SizePost (n : Nat) (w : World) (e : Ending) (w' : World) : Prop := e = .returned (.int .i64 n) ∧ Below w.heap.size w w'
set_option maxHeartbeats 400000 in
theorem size_any (v : Value) (o : Ob) (w : World) (h : ObjAt w v o) :
    Calls Tryz.prog 51 #[v] w (SizePost (sizeO o) w) := by
  obtain ⟨wv, bv, rfl, ⟨_, _, a1, c1, rfl, _⟩, ⟨_, _, a2, c2, rfl, _⟩, _, _⟩ := h
  obtain ⟨c, k, l, b⟩ := o
  simp only
  by_cases h1 : k = 1
  · subst h1
    go_enter Tryz.func51, Tryz.ntmps51
    go_wp2
    go_ret
    exact ⟨rfl, (Below.refl _ _).alloc (Nat.le_refl _) _⟩
  by_cases h2 : k = 2
  · subst h2
    go_enter Tryz.func51, Tryz.ntmps51
    go_wp2
    go_ret
    exact ⟨rfl, (Below.refl _ _).alloc (Nat.le_refl _) _⟩
  · have e1 : (k == 1) = false := by simpa using h1
    have e2 : (k == 2) = false := by simpa using h2
    go_enter Tryz.func51, Tryz.ntmps51
    go_wp2
    go_ret
    refine ⟨?_, (Below.refl _ _).alloc (Nat.le_refl _) _⟩
    simp [sizeO, h1, h2]

def ChkPost (o : Ob) (w : World) (e : Ending) (w' : World) : Prop := e = .returned (.int .i64 (chk o)) ∧ Below w.heap.size w w'
theorem chk_no {o : Ob} (h : okO o = false) : (2 : Int) = chk o := by simp [chk, h]
theorem chk_yes {o : Ob} (h : okO o = true) : (0 : Int) = chk o := by simp [chk, h]

theorem box_cells {w w1 : World} {x y z u : Value} (hb : Below (w.alloc (.cells #[x, y, z, u] 35)).heap.size (w.alloc (.cells #[x, y, z, u] 35)) w1) :
    w1.cell? ⟨w.heap.size, 0, none⟩ = some x ∧ w1.cell? ⟨w.heap.size, 1, none⟩ = some y ∧ w1.cell? ⟨w.heap.size, 2, none⟩ = some z ∧ w1.cell? ⟨w.heap.size, 3, none⟩ = some u := by
  refine ⟨?_, ?_, ?_, ?_⟩
  all_goals
    rw [hb.cell (by simp), World.cell?_alloc_at _ _ _ _ rfl]
    rfl

set_option maxHeartbeats 1000000 in
theorem check_all (v : Value) (o : Ob) (w : World) (h : ObjAt w v o) :
    Calls Tryz.prog 49 #[v] w (ChkPost o w) := by
  have HO := Lib.hid h
  have HZ := Lib.hid (fun w' v' h => size_any v' o w' h)
  obtain ⟨wv, bv, rfl, hw, hb, hc, _⟩ := h
  have HW := Lib.hid hw.1
  obtain ⟨_, h6, a1, c1, rfl, _⟩ := hw
  obtain ⟨_, _, a2, c2, rfl, _⟩ := hb
  have HN := Lib.hid (fun w => named_any o.c w hc.1 hc.2)
  cases hn : namB o.c with
  | false =>
    have HE := Lib.hid (chk_no (o := o) (by simp [okO, hn]))
    rw [hn] at HN
    generalize namV o.c = y at HN
    clear hn h6 hc HO HZ HW
    go_enter Tryz.func49, Tryz.ntmps49
    go_wp2_with fail
    refine (HN.out _).mono ?_
    rintro e w1 ⟨rfl, rfl⟩
    go_wp2
    go_ret
    exact ⟨ret_i HE.out, (Below.refl _ _).alloc (Nat.le_refl _) _⟩
  | true =>
  have HB := Lib.hid hn
  rw [hn] at HN
  generalize namV o.c = y at HN
  clear hn hc
  by_cases hz : 1000 < sizeO o
  · have HE := Lib.hid (chk_no (o := o) (by
      cases he : okO o with
      | false => rfl
      | true => have := size_le he; omega))
    have hz' : (1000 : Int) < sizeO o := by omega
    generalize sizeO o = n at HZ hz hz'
    clear h6 HW
    go_enter Tryz.func49, Tryz.ntmps49
    go_wp2_with fail
    refine (HN.out _).mono ?_
    rintro e w1 ⟨rfl, rfl⟩
    go_wp2_with fail
    refine (HZ.out _ _ (HO.out.kept ((Below.refl _ _).alloc (Nat.le_refl _) _))).mono ?_
    rintro e w1 ⟨rfl, hb1⟩
    obtain ⟨b0, b1, b2, b3⟩ := box_cells hb1
    have HB1 := Lib.hid (((Below.refl _ _).alloc (Nat.le_refl _) _).trans (hb1.mono (by simp)) : Below w.heap.size w w1)
    clear hb1
    go_wp2
    go_ret
    exact ⟨ret_i HE.out, HB1.out⟩
  have hz' : ¬ (1000 : Int) < sizeO o := by omega
  have HN0 := Lib.hid hz
  generalize sizeO o = n at HZ hz hz'
  obtain ⟨c, k, l, b⟩ := o
  simp only at *
  by_cases h1 : k = 1
  · subst h1
    have h3 : l.length ≤ 1000 := by have := HN0.out; simp only [sizeO, if_true] at this; omega
    by_cases hb0 : b = []
    · subst hb0
      have HC := Lib.hid (fun w hv => contains_any (.slice a1 l.length c1) l w hv h6 (by omega))
      cases hq : l.all valB with
      | true =>
        have HE := Lib.hid (chk_yes (o := ⟨c, 1, l, []⟩) (by simp [okO, HB.out, h3, hq]))
        rw [hq] at HC
        clear hq h6
        go_enter Tryz.func49, Tryz.ntmps49
        go_wp2_with fail
        refine (HN.out _).mono ?_
        rintro e w1 ⟨rfl, rfl⟩
        go_wp2_with fail
        refine (HZ.out _ _ (HO.out.kept ((Below.refl _ _).alloc (Nat.le_refl _) _))).mono ?_
        rintro e w1 ⟨rfl, hb1⟩
        obtain ⟨b0, b1, b2, b3⟩ := box_cells hb1
        have HB1 := Lib.hid (((Below.refl _ _).alloc (Nat.le_refl _) _).trans (hb1.mono (by simp)) : Below w.heap.size w w1)
        clear hb1
        go_wp2_with fail
        refine (HC.out _ (HW.out.kept HB1.out)).mono ?_
        rintro e w2 ⟨rfl, rfl⟩
        go_wp2
        go_ret
        exact ⟨ret_i HE.out, HB1.out⟩
      | false =>
        have HE := Lib.hid (chk_no (o := ⟨c, 1, l, []⟩) (by simp [okO, HB.out, h3, hq]))
        rw [hq] at HC
        clear hq h6
        go_enter Tryz.func49, Tryz.ntmps49
        go_wp2_with fail
        refine (HN.out _).mono ?_
        rintro e w1 ⟨rfl, rfl⟩
        go_wp2_with fail
        refine (HZ.out _ _ (HO.out.kept ((Below.refl _ _).alloc (Nat.le_refl _) _))).mono ?_
        rintro e w1 ⟨rfl, hb1⟩
        obtain ⟨b0, b1, b2, b3⟩ := box_cells hb1
        have HB1 := Lib.hid (((Below.refl _ _).alloc (Nat.le_refl _) _).trans (hb1.mono (by simp)) : Below w.heap.size w w1)
        clear hb1
        go_wp2_with fail
        refine (HC.out _ (HW.out.kept HB1.out)).mono ?_
        rintro e w2 ⟨rfl, rfl⟩
        go_wp2
        go_ret
        exact ⟨ret_i HE.out, HB1.out⟩
    · have HE := Lib.hid (chk_no (o := ⟨c, 1, l, b⟩) (by simp [okO, hb0]))
      have hq : (b.length == 0) = false := by simpa using hb0
      have hq2 : ((b.length : Int) == 0) = false := by rw [beq_eq_false_iff_ne]; have : b.length ≠ 0 := by simpa using hb0
                                                       omega
      clear h6 hb0
      go_enter Tryz.func49, Tryz.ntmps49
      go_wp2_with fail
      refine (HN.out _).mono ?_
      rintro e w1 ⟨rfl, rfl⟩
      go_wp2_with fail
      refine (HZ.out _ _ (HO.out.kept ((Below.refl _ _).alloc (Nat.le_refl _) _))).mono ?_
      rintro e w1 ⟨rfl, hb1⟩
      obtain ⟨b0, b1, b2, b3⟩ := box_cells hb1
      have HB1 := Lib.hid (((Below.refl _ _).alloc (Nat.le_refl _) _).trans (hb1.mono (by simp)) : Below w.heap.size w w1)
      clear hb1
      go_wp2
      go_ret
      exact ⟨ret_i HE.out, HB1.out⟩
  by_cases h2 : k = 2
  · subst h2
    have h3 : b.length ≤ 1000 := by have := HN0.out; simp [sizeO] at this; omega
    by_cases hb0 : l = []
    · subst hb0
      have HE := Lib.hid (chk_yes (o := ⟨c, 2, [], b⟩) (by simp [okO, HB.out, h3]))
      clear h6
      go_enter Tryz.func49, Tryz.ntmps49
      go_wp2_with fail
      refine (HN.out _).mono ?_
      rintro e w1 ⟨rfl, rfl⟩
      go_wp2_with fail
      refine (HZ.out _ _ (HO.out.kept ((Below.refl _ _).alloc (Nat.le_refl _) _))).mono ?_
      rintro e w1 ⟨rfl, hb1⟩
      obtain ⟨b0, b1, b2, b3⟩ := box_cells hb1
      have HB1 := Lib.hid (((Below.refl _ _).alloc (Nat.le_refl _) _).trans (hb1.mono (by simp)) : Below w.heap.size w w1)
      clear hb1
      go_wp2
      go_ret
      exact ⟨ret_i HE.out, HB1.out⟩
    · have HE := Lib.hid (chk_no (o := ⟨c, 2, l, b⟩) (by simp [okO, hb0]))
      have hq : (l.length == 0) = false := by simpa using hb0
      have hq2 : ((l.length : Int) == 0) = false := by rw [beq_eq_false_iff_ne]; have : l.length ≠ 0 := by simpa using hb0
                                                       omega
      clear h6 hb0
      go_enter Tryz.func49, Tryz.ntmps49
      go_wp2_with fail
      refine (HN.out _).mono ?_
      rintro e w1 ⟨rfl, rfl⟩
      go_wp2_with fail
      refine (HZ.out _ _ (HO.out.kept ((Below.refl _ _).alloc (Nat.le_refl _) _))).mono ?_
      rintro e w1 ⟨rfl, hb1⟩
      obtain ⟨b0, b1, b2, b3⟩ := box_cells hb1
      have HB1 := Lib.hid (((Below.refl _ _).alloc (Nat.le_refl _) _).trans (hb1.mono (by simp)) : Below w.heap.size w w1)
      clear hb1
      go_wp2
      go_ret
      exact ⟨ret_i HE.out, HB1.out⟩
  · have HE := Lib.hid (chk_no (o := ⟨c, k, l, b⟩) (by simp [okO, h1, h2]))
    have e1 : (k == 1) = false := by simpa using h1
    have e2 : (k == 2) = false := by simpa using h2
    clear h6
    go_enter Tryz.func49, Tryz.ntmps49
    go_wp2_with fail
    refine (HN.out _).mono ?_
    rintro e w1 ⟨rfl, rfl⟩
    go_wp2_with fail
    refine (HZ.out _ _ (HO.out.kept ((Below.refl _ _).alloc (Nat.le_refl _) _))).mono ?_
    rintro e w1 ⟨rfl, hb1⟩
    obtain ⟨b0, b1, b2, b3⟩ := box_cells hb1
    have HB1 := Lib.hid (((Below.refl _ _).alloc (Nat.le_refl _) _).trans (hb1.mono (by simp)) : Below w.heap.size w w1)
    clear hb1
    go_wp2
    go_ret
    exact ⟨ret_i HE.out, HB1.out⟩
theorem check_any (v : Value) (o : Ob) (w : World) (h : ObjAt w v o) (_ : Short o) : Calls Tryz.prog 49 #[v] w (ChkPost o w) := check_all v o w h
end Go.Proofs.YtccpmaahnfgkeaaGreatDoor.Wd

/- What the chapter's Check returns of any object, and the laws' own 'long'. -/
namespace Go.Proofs.YtccpmaahnfgkeaaGreatDoor.Wd
open Go.ChangeShapes Go.WideShapes Go.ChangeAt Go.RowKit
set_option maxRecDepth 1000000

def Far (o : Ob) : Prop := o.w.length ≤ 9223372036854775807 ∧ o.b.length ≤ 9223372036854775807
def longO (o : Ob) : Bool := decide (1200 < o.w.length ∨ 1200 < o.b.length)
set_option maxHeartbeats 1000000 in
theorem refcheck_any (v : Value) (o : Ob) (w : World) (h : ObjAt w v o) (hs : Far o) :
    Calls Tryz.prog 55 #[v] w (ChkPost o w) := by
  obtain ⟨wv, bv, rfl, hw, hb, hc, _⟩ := h
  obtain ⟨⟨a1, c1, rfl, hr⟩, h6, _, _, _, _⟩ := hw
  obtain ⟨_, _, a2, c2, rfl, _⟩ := hb
  have HR := Lib.hid hr
  have H6 := Lib.hid h6
  have HN := Lib.hid (fun w => named_ref o.c w hc.1 hc.2)
  obtain ⟨hs1, hs2⟩ := hs
  obtain ⟨c, k, l, b⟩ := o
  simp only at *
  clear hr h6 hc
  cases hn : namB c with
  | false =>
    have HE := Lib.hid (chk_no (o := ⟨c, k, l, b⟩) (by simp [okO, hn]))
    rw [hn] at HN
    generalize namV c = y at HN
    clear hn
    go_enter Tryz.func55, Tryz.ntmps55
    go_wp2_with fail
    refine (HN.out _).mono ?_
    rintro e w1 ⟨rfl, rfl⟩
    go_wp2
    go_ret
    exact ⟨ret_i HE.out, (Below.refl _ _).alloc (Nat.le_refl _) _⟩
  | true =>
  have HB := Lib.hid hn
  rw [hn] at HN
  generalize namV c = y at HN
  clear hn
  by_cases hk : k ≠ 1 ∧ k ≠ 2
  · have HE := Lib.hid (chk_no (o := ⟨c, k, l, b⟩) (by simp [okO, hk.1, hk.2]))
    have e1 : (k != 1) = true := by simpa using hk.1
    have e2 : (k != 2) = true := by simpa using hk.2
    clear hk
    go_enter Tryz.func55, Tryz.ntmps55
    go_wp2_with fail
    refine (HN.out _).mono ?_
    rintro e w1 ⟨rfl, rfl⟩
    go_wp2
    go_ret
    exact ⟨ret_i HE.out, (Below.refl _ _).alloc (Nat.le_refl _) _⟩
  have hk : k = 1 ∨ k = 2 := by omega
  by_cases hl : 1000 < l.length
  · have HE := Lib.hid (chk_no (o := ⟨c, k, l, b⟩) (by
      have : l ≠ [] := fun e => by subst e; simp at hl
      simp [okO, this]; omega))
    have hl' : (1000 : Int) < l.length := by omega
    rcases hk with rfl | rfl
    · skip
      go_enter Tryz.func55, Tryz.ntmps55
      go_wp2_with fail
      refine (HN.out _).mono ?_
      rintro e w1 ⟨rfl, rfl⟩
      go_wp2
      go_ret
      exact ⟨ret_i HE.out, (Below.refl _ _).alloc (Nat.le_refl _) _⟩
    · skip
      go_enter Tryz.func55, Tryz.ntmps55
      go_wp2_with fail
      refine (HN.out _).mono ?_
      rintro e w1 ⟨rfl, rfl⟩
      go_wp2
      go_ret
      exact ⟨ret_i HE.out, (Below.refl _ _).alloc (Nat.le_refl _) _⟩
  have hl' : ¬ (1000 : Int) < l.length := by omega
  by_cases hb : 1000 < b.length
  · have HE := Lib.hid (chk_no (o := ⟨c, k, l, b⟩) (by
      have : b ≠ [] := fun e => by subst e; simp at hb
      simp [okO, this]; omega))
    have hb' : (1000 : Int) < b.length := by omega
    rcases hk with rfl | rfl
    · skip
      go_enter Tryz.func55, Tryz.ntmps55
      go_wp2_with fail
      refine (HN.out _).mono ?_
      rintro e w1 ⟨rfl, rfl⟩
      go_wp2
      go_ret
      exact ⟨ret_i HE.out, (Below.refl _ _).alloc (Nat.le_refl _) _⟩
    · skip
      go_enter Tryz.func55, Tryz.ntmps55
      go_wp2_with fail
      refine (HN.out _).mono ?_
      rintro e w1 ⟨rfl, rfl⟩
      go_wp2
      go_ret
      exact ⟨ret_i HE.out, (Below.refl _ _).alloc (Nat.le_refl _) _⟩
  have hb' : ¬ (1000 : Int) < b.length := by omega
  by_cases hbad : (k = 1 ∧ b ≠ []) ∨ (k = 2 ∧ l ≠ [])
  · rcases hbad with ⟨rfl, h0⟩ | ⟨rfl, h0⟩
    · have HE := Lib.hid (chk_no (o := ⟨c, 1, l, b⟩) (by simp [okO, h0]))
      have h3 : 0 < b.length := List.length_pos_iff.2 h0
      have h3' : (0 : Int) < b.length := by omega
      clear h0
      go_enter Tryz.func55, Tryz.ntmps55
      go_wp2_with fail
      refine (HN.out _).mono ?_
      rintro e w1 ⟨rfl, rfl⟩
      go_wp2
      go_ret
      exact ⟨ret_i HE.out, (Below.refl _ _).alloc (Nat.le_refl _) _⟩
    · have HE := Lib.hid (chk_no (o := ⟨c, 2, l, b⟩) (by simp [okO, h0]))
      have h3 : 0 < l.length := List.length_pos_iff.2 h0
      have h3' : (0 : Int) < l.length := by omega
      clear h0
      go_enter Tryz.func55, Tryz.ntmps55
      go_wp2_with fail
      refine (HN.out _).mono ?_
      rintro e w1 ⟨rfl, rfl⟩
      go_wp2
      go_ret
      exact ⟨ret_i HE.out, (Below.refl _ _).alloc (Nat.le_refl _) _⟩
  rcases hk with rfl | rfl
  · obtain rfl : b = [] := by
      cases b with
      | nil => rfl
      | cons x r => exact absurd (.inl ⟨rfl, by simp⟩) hbad
    have HY := Lib.hid (fun hq : l.all valB = true => chk_yes (o := ⟨c, 1, l, []⟩) ((okO_iff _).2 ⟨HB.out, .inl ⟨rfl, rfl, by show l.length ≤ 1000; omega, List.all_eq_true.1 hq⟩⟩))
    have HX := Lib.hid (fun hq : l.all valB = false => chk_no (o := ⟨c, 1, l, []⟩) (by simp only [okO, hq]; simp))
    clear hbad hb hb'
    go_enter Tryz.func55, Tryz.ntmps55
    go_wp2_with fail
    refine (HN.out _).mono ?_
    rintro e w1 ⟨rfl, rfl⟩
    go_wp2
    go_loop [5] (fun i => ∃ j : Nat, j ≤ l.length ∧ i = .int .i64 j ∧ (l.take j).all valB = true) (fun i => l.length - (intOf i).toNat)
    case atStart => exact ⟨0, by omega, rfl, rfl⟩
    case round =>
      obtain ⟨j, hj, rfl, ht⟩ := hrel
      have HT := Lib.hid ht
      clear ht
      by_cases hlt : j < l.length
      · have hn1 : l ≠ [] := fun e => by subst e; simp at hlt
        obtain ⟨b1, o1, rfl, q1⟩ := HR.out.resolve_left hn1
        have r0 := q1 j hlt
        have hlw := World.block_lt_of_cell? _ _ r0
        have r1 := (World.cell?_alloc_lt w (.cells #[.int .i64 c, .int .i64 1, .slice (some ⟨b1, o1, none⟩) l.length c1, .slice a2 0 c2] 35) _ hlw).trans r0
        clear q1 hn1 r0
        have HI := Lib.hid (H6.out.at_ j)
        cases hg : valB (l.getD j 0) with
        | true =>
          have HG := Lib.hid hg
          have HC := Lib.hid (fun w => ref_any (l.getD j 0) w HI.out.1 HI.out.2)
          rw [hg] at HC
          clear hg
          generalize l.getD j 0 = z at r1 HC
          go_wp2_with fail
          refine (HC.out _).mono ?_
          rintro e w1 ⟨rfl, rfl⟩
          go_wp2
          refine ⟨⟨j + 1, by omega, by go_num, take_all hlt HT.out HG.out⟩, by simp [intOf]; omega⟩
        | false =>
          have HG := Lib.hid hg
          have HC := Lib.hid (fun w => ref_any (l.getD j 0) w HI.out.1 HI.out.2)
          rw [hg] at HC
          clear hg
          generalize l.getD j 0 = z at r1 HC
          go_wp2_with fail
          refine (HC.out _).mono ?_
          rintro e w1 ⟨rfl, rfl⟩
          go_wp2
          go_ret
          exact ⟨ret_i (HX.out (not_all hlt HG.out)), (Below.refl _ _).alloc (Nat.le_refl _) _⟩
      · obtain rfl : j = l.length := by omega
        go_wp2
        go_ret
        have hq := HT.out
        rw [List.take_length] at hq
        exact ⟨ret_i (HY.out hq), (Below.refl _ _).alloc (Nat.le_refl _) _⟩
  · obtain rfl : l = [] := by
      cases l with
      | nil => rfl
      | cons x r => exact absurd (.inr ⟨rfl, by simp⟩) hbad
    have HE := Lib.hid (chk_yes (o := ⟨c, 2, [], b⟩) (by simp [okO, HB.out]; omega))
    clear hbad hl hl'
    go_enter Tryz.func55, Tryz.ntmps55
    go_wp2_with fail
    refine (HN.out _).mono ?_
    rintro e w1 ⟨rfl, rfl⟩
    go_wp2
    go_loop [5] (fun i => i = .int .i64 0) (fun _ => 0)
    case atStart => rfl
    case round =>
      subst hrel
      go_wp2
      go_ret
      exact ⟨ret_i HE.out, (Below.refl _ _).alloc (Nat.le_refl _) _⟩
end Go.Proofs.YtccpmaahnfgkeaaGreatDoor.Wd

/- What Encode of package wide returns of any object: its bytes, in new memory, or the error. -/
namespace Go.Proofs.YtccpmaahnfgkeaaGreatDoor.Wd
open Go.ChangeShapes Go.WideShapes Go.ChangeAt Go.RowKit
set_option maxRecDepth 1000000

theorem size_form (c k : Int) (l b : List Int) (a1 a2 : Option Addr) (c1 c2 : Nat) (w : World) :
    Calls Tryz.prog 51 #[.agg #[.int .i64 c, .int .i64 k, .slice a1 l.length c1, .slice a2 b.length c2]] w (SizePost (sizeO ⟨c, k, l, b⟩) w) := by
  by_cases h1 : k = 1
  · subst h1
    go_enter Tryz.func51, Tryz.ntmps51
    go_wp2
    go_ret
    exact ⟨rfl, (Below.refl _ _).alloc (Nat.le_refl _) _⟩
  by_cases h2 : k = 2
  · subst h2
    go_enter Tryz.func51, Tryz.ntmps51
    go_wp2
    go_ret
    exact ⟨rfl, (Below.refl _ _).alloc (Nat.le_refl _) _⟩
  · have e1 : (k == 1) = false := by simpa using h1
    have e2 : (k == 2) = false := by simpa using h2
    go_enter Tryz.func51, Tryz.ntmps51
    go_wp2
    go_ret
    refine ⟨?_, (Below.refl _ _).alloc (Nat.le_refl _) _⟩
    simp [sizeO, h1, h2]

/-- What Encode gives: the bytes, in new memory, and no error; or the error. -/
def EncYes (xs : List Int) (w : World) (e : Ending) (w' : World) : Prop :=
  ∃ v, e = .returned (.tuple #[v, .int .i64 0]) ∧ w'.ownsRow w.heap.size 5 1 v xs.length (xs.map (Value.int .u8)) ∧ Below w.heap.size w w'
def EncNo (w : World) (e : Ending) (w' : World) : Prop := e = .returned (.tuple #[.slice none 0 0, .int .i64 2]) ∧ Below w.heap.size w w'

theorem chk_is {o : Ob} (h : okO o = true) : chk o = 0 := by simp [chk, h]
theorem chk_not {o : Ob} (h : okO o = false) : chk o = 2 := by simp [chk, h]

set_option maxHeartbeats 1000000 in
theorem encode_not (v : Value) (o : Ob) (w : World) (h : ObjAt w v o) (hok : okO o = false) :
    Calls Tryz.prog 26 #[v] w (EncNo w) := by
  have HO := Lib.hid h
  have HC := Lib.hid (fun w' h' => check_all v o w' h')
  obtain ⟨wv, bv, rfl, _⟩ := h
  go_enter Tryz.func26, Tryz.ntmps26
  go_wp2_with fail
  refine (HC.out _ (HO.out.kept ((Below.refl _ _).alloc (Nat.le_refl _) _))).mono ?_
  rintro e w1 ⟨rfl, hb1⟩
  rw [chk_not hok]
  have HB1 := Lib.hid (((Below.refl _ _).alloc (Nat.le_refl _) _).trans (hb1.mono (by simp)) : Below w.heap.size w w1)
  clear hb1
  go_wp2
  go_ret2
  exact ⟨rfl, HB1.out⟩

theorem encode_no (v : Value) (o : Ob) (w : World) (h : ObjAt w v o) (_ : Short o) (hok : okO o = false) : Calls Tryz.prog 26 #[v] w (EncNo w) := encode_not v o w h hok
theorem ints3 (w : World) (x y z : Int) : Ints (w.alloc (.cells #[.int .i64 x, .int .i64 y, .int .i64 z] 3)) (.slice (some ⟨w.heap.size, 0, none⟩) 3 3) [x, y, z] := by
  refine ⟨_, _, rfl, .inr ⟨_, _, rfl, fun i hi => ?_⟩⟩
  rw [World.cell?_alloc_at _ _ _ _ rfl]
  match i, hi with
  | 0, _ => rfl
  | 1, _ => rfl
  | 2, _ => rfl

theorem wpList_append_eq {P : Program} (w : World) {ops : Array Oper} {rest : List Oper} {o : Oper} {a : Act} {Q : Exit → Act → World → Prop} (hg : o.guard = none) (s x : Operand) (t : TypeId)
    (hop : o.op = Op.call { callee := Callee.builtin Builtin.append, args := #[s, x], argTypes := #[t, t] }) (vs vx v' : Value) (w' : World) (hs : a.eval s = vs) (hx : a.eval x = vx)
    (hrun : (Builtin.append_ #[t, t] o.type #[vs, vx]).run P w = .ok v' w') (hK : wpList P ops Q rest (a.put o.dst v') w') : wpList P ops Q (o :: rest) a w := by
  refine wpList_plain hg fun K hK' => ?_
  unfold Oper.wp
  simp [execOp, hop, resolve, invoke, builtin, hs, hx, hrun, Result.andThen]
  exact hK' _ _ hK

theorem append_nil_run {w : World} {base n : Nat} {v : Value} {xs : List Value} (hown : w.ownsRow base 5 1 v n xs) (c : Nat) (ty : TypeId) :
    (Builtin.append_ #[33, 33] ty #[v, .slice none 0 c]).run Tryz.prog w = .ok v w := by
  obtain ⟨i0, hi, hz0, hz1, hz2⟩ := info_parts Tryz.info5
  rcases hown.2 with ⟨rfl, h0⟩ | ⟨g, cap, cur, rfl, hb, hg, hn, _⟩
  · simp [Builtin.append_, run_underlying Tryz.underlying33, sizeOf, typeInfo, hi, Builtin.lenOf, Builtin.firstCells]
  · have := run_append_room_src (P := Tryz.prog) (w := w) 33 33 ty 5 i0 Tryz.underlying33 hi g 0 n cap (.slice none 0 c) 0 [] (Src.ofNil _ Tryz.underlying33 c) (by omega) (by simp) (by simp)
    simpa [World.setCells] using this

/-- append(b, x...) where b is one's own and x is any row of bytes. -/
theorem append_bts {ops : Array Oper} {rest : List Oper} {o : Oper} {a : Act} {Q : Exit → Act → World → Prop} {w : World} (hgd : o.guard = none) (s x : Operand)
    (ho : o.op = .call { callee := .builtin .append, args := #[s, x], argTypes := #[33, 33] }) (base : Nat) (v : Value) (xs : List Int) (hs : a.eval s = v)
    (hown : w.ownsRow base 5 1 v xs.length (xs.map (Value.int .u8))) (vx : Value) (ys : List Int) (hx : a.eval x = vx) (hb : Bts w vx ys) (hl : xs.length + ys.length ≤ 1000000) (hbase : base ≤ w.heap.size)
    (h : ∀ v' w', w'.ownsRow base 5 1 v' (xs ++ ys).length ((xs ++ ys).map (Value.int .u8)) → Below base w w' → wpList Tryz.prog ops Q rest (a.put o.dst v') w') : wpList Tryz.prog ops Q (o :: rest) a w := by
  obtain ⟨i0, hi, hz0, hz1, hz2⟩ := info_parts Tryz.info5
  obtain ⟨a', c, rfl, hb⟩ := hb
  rcases a' with _ | ⟨b, off, spot⟩
  · have h0 : ys = [] := by
      rcases hb with h | ⟨b, off, ha, _⟩
      · exact h
      · cases ha
    subst h0
    refine wpList_append_eq w hgd s x 33 ho v _ v w hs hx (append_nil_run hown c _) (h v w ?_ (Below.refl _ _))
    rw [List.append_nil]; exact hown
  · refine wpList_append_own _ hgd s x 33 ho base 5 i0 (.int .u8 0) 1 1 Tryz.underlying33 hi hz0 hz1 hz2 rfl (by decide) v _ _ hs hown ⟨b, off, spot⟩ ys.length c (ys.map (Value.int .u8)) hx (by simp) ?_ ?_ ?_ (by omega) hbase ?_
    · rcases hb with rfl | ⟨b', off', ha, hb⟩
      · intro j u hu; simp at hu
      · injection ha with ha
        injection ha with e1 e2 e3
        subst e1 e2 e3
        intro j u hu
        have hj : j < ys.length := by
          have := (List.getElem?_eq_some_iff.1 hu).1; simpa using this
        have hu' : u = .int .u8 (ys.getD j 0) := by
          rw [List.getElem?_map, List.getElem?_eq_getElem hj] at hu
          simp [List.getD, List.getElem?_eq_getElem hj] at hu ⊢
          exact hu.symm
        rw [add_plain, hu']
        exact hb j hj
    · intro u hu; simp at hu; obtain ⟨x, _, rfl⟩ := hu; rfl
    · unfold maxLen; omega
    · intro v' w' h1 h2 _
      refine h v' w' ?_ ((Below.refl _ _).grown h2 hbase fun g hg => (hown.lt g hg).1)
      rw [List.length_append, List.map_append]; exact h1

theorem own_kept {w w' : World} {base n : Nat} {e : TypeId} {v : Value} {xs : List Value} (h : w.ownsRow base e 1 v n xs) (hb : Below w.heap.size w w') : w'.ownsRow base e 1 v n xs :=
  ⟨h.1, h.2.imp id fun ⟨g, cap, cur, h1, h2, h3, h4⟩ => ⟨g, cap, cur, h1, h2, (hb.block g (Array.getElem?_eq_some_iff.1 h3).1).trans h3, h4⟩⟩
theorem own_down {w : World} {base base' n : Nat} {e : TypeId} {v : Value} {xs : List Value} (h : w.ownsRow base e 1 v n xs) (hb : base' ≤ base) : w.ownsRow base' e 1 v n xs :=
  ⟨h.1, h.2.imp id fun ⟨g, cap, cur, h1, h2, h3⟩ => ⟨g, cap, cur, h1, Nat.le_trans hb h2, h3⟩⟩

set_option maxHeartbeats 2000000 in
theorem encode_yes (v : Value) (o : Ob) (w : World) (h : ObjAt w v o) (hok : okO o = true) :
    Calls Tryz.prog 26 #[v] w (EncYes (encO o) w) := by
  obtain ⟨i0, hi, hz0, hz1, hz2⟩ := info_parts Tryz.info5
  have hs : Short o := by
    obtain ⟨_, ⟨_, hb, hl, _⟩ | ⟨_, hl, hb⟩⟩ := (okO_iff o).1 hok
    · exact ⟨by omega, by rw [hb]; simp⟩
    · exact ⟨by rw [hl]; simp, by omega⟩
  have HO := Lib.hid h
  have HC := Lib.hid (fun w' h' => check_any v o w' h' hs)
  obtain ⟨wv, bv, rfl, hw, hb, _⟩ := h
  have HW := Lib.hid hw
  have HB := Lib.hid hb
  obtain ⟨_, _, a1, c1, rfl, _⟩ := hw
  obtain ⟨_, _, a2, c2, rfl, _⟩ := hb
  go_enter Tryz.func26, Tryz.ntmps26
  go_wp2_with fail
  refine (HC.out _ (HO.out.kept ((Below.refl _ _).alloc (Nat.le_refl _) _))).mono ?_
  rintro e w1 ⟨rfl, hb1⟩
  rw [chk_is hok]
  obtain ⟨b0, b1, b2, b3⟩ := box_cells hb1
  have HB1 := Lib.hid (((Below.refl _ _).alloc (Nat.le_refl _) _).trans (hb1.mono (by simp)) : Below w.heap.size w w1)
  clear hb1
  generalize hp : w.heap.size = p at b0 b1 b2 b3
  have HP := Lib.hid hp
  clear hp
  have HOK := Lib.hid hok
  clear hok
  obtain ⟨c, k, l, b⟩ := o
  simp only at *
  have HZ := Lib.hid (fun w => size_form c k l b a1 a2 c1 c2 w)
  generalize hn : sizeO ⟨c, k, l, b⟩ = n at HZ
  have HNs := Lib.hid hn
  clear hn hs
  have HA : Hid (∀ (x y z : Int) (w : World), Calls Tryz.prog 50 #[.slice (some ⟨w.heap.size, 0, none⟩) 3 3] (w.alloc (.cells #[.int .i64 x, .int .i64 y, .int .i64 z] 3)) (Wrote (w.alloc (.cells #[.int .i64 x, .int .i64 y, .int .i64 z] 3)).heap.size (w.alloc (.cells #[.int .i64 x, .int .i64 y, .int .i64 z] 3)) (allB [x, y, z]))) := fun x y z w =>
    all_any _ [x, y, z] _ (ints3 w x y z) (by simp)
  have HK : Hid (∀ (wa wb : World), Below wa.heap.size wa wb → (wa.cell? ⟨p, 0, none⟩ = some (.int .i64 c) ∧ wa.cell? ⟨p, 1, none⟩ = some (.int .i64 k) ∧ wa.cell? ⟨p, 2, none⟩ = some (.slice a1 l.length c1) ∧ wa.cell? ⟨p, 3, none⟩ = some (.slice a2 b.length c2)) → (wb.cell? ⟨p, 0, none⟩ = some (.int .i64 c) ∧ wb.cell? ⟨p, 1, none⟩ = some (.int .i64 k) ∧ wb.cell? ⟨p, 2, none⟩ = some (.slice a1 l.length c1) ∧ wb.cell? ⟨p, 3, none⟩ = some (.slice a2 b.length c2))) := fun wa wb hb ⟨h1, h2, h3, h4⟩ =>
    ⟨(hb.cell (World.block_lt_of_cell? _ _ h1)).trans h1, (hb.cell (World.block_lt_of_cell? _ _ h2)).trans h2, (hb.cell (World.block_lt_of_cell? _ _ h3)).trans h3, (hb.cell (World.block_lt_of_cell? _ _ h4)).trans h4⟩
  have HK2 : Hid (∀ (o : Obj) (wa wb : World), Below (wa.alloc o).heap.size (wa.alloc o) wb → (wa.cell? ⟨p, 0, none⟩ = some (.int .i64 c) ∧ wa.cell? ⟨p, 1, none⟩ = some (.int .i64 k) ∧ wa.cell? ⟨p, 2, none⟩ = some (.slice a1 l.length c1) ∧ wa.cell? ⟨p, 3, none⟩ = some (.slice a2 b.length c2)) → (wb.cell? ⟨p, 0, none⟩ = some (.int .i64 c) ∧ wb.cell? ⟨p, 1, none⟩ = some (.int .i64 k) ∧ wb.cell? ⟨p, 2, none⟩ = some (.slice a1 l.length c1) ∧ wb.cell? ⟨p, 3, none⟩ = some (.slice a2 b.length c2))) := fun o wa wb hb h =>
    HK.out _ _ (((Below.refl _ _).alloc (Nat.le_refl _) _).trans (hb.mono (by simp))) h
  go_wp2
  go_region_held3 (fun w' => w'.cell? ⟨p, 0, none⟩ = some (.int .i64 c) ∧ w'.cell? ⟨p, 1, none⟩ = some (.int .i64 k) ∧ w'.cell? ⟨p, 2, none⟩ = some (.slice a1 l.length c1) ∧ w'.cell? ⟨p, 3, none⟩ = some (.slice a2 b.length c2)) (first | go_keep | (exact HK.out _ _ hb5 (by assumption)) | (exact HK.out _ _ hb6 (by assumption)) | (exact HK2.out _ _ _ hb6 (by assumption))) (first | (go_at_call 51; refine (HZ.out _).mono ?_; rintro e w5 ⟨rfl, hb5⟩) | (go_at_call 50; refine (HA.out _ _ _ _).mono ?_; rintro e w6 ⟨v6, rfl, hv6, hb6⟩))
  have hd : Below w1.heap.size w1 w1.drew := below_drewN _ _ 1
  have s1 := HB1.out.size
  have B5 : Below w.heap.size w w5 := (HB1.out.trans (hd.mono s1)).trans (hb5.mono s1)
  have s5 := B5.size
  have B6 : Below w.heap.size w w6 := (B5.alloc s5 _).trans (hb6.mono (by simp; omega))
  have s6 := B6.size
  have O6 := own_down hv6 (show w.heap.size ≤ _ by simp; omega)
  have hc : ∀ (j : Nat) (u : Value), w1.cell? ⟨p, j, none⟩ = some u → w6.cell? ⟨p, j, none⟩ = some u := fun j u hu => by
    have l1 : p < w1.heap.size := World.block_lt_of_cell? _ _ hu
    have h5 := (hb5.cell (p := ⟨p, j, none⟩) l1).trans hu
    have l5 : p < w5.heap.size := World.block_lt_of_cell? _ _ h5
    exact (hb6.cell (p := ⟨p, j, none⟩) (by simp; omega)).trans ((World.cell?_alloc_lt _ _ _ l5).trans h5)
  have d0 := hc 0 _ b0
  have d1 := hc 1 _ b1
  have d2 := hc 2 _ b2
  have d3 := hc 3 _ b3
  have HB6 := Lib.hid B6
  have HO6 := Lib.hid O6
  have HL6 := Lib.hid (show (allB [c, k, (n : Int)]).length = 12 by rw [allB_len]; rfl)
  clear hc b0 b1 b2 b3 hv6 hb6 hb5 O6 B6 B5 hd
  generalize hal : allB [c, k, (n : Int)] = al at HO6 HL6
  have HAL := Lib.hid hal
  clear hal
  by_cases h1 : k = 1
  · subst h1
    have hl : l.length ≤ 1000 := by
      rcases ((okO_iff _).1 HOK.out).2 with ⟨_, _, h, _⟩ | ⟨h, _⟩
      · exact h
      · exact absurd h (show ¬ (1 : Int) = 2 by decide)
    have HE := Lib.hid (show encO ⟨c, 1, l, b⟩ = al ++ allB l by unfold encO; rw [HNs.out, HAL.out]; rfl)
    have HLL := Lib.hid (allB_len l)
    go_wp2_with fail
    refine (all_any _ l _ ((HW.out.1.kept HB6.out)) hl).mono ?_
    rintro e w7 ⟨v7, rfl, hv7, hb7⟩
    have HB7 := Lib.hid hb7
    have HV7 := Lib.hid hv7
    have O7 := own_kept HO6.out hb7
    clear hv7 hb7
    go_wp2_with (at_builtin; refine append_bts rfl _ _ rfl w.heap.size _ al rfl O7 _ (allB l) rfl (own_bts HV7.out) ?c3 ?c4 ?_)
    case c3 => rw [HL6.out, HLL.out]; omega
    case c4 => have := HB7.out.size; omega
    intro v8 w8 hv8 hb8
    have HV8 := Lib.hid hv8
    have HB8 := Lib.hid hb8
    clear hv8 hb8 O7
    go_wp2
    go_ret2
    refine ⟨_, rfl, ?_, (HB6.out.trans (HB7.out.mono s6)).trans HB8.out⟩
    rw [HE.out, List.length_append, List.map_append]; exact HV8.out
  · obtain ⟨hk, hbl⟩ : k = 2 ∧ b.length ≤ 1000 := by
      rcases ((okO_iff _).1 HOK.out).2 with ⟨h, _⟩ | ⟨h, _, h'⟩
      · exact absurd h h1
      · exact ⟨h, h'⟩
    subst hk
    have HE := Lib.hid (show encO ⟨c, 2, l, b⟩ = al ++ b by unfold encO; rw [HNs.out, HAL.out]; rfl)
    have O7 := HO6.out
    go_wp2_with (at_builtin; refine append_bts rfl _ _ rfl w.heap.size _ al rfl O7 _ b rfl (HB.out.1.kept HB6.out) ?c3 ?c4 ?_)
    case c3 => rw [HL6.out]; omega
    case c4 => omega
    intro v8 w8 hv8 hb8
    have HV8 := Lib.hid hv8
    have HB8 := Lib.hid hb8
    clear hv8 hb8 O7
    go_wp2
    go_ret2
    refine ⟨_, rfl, ?_, HB6.out.trans HB8.out⟩
    rw [HE.out, List.length_append, List.map_append]; exact HV8.out
end Go.Proofs.YtccpmaahnfgkeaaGreatDoor.Wd

/- What the chapter's Encode returns of any object: its bytes, in new memory, or the error. -/
namespace Go.Proofs.YtccpmaahnfgkeaaGreatDoor.Wd
open Go.ChangeShapes Go.WideShapes Go.ChangeAt Go.RowKit
set_option maxRecDepth 1000000

set_option maxHeartbeats 1000000 in
theorem refencode_no (v : Value) (o : Ob) (w : World) (h : ObjAt w v o) (hs : Far o) (hok : okO o = false) :
    Calls Tryz.prog 28 #[v] w (EncNo w) := by
  have HO := Lib.hid h
  have HC := Lib.hid (fun w' h' => refcheck_any v o w' h' hs)
  obtain ⟨wv, bv, rfl, _⟩ := h
  go_enter Tryz.func28, Tryz.ntmps28
  go_wp2_with fail
  refine (HC.out _ (HO.out.kept ((Below.refl _ _).alloc (Nat.le_refl _) _))).mono ?_
  rintro e w1 ⟨rfl, hb1⟩
  rw [chk_not hok]
  have HB1 := Lib.hid (((Below.refl _ _).alloc (Nat.le_refl _) _).trans (hb1.mono (by simp)) : Below w.heap.size w w1)
  clear hb1
  go_wp2
  go_ret2
  exact ⟨rfl, HB1.out⟩

/-- The box that holds the argument, in a later world. -/
def Bx (p : Nat) (x y z u : Value) (w : World) : Prop := w.cell? ⟨p, 0, none⟩ = some x ∧ w.cell? ⟨p, 1, none⟩ = some y ∧ w.cell? ⟨p, 2, none⟩ = some z ∧ w.cell? ⟨p, 3, none⟩ = some u
theorem Bx.kept {p : Nat} {x y z u : Value} {w w' : World} {B : Nat} (h : Bx p x y z u w) (hb : Below B w w') (hp : p < B) : Bx p x y z u w' :=
  ⟨(hb.cell (p := ⟨p, 0, none⟩) hp).trans h.1, (hb.cell (p := ⟨p, 1, none⟩) hp).trans h.2.1, (hb.cell (p := ⟨p, 2, none⟩) hp).trans h.2.2.1, (hb.cell (p := ⟨p, 3, none⟩) hp).trans h.2.2.2⟩
theorem own_eq {w : World} {base n n' : Nat} {e : TypeId} {v : Value} {l l' : List Value} (h : w.ownsRow base e 1 v n l) (hn : n' = n) (hl : l' = l) : w.ownsRow base e 1 v n' l' := by rw [hn, hl]; exact h
theorem enc_ref {o : Ob} (h : okO o = true) : encO o = byts o.c 4 ++ byts o.k 4 ++ byts ((o.w.length : Int) + o.b.length) 4 ++ allB o.w ++ o.b := by
  have e3 : ∀ x y z : Int, allB [x, y, z] = byts x 4 ++ byts y 4 ++ byts z 4 := fun x y z => by simp [allB]
  obtain ⟨c, k, l, b⟩ := o
  unfold encO
  obtain ⟨_, ⟨hk, hb, _⟩ | ⟨hk, hl, _⟩⟩ := (okO_iff _).1 h
  · simp only at hk hb
    subst hk hb
    simp [sizeO, e3]
  · simp only at hk hl
    subst hk hl
    simp [sizeO, allB]

set_option maxHeartbeats 2000000 in
theorem refencode_yes (v : Value) (o : Ob) (w : World) (h : ObjAt w v o) (hok : okO o = true) :
    Calls Tryz.prog 28 #[v] w (EncYes (encO o) w) := by
  have hq : o.w.length ≤ 1000 ∧ o.b.length ≤ 1000 := by
    obtain ⟨_, ⟨_, hb, hl, _⟩ | ⟨_, hl, hb⟩⟩ := (okO_iff o).1 hok
    · exact ⟨by omega, by rw [hb]; simp⟩
    · exact ⟨by rw [hl]; simp, by omega⟩
  have hs : Far o := ⟨by omega, by omega⟩
  have HO := Lib.hid h
  have HC := Lib.hid (fun w' h' => refcheck_any v o w' h' hs)
  obtain ⟨wv, bv, rfl, hw, hb, _⟩ := h
  have HW := Lib.hid hw
  have HB := Lib.hid hb
  obtain ⟨_, _, a1, c1, rfl, _⟩ := hw
  obtain ⟨_, _, a2, c2, rfl, _⟩ := hb
  rw [enc_ref hok]
  go_enter Tryz.func28, Tryz.ntmps28
  go_wp2_with fail
  refine (HC.out _ (HO.out.kept ((Below.refl _ _).alloc (Nat.le_refl _) _))).mono ?_
  rintro e w1 ⟨rfl, hb1⟩
  rw [chk_is hok]
  have X1 : Hid (Bx w.heap.size _ _ _ _ w1) := box_cells hb1
  have B1 := Lib.hid (((Below.refl _ _).alloc (Nat.le_refl _) _).trans (hb1.mono (by simp)) : Below w.heap.size w w1)
  have P1 : Hid (w.heap.size < w1.heap.size) := by have := hb1.size; simp at this; exact (by omega : w.heap.size < w1.heap.size)
  clear hb1 hok hs
  generalize hp : w.heap.size = p at *
  obtain ⟨c, k, l, b⟩ := o
  simp only at *
  obtain ⟨hq1, hq2⟩ := hq
  have LC := Lib.hid (byts_len c 4)
  have LK := Lib.hid (byts_len k 4)
  have LS := Lib.hid (byts_len ((l.length : Int) + b.length) 4)
  have LL := Lib.hid (allB_len l)
  obtain ⟨e0_1, e1_1, e2_1, e3_1⟩ := X1.out
  go_wp2_with fail
  refine (put_ref c _).mono ?_
  rintro e w2 ⟨v2, rfl, hv2, hb2⟩
  have B2 : Hid (Below p w w2) := B1.out.trans (hb2.mono (by have := P1.out; omega))
  have X2 : Hid (Bx p _ _ _ _ w2) := X1.out.kept hb2 P1.out
  have P2 : Hid (p < w2.heap.size) := Nat.lt_of_lt_of_le P1.out hb2.size
  have V2 := Lib.hid (own_down hv2 (show p + 1 ≤ _ from P1.out))
  clear hv2 hb2
  clear e0_1 e1_1 e2_1 e3_1
  obtain ⟨e0_2, e1_2, e2_2, e3_2⟩ := X2.out
  go_wp2_with fail
  refine (put_ref k _).mono ?_
  rintro e w3 ⟨v3, rfl, hv3, hb3⟩
  have B3 : Hid (Below p w w3) := B2.out.trans (hb3.mono (by have := P2.out; omega))
  have X3 : Hid (Bx p _ _ _ _ w3) := X2.out.kept hb3 P2.out
  have P3 : Hid (p < w3.heap.size) := Nat.lt_of_lt_of_le P2.out hb3.size
  have Y3 := Lib.hid (own_bts hv3)
  have O3 := own_kept V2.out hb3
  clear hv3 hb3
  clear e0_2 e1_2 e2_2 e3_2
  obtain ⟨e0_3, e1_3, e2_3, e3_3⟩ := X3.out
  go_wp2_with (at_builtin; refine append_bts rfl _ _ rfl (p + 1) _ (byts c 4) rfl O3 _ (byts k 4) rfl Y3.out ?c3 ?c4 ?_)
  case c3 => have := LC.out; have := LK.out; have := LS.out; have := LL.out; first | omega | (simp only [List.length_append]; omega)
  case c4 => exact P3.out
  intro v4 w4 hv4 hb4
  have B4 : Hid (Below p w w4) := B3.out.trans (hb4.mono (Nat.le_succ p))
  have V4 : Hid (w4.ownsRow (p + 1) 5 1 v4 (byts c 4 ++ byts k 4).length ((byts c 4 ++ byts k 4).map (Value.int .u8))) := Lib.hid (own_eq hv4 (by simp only [List.length_append] <;> omega) (by simp))
  have P4 : Hid (p < w4.heap.size) := Nat.lt_of_lt_of_le P3.out hb4.size
  have X4 : Hid (Bx p _ _ _ _ w4) := X3.out.kept hb4 (Nat.lt_succ_self p)
  clear hv4 hb4 O3
  clear e0_3 e1_3 e2_3 e3_3
  obtain ⟨e0_4, e1_4, e2_4, e3_4⟩ := X4.out
  go_wp2_with fail
  refine (put_ref _ _).mono ?_
  rintro e w5 ⟨v5, rfl, hv5, hb5⟩
  have B5 : Hid (Below p w w5) := B4.out.trans (hb5.mono (by have := P4.out; omega))
  have X5 : Hid (Bx p _ _ _ _ w5) := X4.out.kept hb5 P4.out
  have P5 : Hid (p < w5.heap.size) := Nat.lt_of_lt_of_le P4.out hb5.size
  have Y5 := Lib.hid (own_bts hv5)
  have O5 := own_kept V4.out hb5
  clear hv5 hb5
  clear e0_4 e1_4 e2_4 e3_4
  obtain ⟨e0_5, e1_5, e2_5, e3_5⟩ := X5.out
  go_wp2_with (at_builtin; refine append_bts rfl _ _ rfl (p + 1) _ (byts c 4 ++ byts k 4) rfl O5 _ (byts ((l.length : Int) + b.length) 4) rfl Y5.out ?c3 ?c4 ?_)
  case c3 => have := LC.out; have := LK.out; have := LS.out; have := LL.out; first | omega | (simp only [List.length_append]; omega)
  case c4 => exact P5.out
  intro v6 w6 hv6 hb6
  have B6 : Hid (Below p w w6) := B5.out.trans (hb6.mono (Nat.le_succ p))
  have V6 : Hid (w6.ownsRow (p + 1) 5 1 v6 (byts c 4 ++ byts k 4 ++ byts ((l.length : Int) + b.length) 4).length ((byts c 4 ++ byts k 4 ++ byts ((l.length : Int) + b.length) 4).map (Value.int .u8))) := Lib.hid (own_eq hv6 (by simp only [List.length_append] <;> omega) (by simp))
  have P6 : Hid (p < w6.heap.size) := Nat.lt_of_lt_of_le P5.out hb6.size
  have X6 : Hid (Bx p _ _ _ _ w6) := X5.out.kept hb6 (Nat.lt_succ_self p)
  clear hv6 hb6 O5
  clear e0_5 e1_5 e2_5 e3_5
  obtain ⟨e0_6, e1_6, e2_6, e3_6⟩ := X6.out
  go_wp2_with fail
  refine (all_ref _ l _ (HW.out.1.kept (hp ▸ B6.out)) hq1).mono ?_
  rintro e w7 ⟨v7, rfl, hv7, hb7⟩
  have B7 : Hid (Below p w w7) := B6.out.trans (hb7.mono (by have := P6.out; omega))
  have X7 : Hid (Bx p _ _ _ _ w7) := X6.out.kept hb7 P6.out
  have P7 : Hid (p < w7.heap.size) := Nat.lt_of_lt_of_le P6.out hb7.size
  have Y7 := Lib.hid (own_bts hv7)
  have O7 := own_kept V6.out hb7
  clear hv7 hb7
  clear e0_6 e1_6 e2_6 e3_6
  obtain ⟨e0_7, e1_7, e2_7, e3_7⟩ := X7.out
  go_wp2_with (at_builtin; refine append_bts rfl _ _ rfl (p + 1) _ (byts c 4 ++ byts k 4 ++ byts ((l.length : Int) + b.length) 4) rfl O7 _ (allB l) rfl Y7.out ?c3 ?c4 ?_)
  case c3 => have := LC.out; have := LK.out; have := LS.out; have := LL.out; first | omega | (simp only [List.length_append]; omega)
  case c4 => exact P7.out
  intro v8 w8 hv8 hb8
  have B8 : Hid (Below p w w8) := B7.out.trans (hb8.mono (Nat.le_succ p))
  have V8 : Hid (w8.ownsRow (p + 1) 5 1 v8 (byts c 4 ++ byts k 4 ++ byts ((l.length : Int) + b.length) 4 ++ allB l).length ((byts c 4 ++ byts k 4 ++ byts ((l.length : Int) + b.length) 4 ++ allB l).map (Value.int .u8))) := Lib.hid (own_eq hv8 (by simp only [List.length_append] <;> omega) (by simp))
  have P8 : Hid (p < w8.heap.size) := Nat.lt_of_lt_of_le P7.out hb8.size
  have X8 : Hid (Bx p _ _ _ _ w8) := X7.out.kept hb8 (Nat.lt_succ_self p)
  clear hv8 hb8 O7
  clear e0_7 e1_7 e2_7 e3_7
  obtain ⟨e0_8, e1_8, e2_8, e3_8⟩ := X8.out
  have O8 := V8.out
  have Y8 : Hid (Bts w8 (.slice a2 b.length c2) b) := HB.out.1.kept (hp ▸ B8.out)
  go_wp2_with (at_builtin; refine append_bts rfl _ _ rfl (p + 1) _ (byts c 4 ++ byts k 4 ++ byts ((l.length : Int) + b.length) 4 ++ allB l) rfl O8 _ (b) rfl Y8.out ?c3 ?c4 ?_)
  case c3 => have := LC.out; have := LK.out; have := LS.out; have := LL.out; first | omega | (simp only [List.length_append]; omega)
  case c4 => exact P8.out
  intro v10 w10 hv10 hb10
  have B10 : Hid (Below p w w10) := B8.out.trans (hb10.mono (Nat.le_succ p))
  have V10 : Hid (w10.ownsRow (p + 1) 5 1 v10 (byts c 4 ++ byts k 4 ++ byts ((l.length : Int) + b.length) 4 ++ allB l ++ b).length ((byts c 4 ++ byts k 4 ++ byts ((l.length : Int) + b.length) 4 ++ allB l ++ b).map (Value.int .u8))) := Lib.hid (own_eq hv10 (by simp only [List.length_append] <;> omega) (by simp))
  have P10 : Hid (p < w10.heap.size) := Nat.lt_of_lt_of_le P8.out hb10.size
  have X10 : Hid (Bx p _ _ _ _ w10) := X8.out.kept hb10 (Nat.lt_succ_self p)
  clear hv10 hb10 O8
  clear e0_8 e1_8 e2_8 e3_8
  go_wp2
  go_ret2
  subst hp
  exact ⟨_, rfl, own_down V10.out (Nat.le_succ _), B10.out⟩
end Go.Proofs.YtccpmaahnfgkeaaGreatDoor.Wd
