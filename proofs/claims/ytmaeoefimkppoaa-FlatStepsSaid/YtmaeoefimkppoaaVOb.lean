/- Plain facts on objects and their bytes: what the chapter says of them, as Lean functions, and that bytes and objects belong to one another. Nothing of the program. -/
import Derived.Test.YtmaeoefimkppoaaWOpen
namespace Go.Proofs.Ytmaeoefimkppoaa.Wd
set_option maxRecDepth 1000000
open Go.RowKit

/-- An object: its class, its kind, its words, its bytes. -/
structure Ob where
  c : Int
  k : Int
  w : List Int
  b : List Int

def valB (v : Int) : Bool := numB v || namB v
def okO (o : Ob) : Bool := namB o.c && ((o.k == 1 && o.b.isEmpty && decide (o.w.length ≤ 1000) && o.w.all valB) || (o.k == 2 && o.w.isEmpty && decide (o.b.length ≤ 1000)))
def chk (o : Ob) : Int := if okO o = true then 0 else 2
def sizeO (o : Ob) : Nat := if o.k = 1 then o.w.length else if o.k = 2 then o.b.length else 0
def encO (o : Ob) : List Int := allB [o.c, o.k, sizeO o] ++ (if o.k = 1 then allB o.w else o.b)
def refsL (l : List Int) : List Int := l.filterMap fun v => if namB v = true then some (namV v) else none
def refsO (o : Ob) : List Int := refsL (o.c :: o.w)

/-- The word at place p, and the words of bytes. -/
def wd (xs : List Int) (p : Nat) : Int := sgn (acc xs p 4)
def ws (ys : List Int) : List Int := (List.range (ys.length / 4)).map fun i => wd ys (4 * i)
def fitsB (k n : Int) (l : Nat) : Bool := decide (0 ≤ n ∧ n ≤ 1000) && ((k == 1 && (l : Int) == 4 * n) || (k == 2 && (l : Int) == n))
def rdO (xs : List Int) : Ob := if wd xs 4 = 1 then ⟨wd xs 0, 1, ws (xs.drop 12), []⟩ else ⟨wd xs 0, wd xs 4, [], xs.drop 12⟩
def decB (xs : List Int) : Bool := decide (12 ≤ xs.length) && fitsB (wd xs 4) (wd xs 8) (xs.length - 12) && okO (rdO xs)

theorem acc_drop (xs : List Int) (d p k : Nat) : acc (xs.drop d) p k = acc xs (d + p) k := by
  induction k with
  | zero => rfl
  | succ k ih => simp only [acc]; rw [ih]; congr 1; simp [List.getD, List.getElem?_drop, Nat.add_assoc]
theorem acc_take (xs : List Int) (d p k : Nat) (h : p + k ≤ d) : acc (xs.take d) p k = acc xs p k := by
  induction k with
  | zero => rfl
  | succ k ih => simp only [acc]; rw [ih (by omega)]; congr 1; simp only [List.getD, List.getElem?_take]; rw [if_pos (by omega)]
theorem wd_drop (xs : List Int) (d p : Nat) : wd (xs.drop d) p = wd xs (d + p) := by unfold wd; rw [acc_drop]
theorem wd_take (xs : List Int) (d p : Nat) (h : p + 4 ≤ d) : wd (xs.take d) p = wd xs p := by unfold wd; rw [acc_take _ _ _ _ h]
theorem acc_pre (xs ys : List Int) (p k : Nat) (h : p + k ≤ xs.length) : acc (xs ++ ys) p k = acc xs p k := by
  induction k with
  | zero => rfl
  | succ k ih => simp only [acc]; rw [ih (by omega)]; congr 1; simp only [List.getD]; rw [List.getElem?_append_left (by omega)]
theorem wd_pre (xs ys : List Int) (p : Nat) (h : p + 4 ≤ xs.length) : wd (xs ++ ys) p = wd xs p := by unfold wd; rw [acc_pre _ _ _ _ h]

theorem acc4 (a b c d : Int) (r : List Int) : acc (a :: b :: c :: d :: r) 0 4 = ((a * 256 + b) * 256 + c) * 256 + d := by
  show (((0 * 256 + a) * 256 + b) * 256 + c) * 256 + d = _
  rw [Int.zero_mul, Int.zero_add]
theorem ws4 (a b c d : Int) (r : List Int) : ws (a :: b :: c :: d :: r) = sgn (((a * 256 + b) * 256 + c) * 256 + d) :: ws r := by
  unfold ws
  have e : (a :: b :: c :: d :: r).length / 4 = r.length / 4 + 1 := by simp only [List.length_cons]; omega
  rw [e, List.range_succ_eq_map, List.map_cons, List.map_map]
  congr 1
  unfold wd; rw [Nat.mul_zero, acc4]
theorem ws_nil : ws [] = [] := rfl
theorem ws_len (ys : List Int) : (ws ys).length = ys.length / 4 := by simp [ws]
theorem ws_at (ys : List Int) (i : Nat) (h : i < ys.length / 4) : (ws ys).getD i 0 = wd ys (4 * i) := by simp [ws, List.getD, h]

theorem byts_of4 (a b c d : Int) (ha : 0 ≤ a ∧ a ≤ 255) (hb : 0 ≤ b ∧ b ≤ 255) (hc : 0 ≤ c ∧ c ≤ 255) (hd : 0 ≤ d ∧ d ≤ 255) :
    byts (sgn (((a * 256 + b) * 256 + c) * 256 + d)) 4 = [a, b, c, d] := by
  rw [byts4]
  have e := sgn_mod' (((a * 256 + b) * 256 + c) * 256 + d)
  generalize hs : sgn (((a * 256 + b) * 256 + c) * 256 + d) = s at e
  have e2 : s % 4294967296 = ((a * 256 + b) * 256 + c) * 256 + d := by
    rw [← hs]; unfold sgn; split <;> omega
  have e3 : s % 256 = d := by omega
  rw [e2, e3]
  congr 1
  · omega
  congr 1
  · omega
  congr 1
  omega

/-- A list whose elements are bytes. -/
def ByL (xs : List Int) : Prop := ∀ n ∈ xs, 0 ≤ n ∧ n ≤ 255
theorem ByL.bytes {xs : List Int} (h : ByL xs) : Bytes xs := by
  intro i
  by_cases hi : i < xs.length
  · have e : xs.getD i 0 = xs[i] := by simp [List.getD, List.getElem?_eq_getElem hi]
    rw [e]; exact h _ (List.getElem_mem hi)
  · have e : xs.getD i 0 = 0 := by simp [List.getD, List.getElem?_eq_none (Nat.le_of_not_lt hi)]
    rw [e]; omega
theorem ByL.of {xs : List Int} (h : Bytes xs) : ByL xs := by
  intro n hn
  obtain ⟨i, hi, rfl⟩ := List.getElem_of_mem hn
  have := h i
  rw [List.getD, List.getElem?_eq_getElem hi] at this
  exact this
theorem ByL.app {xs ys : List Int} (h : ByL xs) (g : ByL ys) : ByL (xs ++ ys) := fun n hn => (List.mem_append.1 hn).elim (h n) (g n)
theorem ByL.take {xs : List Int} (h : ByL xs) (k : Nat) : ByL (xs.take k) := fun n hn => h n (List.mem_of_mem_take hn)
theorem ByL.drop {xs : List Int} (h : ByL xs) (k : Nat) : ByL (xs.drop k) := fun n hn => h n (List.mem_of_mem_drop hn)
theorem byL_byts (o : Int) : ByL (byts o 4) := ByL.of (byts_Bytes o 4)
theorem byL_allB (l : List Int) : ByL (allB l) := by
  intro n hn
  obtain ⟨o, _, h⟩ := List.mem_flatMap.1 hn
  exact byL_byts o n h

theorem allB_ws : ∀ (n : Nat) (ys : List Int), ys.length = 4 * n → ByL ys → allB (ws ys) = ys
  | 0, ys, h, _ => by obtain rfl : ys = [] := List.eq_nil_of_length_eq_zero (by omega); rfl
  | n + 1, [], h, _ => by simp at h
  | n + 1, [_], h, _ => by simp at h; omega
  | n + 1, [_, _], h, _ => by simp at h; omega
  | n + 1, [_, _, _], h, _ => by simp at h; omega
  | n + 1, a :: b :: c :: d :: r, h, hy => by
    simp only [List.length_cons] at h
    rw [ws4]
    show byts _ 4 ++ allB (ws r) = _
    rw [allB_ws n r (by omega) (fun x hx => hy x (by simp [hx])), byts_of4 a b c d (hy a (by simp)) (hy b (by simp)) (hy c (by simp)) (hy d (by simp))]
    rfl

def I32 (l : List Int) : Prop := ∀ n ∈ l, -2147483648 ≤ n ∧ n ≤ 2147483647
theorem ws_allB : ∀ (l : List Int), I32 l → ws (allB l) = l
  | [], _ => rfl
  | o :: r, h => by
    show ws (byts o 4 ++ allB r) = _
    have h0 := h o (by simp)
    rw [byts4]
    show ws (_ :: _ :: _ :: _ :: allB r) = _
    rw [ws4, ws_allB r (fun n hn => h n (by simp [hn]))]
    congr 1
    have e : ((o % 4294967296 / 16777216 * 256 + o % 4294967296 / 65536 % 256) * 256 + o % 4294967296 / 256 % 256) * 256 + o % 256 = o % 4294967296 := by omega
    rw [e, sgn_mod o h0.1 h0.2]

theorem nam_rng {o : Int} (h : namB o = true) : o % 2 = 0 ∧ 2 ≤ o ∧ o ≤ 2147483646 := by simpa [namB] using h
theorem num_rng {o : Int} (h : numB o = true) : o % 2 = 1 ∧ -2147483647 ≤ o ∧ o ≤ 2147483647 := by simpa [numB] using h
theorem val_rng {o : Int} (h : valB o = true) : -2147483648 ≤ o ∧ o ≤ 2147483647 := by
  rcases Bool.or_eq_true _ _ ▸ h with h | h
  · have := num_rng h; omega
  · have := nam_rng h; omega

/-- What okO says, told plainly. -/
theorem okO_iff (o : Ob) : okO o = true ↔ namB o.c = true ∧ ((o.k = 1 ∧ o.b = [] ∧ o.w.length ≤ 1000 ∧ ∀ v ∈ o.w, valB v = true) ∨ (o.k = 2 ∧ o.w = [] ∧ o.b.length ≤ 1000)) := by
  simp [okO, List.isEmpty_iff, List.all_eq_true, and_assoc]

theorem head_len (o : Ob) : (allB [o.c, o.k, sizeO o]).length = 12 := by rw [allB_len]; rfl
theorem enc_len (o : Ob) : (encO o).length = 12 + (if o.k = 1 then 4 * o.w.length else o.b.length) := by
  unfold encO; rw [List.length_append, head_len]; split <;> simp [allB_len]
theorem enc_le {o : Ob} (h : okO o = true) : 12 ≤ (encO o).length ∧ (encO o).length ≤ 4012 := by
  rw [enc_len o]
  obtain ⟨_, ⟨hk, _, hl, _⟩ | ⟨hk, _, hl⟩⟩ := (okO_iff o).1 h
  · rw [if_pos hk]; omega
  · rw [if_neg (by omega)]; omega
theorem size_le {o : Ob} (h : okO o = true) : sizeO o ≤ 1000 := by
  obtain ⟨_, ⟨hk, _, hl, _⟩ | ⟨hk, _, hl⟩⟩ := (okO_iff o).1 h
  · simp [sizeO, hk, hl]
  · simp [sizeO, hk, hl]

theorem wd_allB (l : List Int) (i : Nat) (h : i < l.length) (hl : I32 l) : wd (allB l) (4 * i) = l.getD i 0 := by
  have h1 := ws_at (allB l) i (by rw [allB_len]; omega)
  rw [ws_allB l hl] at h1
  exact h1.symm

theorem i32_head {o : Ob} (h : okO o = true) : I32 [o.c, o.k, (sizeO o : Int)] := by
  have h1 := ((okO_iff o).1 h).1
  have h2 := nam_rng h1
  have h3 := size_le h
  have h4 : o.k = 1 ∨ o.k = 2 := by rcases ((okO_iff o).1 h).2 with h | h; exact .inl h.1; exact .inr h.1
  intro n hn
  simp only [List.mem_cons, List.not_mem_nil, or_false] at hn
  rcases hn with rfl | rfl | rfl <;> omega

theorem dec_enc {o : Ob} (h : okO o = true) : decB (encO o) = true ∧ rdO (encO o) = o := by
  have hi := i32_head h
  have hl := head_len o
  have e0 : wd (encO o) 0 = o.c := by unfold encO; rw [wd_pre _ _ _ (by omega)]; exact wd_allB [o.c, o.k, (sizeO o : Int)] 0 (by simp) hi
  have e1 : wd (encO o) 4 = o.k := by unfold encO; rw [wd_pre _ _ _ (by omega)]; exact wd_allB [o.c, o.k, (sizeO o : Int)] 1 (by simp) hi
  have e2 : wd (encO o) 8 = sizeO o := by unfold encO; rw [wd_pre _ _ _ (by omega)]; exact wd_allB [o.c, o.k, (sizeO o : Int)] 2 (by simp) hi
  have ed : (encO o).drop 12 = if o.k = 1 then allB o.w else o.b := by unfold encO; rw [List.drop_left' hl]
  have er : rdO (encO o) = o := by
    unfold rdO
    rw [e0, e1, ed]
    obtain ⟨c, k, w, b⟩ := o
    obtain ⟨_, ⟨rfl, rfl, _, hv⟩ | ⟨rfl, rfl, _⟩⟩ := (okO_iff _).1 h
    · simp only [if_true]
      rw [ws_allB w fun n hn => val_rng (hv n hn)]
    · simp
  refine ⟨?_, er⟩
  unfold decB
  rw [er, h, e1, e2]
  have := enc_le h
  have el := enc_len o
  have hs := size_le h
  simp only [Bool.and_true, Bool.and_eq_true, decide_eq_true_eq]
  refine ⟨by omega, ?_⟩
  unfold fitsB
  obtain ⟨_, ⟨hk, _, _, _⟩ | ⟨hk, _, _⟩⟩ := (okO_iff o).1 h
  · rw [if_pos hk] at el
    have : sizeO o = o.w.length := by simp [sizeO, hk]
    simp [hk]; omega
  · rw [if_neg (by omega)] at el
    have : sizeO o = o.b.length := by simp [sizeO, hk]
    simp [hk]; omega

/-- What decB says. -/
theorem dec_parts {xs : List Int} (h : decB xs = true) : 12 ≤ xs.length ∧ okO (rdO xs) = true ∧ 0 ≤ wd xs 8 ∧ wd xs 8 ≤ 1000 ∧ ((wd xs 4 = 1 ∧ (xs.length : Int) = 12 + 4 * wd xs 8) ∨ (wd xs 4 = 2 ∧ (xs.length : Int) = 12 + wd xs 8)) := by
  unfold decB fitsB at h
  simp only [Bool.and_eq_true, Bool.or_eq_true, decide_eq_true_eq, beq_iff_eq] at h
  obtain ⟨⟨h1, h2, h3⟩, h4⟩ := h
  exact ⟨h1, h4, h2.1, h2.2, h3.imp (fun ⟨a, b⟩ => ⟨a, by omega⟩) fun ⟨a, b⟩ => ⟨a, by omega⟩⟩

theorem take12 {xs : List Int} (h : 12 ≤ xs.length) (hy : ByL xs) : allB [wd xs 0, wd xs 4, wd xs 8] = xs.take 12 := by
  have h1 := allB_ws 3 (xs.take 12) (by rw [List.length_take]; omega) (hy.take 12)
  have e : ws (xs.take 12) = [wd xs 0, wd xs 4, wd xs 8] := by
    unfold ws
    rw [List.length_take, show min 12 xs.length / 4 = 3 by omega]
    show [wd (xs.take 12) (4 * 0), wd (xs.take 12) (4 * 1), wd (xs.take 12) (4 * 2)] = _
    rw [wd_take _ _ _ (by omega), wd_take _ _ _ (by omega), wd_take _ _ _ (by omega)]
  rw [e] at h1; exact h1

theorem enc_dec {xs : List Int} (h : decB xs = true) (hy : ByL xs) : encO (rdO xs) = xs := by
  obtain ⟨h1, h2, h3, h4, ⟨h5, h6⟩ | ⟨h5, h6⟩⟩ := dec_parts h
  · have e : rdO xs = ⟨wd xs 0, 1, ws (xs.drop 12), []⟩ := by unfold rdO; rw [if_pos h5]
    have es : (sizeO (rdO xs) : Int) = wd xs 8 := by
      rw [e]; simp only [sizeO, if_true]; rw [ws_len, List.length_drop]; omega
    unfold encO
    rw [es, e]
    simp only [if_true]
    rw [← h5, take12 h1 hy, allB_ws (wd xs 8).toNat _ (by rw [List.length_drop]; omega) (hy.drop 12), List.take_append_drop]
  · have e : rdO xs = ⟨wd xs 0, wd xs 4, [], xs.drop 12⟩ := by unfold rdO; rw [if_neg (by omega)]
    have es : (sizeO (rdO xs) : Int) = wd xs 8 := by
      rw [e]; simp only [sizeO, h5]; simp; omega
    unfold encO
    rw [es, e]
    rw [take12 h1 hy, if_neg (by show ¬ wd xs 4 = 1; omega), List.take_append_drop]

theorem rd_same_len {xs ys : List Int} (hx : decB xs = true) (hy : decB ys = true) (e1 : wd xs 4 = wd ys 4) (e2 : wd xs 8 = wd ys 8) : xs.length = ys.length := by
  obtain ⟨_, _, _, _, h⟩ := dec_parts hx
  obtain ⟨_, _, _, _, g⟩ := dec_parts hy
  omega
theorem dec_cut {xs : List Int} (h : decB xs = true) (k : Nat) (hk : k < xs.length) : decB (xs.take k) = false := by
  cases hd : decB (xs.take k) with
  | false => rfl
  | true =>
    have h1 := (dec_parts hd).1
    have h2 : (xs.take k).length = k := by rw [List.length_take]; omega
    have := rd_same_len hd h (wd_take _ _ _ (by omega)) (wd_take _ _ _ (by omega))
    omega
theorem dec_more {xs : List Int} (h : decB xs = true) (m : Int) : decB (xs ++ [m]) = false := by
  cases hd : decB (xs ++ [m]) with
  | false => rfl
  | true =>
    have h1 := (dec_parts h).1
    have := rd_same_len hd h (wd_pre _ _ _ (by omega)) (wd_pre _ _ _ (by omega))
    simp at this
end Go.Proofs.Ytmaeoefimkppoaa.Wd
