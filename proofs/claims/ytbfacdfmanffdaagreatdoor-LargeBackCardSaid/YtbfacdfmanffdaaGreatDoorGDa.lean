/- For the document's Div: appends, rows of bytes that may be written, plain facts. -/
import Derived.Test.YtbfacdfmanffdaaGreatDoorGAd
import Derived.Maps.AppendAt
import Derived.Deep.AppendSrc
namespace Go.Proofs.YtbfacdfmanffdaaGreatDoor
set_option maxRecDepth 1000000
open Go.ChangeShapes Go.WideShapes Go.ChangeAt Go.RowKit

theorem wpList_append_eq {P : Program} (w : World) {ops : Array Oper} {rest : List Oper} {o : Oper} {a : Act} {Q : Exit → Act → World → Prop} (hg : o.guard = none) (s x : Operand) (t : TypeId)
    (hop : o.op = Op.call { callee := Callee.builtin Builtin.append, args := #[s, x], argTypes := #[t, t] }) (vs vx v' : Value) (w' : World) (hs : a.eval s = vs) (hx : a.eval x = vx)
    (hrun : (Builtin.append_ #[t, t] o.type #[vs, vx]).run P w = .ok v' w') (hK : wpList P ops Q rest (a.put o.dst v') w') : wpList P ops Q (o :: rest) a w := by
  refine wpList_plain hg fun K hK' => ?_
  unfold Oper.wp
  simp [execOp, hop, resolve, invoke, builtin, hs, hx, hrun, Result.andThen]
  exact hK' _ _ hK
/-- 'append(u, v...)' where u is one's own. -/
theorem append_bts {N : Nat → Prop} {B : Nat} {w : World} {u v : Value} {xs ys : List Int} (h : OwnB B w u xs) (hv : Bts N w v ys) (hl : xs.length + ys.length ≤ 3000000000000) (hB : B ≤ w.heap.size) (ty : TypeId) :
    ∃ v1 w1, (Builtin.append_ #[22, 22] ty #[u, v]).run Tryz.prog w = .ok v1 w1 ∧ OwnB B w1 v1 (xs ++ ys) ∧ w.grownBy w1 u.ownBlock := by
  obtain ⟨i0, hi, hz0, hz1, hz2⟩ := info_parts Tryz.info5
  obtain ⟨a, c, rfl, hc, hcell⟩ := hv
  rw [List.length_map] at hc ⊢
  rcases a with _ | ad
  · have h0 : ys = [] := by
      rcases hcell with h | ⟨b, off, ha, _⟩
      · exact List.map_eq_nil_iff.1 h
      · cases ha
    subst h0
    refine ⟨u, w, ?_, by rw [List.append_nil]; exact h, ⟨rfl, rfl, rfl, Nat.le_refl _, fun _ _ _ => rfl⟩⟩
    rcases h.2 with ⟨rfl, h0⟩ | ⟨g, cap, cur, rfl, hb2, hg, hn, _⟩
    · simp [Builtin.append_, run_underlying Tryz.underlying22, sizeOf, typeInfo, hi, Builtin.lenOf, Builtin.firstCells]
    · have := run_append_room_src (P := Tryz.prog) (w := w) 22 22 ty 5 i0 Tryz.underlying22 hi g 0 xs.length cap (.slice none 0 c) 0 [] (Src.ofNil _ Tryz.underlying22 c) (by omega) (by simp) (by simp)
      simpa [World.setCells] using this
  · obtain ⟨v1, w1, h1, h2, h3, _, h5⟩ := run_append_own_at (P := Tryz.prog) w B 22 ty 5 i0 _ 1 1 Tryz.underlying22 hi hz0 hz1 hz2 rfl (by decide) u xs.length (xs.map (Value.int .u8)) h ad ys.length c (ys.map (Value.int .u8)) (by simp) (fun j u hu => by
      rcases hcell with h | ⟨b, off, ha, _, h⟩
      · rw [h] at hu; simp at hu
      · cases ha
        rw [add_plain]
        exact h j u hu) (fun u hu => by obtain ⟨n, _, rfl⟩ := List.mem_map.1 hu; rfl) (by unfold maxLen; omega) (by omega) hB
    exact ⟨v1, w1, h1, by unfold OwnB; rw [List.map_append, List.length_append]; exact h2, h3⟩
theorem OwnB.next {B : Nat} {w w' : World} {v : Value} {L : List Int} (h : OwnB B w v L) (b : Below w.heap.size w w') : OwnB B w' v L :=
  ⟨h.1, h.2.imp id fun ⟨g, cap, cur, h1, h2, h3, h4⟩ => ⟨g, cap, cur, h1, h2, (b.block g (Array.getElem?_eq_some_iff.1 h3).1).trans h3, h4⟩⟩
theorem OwnB.bts {B : Nat} {w : World} {v : Value} {xs : List Int} (h : OwnB B w v xs) : Bts (B ≤ ·) w v xs := Vals.of_own (e := 5) (by rw [List.length_map]; exact h)
theorem ownB1 (w : World) (c : Int) : OwnB w.heap.size (w.alloc (.cells #[.int .u8 c] 5)) (.slice (some ⟨w.heap.size, 0, none⟩) 1 1) [c] := World.ownsRow_lit w #[.int .u8 c] 1 (Nat.le_refl _) (by unfold maxLen; omega) rfl
theorem own_form {w : World} {B : Nat} {v : Value} {xs : List Int} (h : OwnB B w v xs) : ∃ x c, v = .slice x xs.length c := by
  rcases h.2 with ⟨rfl, h0⟩ | ⟨g, cap, cur, rfl, _⟩
  · exact ⟨none, 0, by rw [h0]⟩
  · exact ⟨_, cap, rfl⟩
/-- A row of m bytes that may be written. -/
def RowB (w : World) (g m : Nat) (f : Nat → Int) : Prop := (∀ j, j < m → w.cell? ⟨g, j, none⟩ = some (.int .u8 (f j))) ∧ (∀ j, w.frozen? ⟨g, j, none⟩ = false) ∧ g < w.heap.size
theorem RowB.kept {w w' : World} {g m B : Nat} {f : Nat → Int} (h : RowB w g m f) (hb : Below B w w') (hg : g < B) : RowB w' g m f :=
  ⟨fun j hj => (hb.cell (p := ⟨g, j, none⟩) hg).trans (h.1 j hj), fun j => (World.frozen?_of_block (w := w) (a := ⟨g, j, none⟩) (hb.block g hg)).trans (h.2.1 j), Nat.lt_of_lt_of_le h.2.2 hb.size⟩
theorem RowB.next {w w' : World} {g m : Nat} {f : Nat → Int} (h : RowB w g m f) (hb : Below w.heap.size w w') : RowB w' g m f := h.kept hb h.2.2
theorem RowB.set {w : World} {g m : Nat} {f : Nat → Int} (h : RowB w g m f) {p : Nat} (hp : p < m) (x : Int) : RowB (w.setCell ⟨g, p, none⟩ (.int .u8 x)) g m (fun j => if j = p then x else f j) := by
  refine ⟨fun j hj => ?_, fun j => ?_, by simpa [World.setCell] using h.2.2⟩
  · by_cases e : j = p
    · subst e
      rw [World.cell?_setCell_same _ _ _ (h.1 j hp)]; simp
    · rw [World.cell?_setCell_other _ _ _ _ (by intro e2; injection e2; omega), h.1 j hj]; simp [e]
  · rw [World.frozen?_setCell]; exact h.2.1 j
theorem RowB.bts {w : World} {g m : Nat} {f : Nat → Int} (h : RowB w g m f) : Bts (· = g) w (.slice (some ⟨g, 0, none⟩) m m) (rowL f m) := by
  refine ⟨_, m, by rw [List.length_map, rowL_len], by rw [List.length_map, rowL_len]; exact Nat.le_refl _, .inr ⟨g, 0, rfl, rfl, fun j u hu => ?_⟩⟩
  have hj : j < m := by
    have := (List.getElem?_eq_some_iff.1 hu).1
    rw [List.length_map, rowL_len] at this
    exact this
  rw [List.getElem?_map, rowL, List.getElem?_map, List.getElem?_range hj] at hu
  simp at hu
  rw [Nat.zero_add, ← hu]
  exact h.1 j hj
theorem mk_bytes (w : World) (n : Nat) (hn : n ≤ 1000000000000) : (Instr.makeSlice 22 (.int .i64 (n : Int)) (.int .i64 (n : Int))).run Tryz.prog w = .ok (.slice (some ⟨w.heap.size, 0, none⟩) n n) (w.alloc (.cells (madeCells #[Value.int .u8 0] n) 5)) := by
  obtain ⟨i0, hi, hz0, hz1, hz2⟩ := info_parts Tryz.info5
  have h := run_make (P := Tryz.prog) w 22 5 i0 (.int .u8 0) Tryz.underlying22 hi hz0 .i64 .i64 (n : Int) (n : Int) (by omega) (by omega) (by rw [hz2]; omega) (by omega)
  rw [hz1, Nat.mul_one, show ((n : Int)).toNat = n by omega] at h
  exact h
theorem made_byte (w : World) (n j : Nat) (h : j < n) : (w.alloc (.cells (madeCells #[Value.int .u8 0] n) 5)).cell? ⟨w.heap.size, j, none⟩ = some (.int .u8 0) := by
  rw [World.cell?_alloc_at _ _ _ _ rfl]
  show (madeCells #[Value.int .u8 0] n)[j]? = _
  rw [← Array.getElem?_toList, toList_madeCells_one, List.getElem?_replicate, if_pos h]
/-- The digits of a number that is not too great are right. -/
theorem right_dig {n : Nat} (h : (n : Int) < 256 ^ 400) : rightB (dig n) = true := by
  unfold rightB
  rw [decide_eq_true_eq]
  by_cases h0 : dig n = []
  · exact .inl h0
  · refine .inr ⟨dig_len.2 h, ?_⟩
    have hl : 0 < (dig n).length := List.length_pos_iff.2 h0
    have := dig_bare n (dgt (dig n) ((dig n).length - 1)) (by
      rw [List.getLast?_eq_getElem?, dgt, List.getD, List.getElem?_eq_getElem (by omega)]; rfl)
    exact this
theorem val_cons_dig (a R : Int) (h : 0 ≤ R) : val ([a] ++ dig R.toNat) = a + 256 * R := by
  show a + 256 * val (dig R.toNat) = _
  rw [val_dig, Int.toNat_of_nonneg h]
theorem cmpV_le {a b : Int} : cmpV a b ≤ 0 ↔ a ≤ b := by
  unfold cmpV
  split
  · omega
  · split <;> omega
/-- What out holds above place t. -/
def topV (f : Nat → Int) (t m : Nat) : Int := val ((rowL f m).drop t)
theorem topV_step (f : Nat → Int) (m : Nat) {t : Nat} (h : t < m) : topV f t m = f t + 256 * topV f (t + 1) m := by
  unfold topV
  rw [val_drop (by rw [rowL_len]; exact h), rowL_dgt, if_pos h]
theorem topV_end (f : Nat → Int) (m : Nat) : topV f m m = 0 := by
  unfold topV
  rw [List.drop_of_length_le (by rw [rowL_len]; exact Nat.le_refl _)]; rfl
theorem topV_congr {f g : Nat → Int} (m : Nat) : ∀ (n t : Nat), m - t ≤ n → (∀ j, t ≤ j → f j = g j) → topV f t m = topV g t m
  | 0, t, h, _ => by
    unfold topV
    rw [List.drop_of_length_le (by rw [rowL_len]; omega), List.drop_of_length_le (by rw [rowL_len]; omega)]
  | n + 1, t, h, he => by
    by_cases ht : t < m
    · rw [topV_step f m ht, topV_step g m ht, he t (Nat.le_refl _), topV_congr m n (t + 1) (by omega) fun j hj => he j (by omega)]
    · unfold topV
      rw [List.drop_of_length_le (by rw [rowL_len]; omega), List.drop_of_length_le (by rw [rowL_len]; omega)]
theorem topV_nonneg {f : Nat → Int} (h : ∀ j, 0 ≤ f j ∧ f j ≤ 255) (t m : Nat) : 0 ≤ topV f t m := by
  unfold topV
  refine val_nonneg (drop_bytes (fun n hn => ?_) t)
  obtain ⟨j, _, rfl⟩ := List.mem_map.1 hn
  exact h j
theorem Bts.take {N : Nat → Prop} {w : World} {a : Option Addr} {n c k : Nat} {xs : List Int} (h : Bts N w (.slice a n c) xs) (hk : k ≤ n) (hn : n = xs.length) : Bts N w (.slice a k c) (xs.take k) := by
  subst hn
  obtain ⟨a', c', he, hc, h⟩ := h
  rw [List.length_map] at he hc
  injection he with e1 e2 e3
  subst e1 e3
  refine ⟨_, _, by rw [List.length_map, List.length_take, Nat.min_eq_left hk], by rw [List.length_map, List.length_take]; omega, ?_⟩
  rcases h with h | ⟨b, off, ha, hb, h⟩
  · left
    rw [List.map_eq_nil_iff] at h
    subst h
    simp
  · refine .inr ⟨b, off, ha, hb, fun j u hu => h j u ?_⟩
    rw [List.map_take, List.getElem?_take] at hu
    split at hu
    · exact hu
    · cases hu
def divE (A B : List Int) : Int := if ¬ (rightB A = true ∧ rightB B = true) then 2 else if B = [] then 4 else 0
def divQ (A B : List Int) : List Int := if divE A B = 0 then dig (val A / val B).toNat else []
def divR (A B : List Int) : List Int := if divE A B = 0 then dig (val A % val B).toNat else []
def DivPost (A B : List Int) (w : World) (e : Ending) (w' : World) : Prop := ∃ q r, e = .returned (.tuple #[q, r, .int .i64 (divE A B)]) ∧ Bts (w.heap.size ≤ ·) w' q (divQ A B) ∧ Bts (w.heap.size ≤ ·) w' r (divR A B) ∧ Below w.heap.size w w'
theorem bts_nil (N : Nat → Prop) (w : World) : Bts N w (.slice none 0 0) [] := ⟨none, 0, rfl, by simp, .inl rfl⟩
theorem right_bare {bs : List Int} (hb : Bytes bs) (h : rightB bs = true) (hne : bs ≠ []) : 0 < val bs := by
  have hl := (right_len h).2.resolve_left hne
  refine bare_pos hb (fun d hd => ?_) hne
  rw [List.getLast?_eq_getElem?] at hd
  have : 0 < bs.length := List.length_pos_iff.2 hne
  unfold dgt at hl
  rw [List.getD, List.getElem?_eq_getElem (by omega)] at hl
  rw [List.getElem?_eq_getElem (by omega)] at hd
  injection hd with hd
  rw [← hd]
  exact hl
theorem drop_small {A : List Int} (hb : Bytes A) (hl : A.length ≤ 400) (j : Nat) : val (A.drop j) < 256 ^ 400 := by
  have h0 := val_nonneg (drop_bytes hb j)
  have h1 := val_lt (drop_bytes hb j)
  have e : (((val (A.drop j)).toNat : Nat) : Int) = val (A.drop j) := Int.toNat_of_nonneg h0
  have h2 : (dig (val (A.drop j)).toNat).length ≤ (A.drop j).length := dig_len.2 (by rw [e]; exact h1)
  have h3 := dig_len.1 (Nat.le_trans h2 (by rw [List.length_drop]; omega) : (dig (val (A.drop j)).toNat).length ≤ 400)
  rw [e] at h3
  exact h3
end Go.Proofs.YtbfacdfmanffdaaGreatDoor
