/- The chapter's Without and Put of layer 4. -/
import Derived.Test.YtccpmaahnfgkeaaGreatDoorRFa
import Derived.Maps.AppendAt
namespace Go.Proofs.YtccpmaahnfgkeaaGreatDoor.R4
set_option maxRecDepth 1000000
open Go.ChangeShapes Go.WideShapes Go.ChangeAt Go.RowKit

theorem Tryz.info121 : (Tryz.prog.info? 121).map (fun i => (i.zero, i.size, i.bytes)) = some (some (.agg #[.int .i64 0, .int .i64 0, .int .i64 0, .slice none 0 0]), 4, 48) := by kernel_rfl

/-- An append whose run is known. -/
theorem wpList_append_eq {P : Program} (w : World) {ops : Array Oper} {rest : List Oper} {o : Oper} {a : Act} {Q : Exit → Act → World → Prop} (hg : o.guard = none) (s x : Operand) (t : TypeId)
    (hop : o.op = Op.call { callee := Callee.builtin Builtin.append, args := #[s, x], argTypes := #[t, t] }) (vs vx v' : Value) (w' : World) (hs : a.eval s = vs) (hx : a.eval x = vx)
    (hrun : (Builtin.append_ #[t, t] o.type #[vs, vx]).run P w = .ok v' w') (hK : wpList P ops Q rest (a.put o.dst v') w') : wpList P ops Q (o :: rest) a w := by
  refine wpList_plain hg fun K hK' => ?_
  unfold Oper.wp
  simp [execOp, hop, resolve, invoke, builtin, hs, hx, hrun, Result.andThen]
  exact hK' _ _ hK

/-- Rows in memory of one's own, from B on; their bytes lie in blocks of the kind N. -/
def OwnR (N : Nat → Prop) (B : Nat) (w : World) (v : Value) (L : List RV) : Prop := w.ownsRow B 121 4 v L.length (flat4 L) ∧ ∀ p ∈ L, Bts N w p.2 p.1.2
theorem OwnR.rows {N : Nat → Prop} {B : Nat} {w : World} {v : Value} {L : List RV} (h : OwnR N B w v L) : RowsV (fun b => N b ∨ B ≤ b) w v L := by
  have hb : ∀ p ∈ L, Bts (fun b => N b ∨ B ≤ b) w p.2 p.1.2 := fun p hp => (h.2 p hp).kind (fun _ _ h => .inl h)
  rcases h.1.2 with ⟨rfl, h0⟩ | ⟨g, cap, cur, rfl, hg, hh, hn, _⟩
  · have : L = [] := List.eq_nil_of_length_eq_zero h0
    subst this
    exact ⟨none, 0, rfl, Nat.le_refl _, hb, .inl rfl⟩
  · refine ⟨_, cap, rfl, hn, hb, .inr ⟨g, 0, rfl, .inr hg, fun j u hu => ?_⟩⟩
    have := World.ownsRow.cells h.1 (g := g) rfl j u hu
    rwa [add_plain] at this
theorem bv_one {N : Nat → Prop} {w : World} {v : Value} {xs : List Int} (h : Bts N w v xs) : v.oneCell' = true := by
  obtain ⟨a, c, rfl, _⟩ := h.form
  rfl
theorem flat4_one {N : Nat → Prop} {w : World} {L : List RV} (h : ∀ p ∈ L, Bts N w p.2 p.1.2) : ∀ u ∈ flat4 L, u.oneCell' = true := by
  intro u hu
  simp only [flat4, List.mem_flatMap] at hu
  obtain ⟨p, hp, hu⟩ := hu
  simp [cells4] at hu
  rcases hu with rfl | rfl | rfl | rfl
  · rfl
  · rfl
  · rfl
  · exact bv_one (h p hp)

/-- 'append(nil, l...)'. -/
theorem append_rows {N : Nat → Prop} (w : World) (v : Value) (L : List RV) (h : RowsV N w v L) (hl : L.length ≤ 1000000) (ty : TypeId) :
    ∃ v1 w1, (Builtin.append_ #[76, 76] ty #[.slice none 0 0, v]).run Tryz.prog w = .ok v1 w1 ∧ OwnR N w.heap.size w1 v1 L ∧ Below w.heap.size w w1 := by
  obtain ⟨i0, hi, hz0, hz1, hz2⟩ := info_parts Tryz.info121
  obtain ⟨a, c, rfl, hc, hb, h⟩ := h
  rcases a with _ | ad
  · have h0 : L = [] := by
      rcases h with h | ⟨b, off, ha, _⟩
      · exact h
      · cases ha
    subst h0
    refine ⟨.slice none 0 0, w, ?_, ⟨World.ownsRow_nil _ _ _ _, fun p hp => by cases hp⟩, Below.refl _ _⟩
    simp [Builtin.append_, run_underlying Tryz.underlying76, sizeOf, typeInfo, hi, Builtin.lenOf, Builtin.firstCells]
  · obtain ⟨v1, w1, h1, h2, h3, _⟩ := run_append_own (P := Tryz.prog) w w.heap.size 76 ty 121 i0 _ 4 48 Tryz.underlying76 hi hz0 hz1 hz2 rfl (by decide) (.slice none 0 0) 0 [] (World.ownsRow_nil _ _ _ _) ad L.length c (flat4 L) (flat4_len L) (fun j u hu => by
      rcases h with h | ⟨b, off, ha, _, h⟩
      · rw [h] at hu; simp [flat4] at hu
      · cases ha
        rw [add_plain]
        exact h j u hu) (flat4_one hb) (by unfold maxLen; omega) (by omega) (Nat.le_refl _)
    have hbe : Below w.heap.size w w1 := (Below.refl _ _).grown h3 (Nat.le_refl _) (fun k hk => by simp [Value.ownBlock] at hk)
    refine ⟨v1, w1, h1, ⟨by simpa using h2, fun p hp => (hb p hp).only (Only.of_below (F := fun _ => False) hbe) (fun _ _ h => h)⟩, hbe⟩

/-- 'append(rows, row)'. -/
theorem append_row {N : Nat → Prop} (B : Nat) (w : World) (v : Value) (L : List RV) (h : OwnR N B w v L) (p : RV) (hp : Bts N w p.2 p.1.2) (hN : ∀ b, N b → v.ownBlock ≠ some b) (g : Nat) (hg : ∀ j u, (cells4 p)[j]? = some u → w.cell? ⟨g, j, none⟩ = some u) (hl : L.length ≤ 1000000) (hB : B ≤ w.heap.size) (ty : TypeId) :
    ∃ v1 w1, (Builtin.append_ #[76, 76] ty #[v, .slice (some ⟨g, 0, none⟩) 1 1]).run Tryz.prog w = .ok v1 w1 ∧ OwnR N B w1 v1 (L ++ [p]) ∧ Only (fun b => v.ownBlock = some b) w w1 := by
  obtain ⟨i0, hi, hz0, hz1, hz2⟩ := info_parts Tryz.info121
  obtain ⟨v1, w1, h1, h2, h3, _⟩ := run_append_own (P := Tryz.prog) w B 76 ty 121 i0 _ 4 48 Tryz.underlying76 hi hz0 hz1 hz2 rfl (by decide) v L.length (flat4 L) h.1 ⟨g, 0, none⟩ 1 1 (cells4 p) rfl (fun j u hu => by
      rw [add_plain, Nat.zero_add]
      exact hg j u hu) (fun u hu => by
      simp [cells4] at hu
      rcases hu with rfl | rfl | rfl | rfl
      · rfl
      · rfl
      · rfl
      · exact bv_one hp) (by unfold maxLen; omega) (by omega) hB
  have ho : Only (fun b => v.ownBlock = some b) w w1 := (Only.refl _ w).grown h3 (fun k hk => .inl hk)
  have hk : ∀ b, N b → ¬ v.ownBlock = some b := hN
  refine ⟨v1, w1, h1, ⟨?_, fun r hr => ?_⟩, ho⟩
  · rw [flat4_append, List.length_append]
    simpa [flat4] using h2
  · rcases List.mem_append.1 hr with hr | hr
    · exact (h.2 r hr).only ho hk
    · rw [List.mem_singleton.1 hr]; exact hp.only ho hk

theorem erase_step {α : Type} (L : List α) (k j : Nat) (hj : j < L.length) (h : j ≠ k) : (L.take (j + 1)).eraseIdx k = (L.take j).eraseIdx k ++ [L[j]] := by
  rw [List.take_succ_eq_append_getElem hj]
  have hl : (L.take j).length = j := by rw [List.length_take]; omega
  rcases Nat.lt_or_ge k j with h1 | h1
  · rw [List.eraseIdx_append_of_lt_length (by omega)]
  · rw [List.eraseIdx_of_length_le (by simp; omega), List.eraseIdx_of_length_le (by omega)]
theorem erase_here {α : Type} (L : List α) (k : Nat) (hj : k < L.length) : (L.take (k + 1)).eraseIdx k = (L.take k).eraseIdx k := by
  rw [List.take_succ_eq_append_getElem hj]
  have hl : (L.take k).length = k := by rw [List.length_take]; omega
  rw [List.eraseIdx_append_of_length_le (by omega), hl, Nat.sub_self, List.eraseIdx_of_length_le (l := L.take k) (by omega)]
  simp

def WoPost (N : Nat → Prop) (L : List RV) (w : World) (e : Ending) (w' : World) : Prop := ∃ v', e = .returned v' ∧ OwnR N w.heap.size w' v' L ∧ Below w.heap.size w w'

set_option maxHeartbeats 2000000 in
theorem without_any {N : Nat → Prop} (v : Value) (L : List RV) (k : Nat) (w : World) (h : RowsV N w v L) (hl : L.length ≤ 1000000) (hk : k ≤ 1000000) :
    Calls Tryz.prog 70 #[v, .int .i64 k] w (WoPost (fun b => N b ∧ b < w.heap.size) (L.eraseIdx k) w) := by
  have hV := h.kind (M := fun b => N b ∧ b < w.heap.size) (fun b hb hN => ⟨hN, hb⟩)
  have HV := Lib.hid hV
  obtain ⟨a, c, rfl⟩ := h.form
  obtain ⟨B, hB⟩ : ∃ B, w.heap.size = B := ⟨_, rfl⟩
  have HB := Lib.hid hB
  rw [hB] at HV
  clear h hV
  go_enter Tryz.func70, Tryz.ntmps70
  go_wp2
  clear hB
  go_loopw [5, 6] (fun o i wr => ∃ j : Nat, j ≤ L.length ∧ i = .int .i64 j ∧ OwnR (fun b => N b ∧ b < B) B wr o ((L.take j).eraseIdx k) ∧ Below B w wr) (fun _ i _ => L.length - (intOf i).toNat)
  case atStart => exact ⟨0, Nat.zero_le _, rfl, ⟨by simp; exact World.ownsRow_nil _ _ _ _, fun p hp => by simp at hp⟩, Below.refl _ _⟩
  case round =>
    obtain ⟨j, hj, rfl, hown, hb⟩ := hrel
    have HOW := Lib.hid hown
    have HBE := Lib.hid hb
    by_cases hlt : j < L.length
    · by_cases hjk : j = k
      · subst hjk
        clear hown hb
        go_wp2
        go_roundw
        case rel => exact ⟨j + 1, by omega, by go_num, by rw [erase_here L j hlt]; exact HOW.out, HBE.out⟩
        case measure => simp [intOf]; omega
      · have hVr := HV.out.fresh (by rw [HB.out]; exact hb)
        obtain ⟨b, off, c', he, _, h1, h2, h3, h4, h5⟩ := hVr.at_ j hlt
        injection he with e1 e2 e3
        subst e1 e3
        have hjk' : ((j : Int) == k) = false := by simp; omega
        have hlt' : (j : Int) < L.length := by omega
        have HE := Lib.hid (erase_step L k j hlt hjk)
        have hlen : ((L.take j).eraseIdx k).length ≤ 1000000 := by
          have := List.length_eraseIdx_le (L.take j) k
          rw [List.length_take] at this
          omega
        have hbs : B ≤ wr.heap.size := by have := hb.size; have := HB.out; omega
        have hba : Below wr.heap.size wr (wr.alloc (.cells #[.int .i64 L[j].1.1, .int .i64 (len L[j].1), .int .i64 L[j].1.2.length, L[j].2] 121)) := (Below.refl _ _).alloc (Nat.le_refl _) _
        obtain ⟨v1, w1, happ, hown1, ho1⟩ := append_row B (wr.alloc (.cells #[.int .i64 L[j].1.1, .int .i64 (len L[j].1), .int .i64 L[j].1.2.length, L[j].2] 121)) _ _
          ⟨by
            refine ⟨hown.1.1, hown.1.2.imp id fun ⟨g, cap, cur, e1, e2, e3, e4⟩ => ⟨g, cap, cur, e1, e2, ?_, e4⟩⟩
            exact (hba.block g (Array.getElem?_eq_some_iff.1 e3).1).trans e3, fun p hp => (hown.2 p hp).only (Only.of_below (F := fun _ => False) hba) (fun _ _ h => h)⟩
          L[j] (h5.only (Only.of_below (F := fun _ => False) hba) (fun _ _ h => h)) (fun b hb e => by have := (hown.1.lt b e).1; have := hb.2; omega) wr.heap.size (fun i u hu => by
            rw [World.cell?_alloc_at _ _ _ _ rfl]
            match i, hu with
            | 0, hu => simpa [cells4] using hu
            | 1, hu => simpa [cells4] using hu
            | 2, hu => simpa [cells4] using hu
            | 3, hu => simpa [cells4] using hu) hlen (by simp; omega) 76
        have HO1 := Lib.hid hown1
        have HW1 : Hid (Below B w w1) := hb.trans ((hba.mono hbs).trans (ho1.below (fun i hi e => by have := (hown.1.lt i e).1; omega) (by simp; omega)))
        generalize L[j].2 = bv at h4 happ HO1
        generalize (L[j].1.1 : Int) = y1 at h1 happ
        generalize (len L[j].1 : Int) = y2 at h2 happ
        generalize (L[j].1.2.length : Int) = y3 at h3 happ
        have HAPP := Lib.hid happ
        clear hown hb hVr h5 hba hown1 ho1 happ
        go_wp2_with (at_builtin; refine wpList_append_eq _ rfl _ _ 76 rfl _ _ _ _ rfl rfl HAPP.out ?_)
        go_wp2
        go_roundw
        case rel => exact ⟨j + 1, by omega, by go_num, by rw [HE.out]; exact HO1.out, HW1.out⟩
        case measure => simp [intOf]; omega
    · have hEJ : L.take j = L := List.take_of_length_le (by omega)
      rw [hEJ] at HOW
      clear hown hb
      go_wp2
      go_ret
      exact ⟨_, rfl, by rw [HB.out]; exact HOW.out, by rw [HB.out]; exact HBE.out⟩

/-- A row more, behind Copy. -/
theorem put_row_at {N : Nat → Prop} (B : Nat) (w4 : World) (v3 : Value) (L : List RV) (h : OwnR N B w4 v3 L) (hN : ∀ b, N b → b < B) (hB : B ≤ w4.heap.size) (r : Row) (hl : L.length ≤ 1000000) (w5 : World) (v5 : Value)
    (hown : w5.ownsRow w4.heap.size 5 1 v5 r.2.length (r.2.map (Value.int .u8))) (hb : Below w4.heap.size w4 w5) :
    ∃ v6 w6, (Builtin.append_ #[76, 76] 76 #[v3, .slice (some ⟨w5.heap.size, 0, none⟩) 1 1]).run Tryz.prog (w5.alloc (.cells #[.int .i64 r.1, .int .i64 (len r), .int .i64 r.2.length, v5] 121)) = .ok v6 w6 ∧
      RowsV (fun b => N b ∨ B ≤ b) w6 v6 (L ++ [(r, v5)]) ∧ Only (fun b => v3.ownBlock = some b) w5 w6 := by
  have hba : Below w5.heap.size w5 (w5.alloc (.cells #[.int .i64 r.1, .int .i64 (len r), .int .i64 r.2.length, v5] 121)) := (Below.refl _ _).alloc (Nat.le_refl _) _
  have hb2 := hb.trans (hba.mono hb.size)
  have hv5 : Bts (w4.heap.size ≤ ·) w5 v5 r.2 := Vals.of_own (by rw [List.length_map]; exact hown)
  obtain ⟨v6, w6, h1, h2, h3⟩ := append_row (N := fun b => N b ∨ w4.heap.size ≤ b) B (w5.alloc (.cells #[.int .i64 r.1, .int .i64 (len r), .int .i64 r.2.length, v5] 121)) v3 L
    ⟨⟨h.1.1, h.1.2.imp id fun ⟨g, cap, cur, e1, e2, e3, e4⟩ => ⟨g, cap, cur, e1, e2, (hb2.block g (Array.getElem?_eq_some_iff.1 e3).1).trans e3, e4⟩⟩,
      fun p hp => ((h.2 p hp).kind (fun _ _ h => .inl h)).only (Only.of_below (F := fun _ => False) hb2) (fun _ _ h => h)⟩
    (r, v5) ((hv5.kind (fun _ _ h => .inr h)).only (Only.of_below (F := fun _ => False) hba) (fun _ _ h => h))
    (fun b hb' e => by
      obtain ⟨e1, e2⟩ := h.1.lt b e
      rcases hb' with hb' | hb'
      · have := hN b hb'; omega
      · omega) w5.heap.size (fun i u hu => by
      rw [World.cell?_alloc_at _ _ _ _ rfl]
      match i, hu with
      | 0, hu => simpa [cells4] using hu
      | 1, hu => simpa [cells4] using hu
      | 2, hu => simpa [cells4] using hu
      | 3, hu => simpa [cells4] using hu) hl (by have := hb2.size; omega) 76
  refine ⟨v6, w6, h1, (h2.rows).kind (fun b _ hb' => ?_), (Only.of_below hba : Only (fun b => v3.ownBlock = some b) w5 _).then_ h3 (fun _ _ e => e)⟩
  rcases hb' with (hb' | hb') | hb'
  · exact .inl hb'
  · exact .inr (by omega)
  · exact .inr hb'

theorem put_row {N : Nat → Prop} (B : Nat) (w4 : World) (v3 : Value) (L : List RV) (h : OwnR N B w4 v3 L) (hN : ∀ b, N b → b < B) (hB : B ≤ w4.heap.size) (r : Row) (hl : L.length ≤ 1000000) (w5 : World) (v5 : Value)
    (hown : w5.ownsRow w4.heap.size 5 1 v5 r.2.length (r.2.map (Value.int .u8))) (hb : Below w4.heap.size w4 w5) :
    ∃ v6 w6, (Builtin.append_ #[76, 76] 76 #[v3, .slice (some ⟨w5.heap.size, 0, none⟩) 1 1]).run Tryz.prog (w5.alloc (.cells #[.int .i64 r.1, .int .i64 (len r), .int .i64 r.2.length, v5] 121)) = .ok v6 w6 ∧
      RowsV (fun b => N b ∨ B ≤ b) w6 v6 (L ++ [(r, v5)]) ∧ Only (B ≤ ·) w5 w6 :=
  let ⟨v6, w6, h1, h2, h3⟩ := put_row_at B w4 v3 L h hN hB r hl w5 v5 hown hb
  ⟨v6, w6, h1, h2, h3.mono (fun i _ e => (h.1.lt i e).1)⟩

/-- An append whose run is known, at a step of a region that draws. -/
theorem step_append_eq {P : Program} {w : World} {ops : Array Oper} {o : Oper} {a : Act} {K : Act → World → Prop} {Q : Exit → Act → World → Prop} {E : Prop} (hg : o.guard = none) (s x : Operand) (t : TypeId)
    (hop : o.op = Op.call { callee := Callee.builtin Builtin.append, args := #[s, x], argTypes := #[t, t] }) (vs vx v' : Value) (w' : World) (hs : a.eval s = vs) (hx : a.eval x = vx)
    (hrun : (Builtin.append_ #[t, t] o.type #[vs, vx]).run P w = .ok v' w') (hK : K (a.put o.dst v') w') : if Region.wanted o (yielded ops a.tmps) = true then Oper.wp P o a w K Q else E := by
  have hw : Region.wanted o (yielded ops a.tmps) = true := by simp [Region.wanted, hg]
  rw [if_pos hw]
  unfold Oper.wp
  simp [execOp, hop, resolve, invoke, builtin, hs, hx, hrun, Result.andThen]
  exact hK

theorem res_3 {fn : Func} {p0 p u : Tmp} (h : fn.results = #[.tmp p0, .cell p 47, .tmp u]) {tmps : Array Value} {w : World} {b : Nat} {x y z : Int} (hp : tmps.getD p undef = .pointer (some ⟨b, 0, none⟩)) (hb : Box3 w b x y z) :
    (results fn tmps).run Tryz.prog w = .ok (.tuple #[tmps.getD p0 undef, .agg #[.int .i64 x, .int .i64 y, .int .i64 z], tmps.getD u undef]) w := by
  simp only [results, h]
  rw [Array.getD_eq_getD_getElem?] at hp
  simp [hp, asAddr, load_box hb]

theorem reffirst_is {N : Nat → Prop} (v : Value) (L : List RV) (n c a : Nat) (ok : Bool) (w : World) (h : RowsV N w v L) (hl : L.length ≤ 1000000) (hn : n ≤ 1000000) (hc1 : 1 ≤ c) (hc : c ≤ 1000000000000000000) (hr : ∀ p ∈ L, p.1.1 + len p.1 ≤ 1000000) (hF : FirstIs (tk (rowsOf L)) n c a ok) :
    Calls Tryz.prog 59 #[v, .int .i64 n, .int .i64 c] w fun e w' => e = .returned (.int .i64 (if ok = true then (a : Int) else -1)) ∧ Below w.heap.size w w' :=
  (reffirst_any v L n c w h hl hn hc1 hc hr).mono fun e w' ⟨a', ok', he, hf, hb⟩ => by
    obtain ⟨rfl, rfl⟩ := firstIs_eq hF hf
    exact ⟨he, hb⟩

def RPutNo (v : Value) (t : Int) (w : World) (e : Ending) (w' : World) : Prop := e = .returned (.tuple #[v, .agg #[.int .i64 0, .int .i64 0, .int .i64 0], .int .i64 t]) ∧ Below w.heap.size w w'
def RPut (N : Nat → Prop) (L : List RV) (a : Nat) (xs : List Int) (w : World) (e : Ending) (w' : World) : Prop :=
  ∃ v' bv, e = .returned (.tuple #[v', .agg #[.int .i64 a, .int .i64 (secs xs.length), .int .i64 xs.length], .int .i64 0]) ∧ RowsV (fun b => N b ∨ w.heap.size ≤ b) w' v' (L ++ [((a, xs), bv)]) ∧ Below w.heap.size w w'

set_option maxHeartbeats 2000000 in
theorem refput_no {N : Nat → Prop} (v : Value) (L : List RV) (n a : Nat) (vb : Value) (xs : List Int) (w : World) (h : RowsV N w v L) (hv : Bts N w vb xs) (hl : L.length ≤ 1000000) (hn : n ≤ 1000000) (hx : xs.length ≤ 1000000000000000000) (hr : ∀ p ∈ L, p.1.1 + len p.1 ≤ 1000000)
    (hF : FirstIs (tk (rowsOf L)) n (secs xs.length) a false) : Calls Tryz.prog 29 #[v, .int .i64 n, vb] w (RPutNo v 3 w) := by
  have BW : Below w.heap.size w (w.alloc (.cells #[.int .i64 0, .int .i64 0, .int .i64 0] 47)) := (Below.refl _ _).alloc (Nat.le_refl _) _
  have hs1 := secs_pos xs.length
  have hs2 : secs xs.length ≤ 1000000000000000000 := by unfold secs; omega
  have HQ := Lib.hid (fun w' => refsec_any xs.length w' hx)
  have HF := Lib.hid (reffirst_is v L n _ a false _ (h.fresh BW) hl hn hs1 hs2 hr hF)
  have X7 := Lib.hid (box3_new w 0 0 0 47)
  have HB := Lib.hid BW
  obtain ⟨a1, c1, rfl⟩ := h.form
  obtain ⟨a2, c2, rfl, _⟩ := hv.form
  obtain ⟨p7, hp7⟩ : ∃ p, w.heap.size = p := ⟨_, rfl⟩
  have HP := Lib.hid hp7
  obtain ⟨q, hq⟩ : ∃ q, secs xs.length = q := ⟨_, rfl⟩
  rw [hq] at HQ HF hs1 hs2
  rw [hp7] at X7
  rw [if_neg (by simp)] at HF
  clear h hv BW hF hq hr
  go_enter Tryz.func29, Tryz.ntmps29
  go_wp2_with fail
  clear hp7
  generalize w.alloc (.cells #[.int .i64 0, .int .i64 0, .int .i64 0] 47) = w0 at X7 HB HF ⊢
  refine (HQ.out _).mono ?_
  rintro e w1 ⟨rfl, rfl⟩
  go_wp2_with fail
  refine HF.out.mono ?_
  rintro e w1 ⟨rfl, b1⟩
  have x7 := X7.out.fresh b1
  have X7 := Lib.hid x7
  have B1 : Hid (Below w.heap.size w w1) := HB.out.trans (b1.mono HB.out.size)
  obtain ⟨y1, y2, y3, yf, _⟩ := x7
  have yf0 := yf 0
  have yf1 := yf 1
  have yf2 := yf 2
  clear b1 yf
  go_wp2_with fail
  have hb6 := X7.out.put 0 0 0
  have ho6 : Only (· = p7) w1 (((w1.setCell ⟨p7, 0, none⟩ (.int .i64 0)).setCell ⟨p7, 1, none⟩ (.int .i64 0)).setCell ⟨p7, 2, none⟩ (.int .i64 0)) := put3_only (Only.refl _ _) (.inl rfl)
  generalize ((w1.setCell ⟨p7, 0, none⟩ (.int .i64 0)).setCell ⟨p7, 1, none⟩ (.int .i64 0)).setCell ⟨p7, 2, none⟩ (.int .i64 0) = w3 at hb6 ho6 ⊢
  (try simp only [Exit.inBlock, Exit.then])
  have hp := HP.out
  refine bodyPost_ret (res_3 rfl rfl hb6) rfl ⟨rfl, B1.out.trans (ho6.below (fun i hi e => by omega) B1.out.size)⟩

set_option maxHeartbeats 4000000 in
theorem refput_yes {N : Nat → Prop} (v : Value) (L : List RV) (n a : Nat) (vb : Value) (xs : List Int) (w : World) (h : RowsV N w v L) (hv : Bts N w vb xs) (hl : L.length ≤ 1000000) (hn : n ≤ 1000000) (hx : xs.length ≤ 1000000) (hr : ∀ p ∈ L, p.1.1 + len p.1 ≤ 1000000)
    (hF : FirstIs (tk (rowsOf L)) n (secs xs.length) a true) : Calls Tryz.prog 29 #[v, .int .i64 n, vb] w (RPut N L a xs w) := by
  have BW : Below w.heap.size w (w.alloc (.cells #[.int .i64 0, .int .i64 0, .int .i64 0] 47)) := (Below.refl _ _).alloc (Nat.le_refl _) _
  have hs1 := secs_pos xs.length
  have hs2 : secs xs.length ≤ 1000000 := by unfold secs; omega
  have ha : a ≤ 1000000 := by
    rcases hF with ⟨_, h1, _⟩ | ⟨h1, _⟩
    · omega
    · cases h1
  have HQ := Lib.hid (fun w' => refsec_any xs.length w' (by omega))
  have HF := Lib.hid (reffirst_is v L n _ a true _ (h.fresh BW) hl hn hs1 (by omega) hr hF)
  have X7 := Lib.hid (box3_new w 0 0 0 47)
  have HB := Lib.hid BW
  have HV := Lib.hid (h.kind (M := fun b => N b ∧ b < w.heap.size) (fun b hb hN => ⟨hN, hb⟩))
  have HVB := Lib.hid hv
  obtain ⟨a1, c1, rfl⟩ := h.form
  obtain ⟨a2, c2, rfl, _⟩ := hv.form
  obtain ⟨p7, hp7⟩ : ∃ p, w.heap.size = p := ⟨_, rfl⟩
  have HP := Lib.hid hp7
  obtain ⟨q, hq⟩ : ∃ q, secs xs.length = q := ⟨_, rfl⟩
  have HQQ := Lib.hid hq
  rw [hq] at HQ HF hs1 hs2
  rw [hp7] at X7
  rw [if_pos rfl] at HF
  clear h hv BW hF hq hr
  go_enter Tryz.func29, Tryz.ntmps29
  go_wp2_with fail
  clear hp7
  generalize w.alloc (.cells #[.int .i64 0, .int .i64 0, .int .i64 0] 47) = w0 at X7 HB HF ⊢
  refine (HQ.out _).mono ?_
  rintro e w1 ⟨rfl, rfl⟩
  go_wp2_with fail
  refine HF.out.mono ?_
  rintro e w1 ⟨rfl, b1⟩
  have B1 : Below w.heap.size w w1 := HB.out.trans (b1.mono HB.out.size)
  have hba : Below w1.heap.size w1 (w1.alloc (.cells #[.int .i64 a, .int .i64 q, .int .i64 xs.length] 47)) := (Below.refl _ _).alloc (Nat.le_refl _) _
  have X11 := box3_new w1 a q xs.length 47
  have hB2 := B1.trans (hba.mono B1.size)
  have hVr : RowsV (fun b => N b ∧ b < w.heap.size) _ _ L := HV.out.fresh hB2
  obtain ⟨v3, w4, happ, hown4, hb4⟩ := append_rows _ _ L hVr hl 76
  have HX7 := Lib.hid ((X7.out.fresh b1).fresh (hba.trans (hb4.mono hba.size)))
  obtain ⟨p11, hp11⟩ : ∃ p, w1.heap.size = p := ⟨_, rfl⟩
  have hp7lt := (X7.out.fresh b1).2.2.2.2
  have HP11 : Hid (w.heap.size < p11 ∧ p11 < w4.heap.size) := ⟨by have := HP.out; omega, by have := hb4.size; rw [World.size_alloc] at this; omega⟩
  have x11 := X11.fresh hb4
  rw [hp11] at x11
  have HX11 := Lib.hid x11
  have hB4 := hB2.trans (hb4.mono hB2.size)
  have HB4 := Lib.hid hB4
  have HAPP := Lib.hid happ
  have hBB : w.heap.size ≤ (w1.alloc (.cells #[.int .i64 a, .int .i64 q, .int .i64 xs.length] 47)).heap.size := hB2.size
  have HPR := Lib.hid (fun w5 v5 ho hb => put_row _ w4 v3 L hown4 (fun b hb => by have := hb.2; omega) hb4.size (a, xs) hl w5 v5 ho hb)
  obtain ⟨BB, hBBe⟩ : ∃ BB, (w1.alloc (.cells #[.int .i64 a, .int .i64 q, .int .i64 xs.length] 47)).heap.size = BB := ⟨_, rfl⟩
  have HBB : Hid (w.heap.size ≤ BB ∧ p11 < BB) := ⟨by omega, by rw [← hBBe, World.size_alloc]; omega⟩
  rw [hBBe] at HPR
  clear hown4 hb4 hVr hB2 hba X11 hB4 happ hBB hBBe b1 B1 hp7lt
  go_wp2_with (at_builtin; refine wpList_append_eq _ rfl _ _ 76 rfl _ _ _ _ rfl rfl HAPP.out ?_)
  go_wp2_with fail
  obtain ⟨x1, x2, x3, _, _⟩ := x11
  have HVB4 : Hid (Bts N w4.drew (.slice a2 xs.length c2) xs) := (HVB.out.only (Only.of_below (F := fun _ => False) HB4.out) (fun _ _ h => h)).heap rfl
  have HCP := Lib.hid (copy_any (.slice a2 xs.length c2) xs w4.drew HVB4.out hx)
  have HPR2 : Hid (∀ w5 v5, w5.ownsRow w4.drew.heap.size 5 1 v5 xs.length (xs.map (Value.int .u8)) → Below w4.drew.heap.size w4.drew w5 → ∃ v6 w6, (Builtin.append_ #[76, 76] 76 #[v3, .slice (some ⟨w5.heap.size, 0, none⟩) 1 1]).run Tryz.prog (w5.alloc (.cells #[.int .i64 a, .int .i64 q, .int .i64 xs.length, v5] 121)) = .ok v6 w6 ∧
      RowsV (fun b => (N b ∧ b < w.heap.size) ∨ BB ≤ b) w6 v6 (L ++ [((a, xs), v5)]) ∧ Only (BB ≤ ·) w5 w6) := fun w5 v5 ho hb => by
    have := HPR.out w5 v5 ho ⟨hb.os, hb.tape, hb.output, hb.size, hb.block⟩
    have e : len (a, xs) = q := HQQ.out
    rw [e] at this
    exact this
  have HK : Hid (∀ (w5 w6 : World), Only (BB ≤ ·) w5 w6 → (w5.cell? ⟨p11, 0, none⟩ = some (.int .i64 a) ∧ w5.cell? ⟨p11, 1, none⟩ = some (.int .i64 q) ∧ w5.cell? ⟨p11, 2, none⟩ = some (.int .i64 xs.length)) →
      (w6.cell? ⟨p11, 0, none⟩ = some (.int .i64 a) ∧ w6.cell? ⟨p11, 1, none⟩ = some (.int .i64 q) ∧ w6.cell? ⟨p11, 2, none⟩ = some (.int .i64 xs.length))) := fun w5 w6 o ⟨h2, h3, h4⟩ => by
    have hp := HBB.out.2
    have e2 : ∀ (j : Nat) (v : Value), w5.cell? ⟨p11, j, none⟩ = some v → w6.cell? ⟨p11, j, none⟩ = some v := fun j v hv => (o.cell (p := ⟨p11, j, none⟩) (World.block_lt_of_cell? _ _ hv) (by show ¬ BB ≤ p11; omega)).trans hv
    exact ⟨e2 _ _ h2, e2 _ _ h3, e2 _ _ h4⟩
  have HKB : Hid (∀ (w5 w6 : World), Below w5.heap.size w5 w6 → (w5.cell? ⟨p11, 0, none⟩ = some (.int .i64 a) ∧ w5.cell? ⟨p11, 1, none⟩ = some (.int .i64 q) ∧ w5.cell? ⟨p11, 2, none⟩ = some (.int .i64 xs.length)) →
      (w6.cell? ⟨p11, 0, none⟩ = some (.int .i64 a) ∧ w6.cell? ⟨p11, 1, none⟩ = some (.int .i64 q) ∧ w6.cell? ⟨p11, 2, none⟩ = some (.int .i64 xs.length))) := fun w5 w6 o h => HK.out w5 w6 (Only.of_below o) h
  have HCP2 : Hid (Calls Tryz.prog 60 #[.slice a2 xs.length c2] w4.drew fun e w5 => ∃ a5 c5 v6 w6, e = .returned (.slice a5 xs.length c5) ∧ Below w4.drew.heap.size w4.drew w5 ∧
      (Builtin.append_ #[76, 76] 76 #[v3, .slice (some ⟨w5.heap.size, 0, none⟩) 1 1]).run Tryz.prog (w5.alloc (.cells #[.int .i64 a, .int .i64 q, .int .i64 xs.length, .slice a5 xs.length c5] 121)) = .ok v6 w6 ∧
      RowsV (fun b => (N b ∧ b < w.heap.size) ∨ BB ≤ b) w6 v6 (L ++ [((a, xs), .slice a5 xs.length c5)]) ∧ Only (BB ≤ ·) w5 w6 ∧
      (w6.cell? ⟨p11, 0, none⟩ = some (.int .i64 a) ∧ w6.cell? ⟨p11, 1, none⟩ = some (.int .i64 q) ∧ w6.cell? ⟨p11, 2, none⟩ = some (.int .i64 xs.length))) := HCP.out.mono fun e w5 ⟨v5, he, ho, hb⟩ => by
    obtain ⟨v6, w6, h1, h2, h3⟩ := HPR2.out w5 v5 ho hb
    obtain ⟨a5, c5, rfl⟩ : ∃ a c, v5 = .slice a xs.length c := by
      rcases ho.2 with ⟨rfl, h0⟩ | ⟨g, cap, cur, rfl, _⟩
      · exact ⟨none, 0, by rw [h0]⟩
      · exact ⟨_, _, rfl⟩
    exact ⟨a5, c5, v6, w6, he, hb, h1, h2, h3, HK.out _ _ h3 (HKB.out _ _ hb ⟨x1, x2, x3⟩)⟩
  clear HPR HPR2 HCP
  go_region_held3 (fun w' => w'.cell? ⟨p11, 0, none⟩ = some (.int .i64 a) ∧ w'.cell? ⟨p11, 1, none⟩ = some (.int .i64 q) ∧ w'.cell? ⟨p11, 2, none⟩ = some (.int .i64 xs.length)) (first | exact hS6 | go_keep | (exact HKB.out _ _ hb5 (by assumption)) | (exact HKB.out _ _ ((Below.refl _ _).alloc (Nat.le_refl _) _) (by assumption))) (first | (go_at_call 60; refine HCP2.out.mono ?_; rintro e w5 ⟨a5, c5, v6, w6, rfl, hb5, happ6, hr6, o6, hS6⟩) | (refine step_append_eq rfl _ _ 76 rfl _ _ _ _ rfl rfl happ6 ?_))
  have hp7' := HP.out
  have hP11 := HP11.out
  have hBB := HBB.out
  have hb5' : Below w4.heap.size w4 w5 := ⟨hb5.os, hb5.tape, hb5.output, hb5.size, hb5.block⟩
  have O6 : Hid (Only (BB ≤ ·) w4 w6) := (Only.of_below hb5' : Only (BB ≤ ·) w4 w5).then_ o6 (fun _ _ h => h)
  have B6 : Hid (Below w.heap.size w w6) := HB4.out.trans (O6.out.below (fun i hi e => by omega) HB4.out.size)
  have x7 := HX7.out.only O6.out (by show ¬ BB ≤ p7; omega)
  have X7' := Lib.hid x7
  obtain ⟨y1, y2, y3, yf, _⟩ := x7
  have yf0 := yf 0
  have yf1 := yf 1
  have yf2 := yf 2
  obtain ⟨s1, s2, s3⟩ := hS6
  have HR6 := Lib.hid hr6
  have hne : ¬ p11 = p7 := by omega
  clear yf hb5 hb5' o6 happ6 hr6 x1 x2 x3
  go_wp2_with fail
  go_region
  go_wp2_with fail
  have hb9 := (X7'.out.put a q xs.length).fresh (below_drewN _ _ 1)
  have ho9 : Only (· = p7) w6 ((((w6.setCell ⟨p7, 0, none⟩ (.int .i64 a)).setCell ⟨p7, 1, none⟩ (.int .i64 q)).setCell ⟨p7, 2, none⟩ (.int .i64 xs.length)).drewN 1) := (put3_only (F := (· = p7)) (Only.refl _ _) (.inl rfl)).drewN 1
  have e9 : (((w6.setCell ⟨p7, 0, none⟩ (.int .i64 a)).setCell ⟨p7, 1, none⟩ (.int .i64 q)).setCell ⟨p7, 2, none⟩ (.int .i64 xs.length)).drewN 1 = (((w6.setCell ⟨p7, 0, none⟩ (.int .i64 a)).setCell ⟨p7, 1, none⟩ (.int .i64 q)).setCell ⟨p7, 2, none⟩ (.int .i64 xs.length)).drew := rfl
  rw [e9] at hb9 ho9
  generalize (((w6.setCell ⟨p7, 0, none⟩ (.int .i64 a)).setCell ⟨p7, 1, none⟩ (.int .i64 q)).setCell ⟨p7, 2, none⟩ (.int .i64 xs.length)).drew = w9 at hb9 ho9 ⊢
  (try simp only [Exit.inBlock, Exit.then])
  have hRV : RowsV (fun b => (N b ∧ b < w.heap.size) ∨ BB ≤ b) w9 v6 (L ++ [((a, xs), .slice a5 xs.length c5)]) := HR6.out.only ho9 (fun b hb e => by
    rcases hb with hb | hb
    · have := hb.2; omega
    · omega)
  refine bodyPost_ret (res_3 rfl rfl hb9) rfl ⟨v6, _, by rw [HQQ.out]; rfl, hRV.kind (fun b _ hb => by
    rcases hb with hb | hb
    · exact .inl hb.1
    · exact .inr (by omega)), B6.out.trans (ho9.below (fun i hi e => by omega) B6.out.size)⟩
end Go.Proofs.YtccpmaahnfgkeaaGreatDoor.R4
