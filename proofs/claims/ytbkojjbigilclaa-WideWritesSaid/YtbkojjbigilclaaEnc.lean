/- What Encode of package wide returns of any object: its bytes, in new memory, or the error. -/
import Derived.Test.YtbkojjbigilclaaRch
import Derived.Deep.RegionHeld3
import Derived.Deep.AppendSrc
namespace Go.Proofs.Ytbkojjbigilclaa
open Go.ChangeShapes Go.WideShapes Go.ChangeAt Go.RowKit
set_option maxRecDepth 1000000

theorem size_form (c k : Int) (l b : List Int) (a1 a2 : Option Addr) (c1 c2 : Nat) (w : World) :
    Calls Try.prog 21 #[.agg #[.int .i64 c, .int .i64 k, .slice a1 l.length c1, .slice a2 b.length c2]] w (SizePost (sizeO ⟨c, k, l, b⟩) w) := by
  by_cases h1 : k = 1
  · subst h1
    go_enter Try.func21, Try.ntmps21
    go_wp2
    go_ret
    exact ⟨rfl, (Below.refl _ _).alloc (Nat.le_refl _) _⟩
  by_cases h2 : k = 2
  · subst h2
    go_enter Try.func21, Try.ntmps21
    go_wp2
    go_ret
    exact ⟨rfl, (Below.refl _ _).alloc (Nat.le_refl _) _⟩
  · have e1 : (k == 1) = false := by simpa using h1
    have e2 : (k == 2) = false := by simpa using h2
    go_enter Try.func21, Try.ntmps21
    go_wp2
    go_ret
    refine ⟨?_, (Below.refl _ _).alloc (Nat.le_refl _) _⟩
    simp [sizeO, h1, h2]

/-- What Encode gives: the bytes, in new memory, and no error; or the error. -/
def EncYes (xs : List Int) (w : World) (e : Ending) (w' : World) : Prop :=
  ∃ v, e = .returned (.tuple #[v, .int .i64 0]) ∧ w'.ownsRow w.heap.size 5 1 v xs.length (xs.map (Value.int .u8)) ∧ Below w.heap.size w w'
def EncNo (w : World) (e : Ending) (w' : World) : Prop := e = .returned (.tuple #[.slice none 0 0, .int .i64 2]) ∧ Below w.heap.size w w'

theorem chk_is {o : Ob} (h : okO o = true) : chk o = 0 := by simp [chk, h]
theorem chk_not {o : Ob} (h : okO o = false) : chk o = 2 := by simp [chk, h]

set_option maxHeartbeats 1000000 in
theorem encode_not (v : Value) (o : Ob) (w : World) (h : ObjAt w v o) (hok : okO o = false) :
    Calls Try.prog 13 #[v] w (EncNo w) := by
  have HO := Lib.hid h
  have HC := Lib.hid (fun w' h' => check_all v o w' h')
  obtain ⟨wv, bv, rfl, _⟩ := h
  go_enter Try.func13, Try.ntmps13
  go_wp2_with fail
  refine (HC.out _ (HO.out.kept ((Below.refl _ _).alloc (Nat.le_refl _) _))).mono ?_
  rintro e w1 ⟨rfl, hb1⟩
  rw [chk_not hok]
  have HB1 := Lib.hid (((Below.refl _ _).alloc (Nat.le_refl _) _).trans (hb1.mono (by simp)) : Below w.heap.size w w1)
  clear hb1
  go_wp2
  go_ret2
  exact ⟨rfl, HB1.out⟩

theorem encode_no (v : Value) (o : Ob) (w : World) (h : ObjAt w v o) (_ : Short o) (hok : okO o = false) : Calls Try.prog 13 #[v] w (EncNo w) := encode_not v o w h hok
theorem ints3 (w : World) (x y z : Int) : Ints (w.alloc (.cells #[.int .i64 x, .int .i64 y, .int .i64 z] 3)) (.slice (some ⟨w.heap.size, 0, none⟩) 3 3) [x, y, z] := by
  refine ⟨_, _, rfl, .inr ⟨_, _, rfl, fun i hi => ?_⟩⟩
  rw [World.cell?_alloc_at _ _ _ _ rfl]
  match i, hi with
  | 0, _ => rfl
  | 1, _ => rfl
  | 2, _ => rfl

theorem wpList_append_eq {P : Program} (w : World) {ops : Array Oper} {rest : List Oper} {o : Oper} {a : Act} {Q : Exit → Act → World → Prop} (hg : o.guard = none) (s x : Operand) (t : TypeId)
    (hop : o.op = Op.call { callee := Callee.builtin Builtin.append, args := #[s, x], argTypes := #[t, t] }) (vs vx v' : Value) (w' : World) (hs : a.eval s = vs) (hx : a.eval x = vx)
    (hrun : (Builtin.append_ #[t, t] o.type #[vs, vx]).run P w = .ok v' w') (hK : wpList P ops Q rest (a.put o.dst v') w') : wpList P ops Q (o :: rest) a w := by
  refine wpList_plain hg fun K hK' => ?_
  unfold Oper.wp
  simp [execOp, hop, resolve, invoke, builtin, hs, hx, hrun, Result.andThen]
  exact hK' _ _ hK

theorem append_nil_run {w : World} {base n : Nat} {v : Value} {xs : List Value} (hown : w.ownsRow base 5 1 v n xs) (c : Nat) (ty : TypeId) :
    (Builtin.append_ #[23, 23] ty #[v, .slice none 0 c]).run Try.prog w = .ok v w := by
  obtain ⟨i0, hi, hz0, hz1, hz2⟩ := info_parts Try.info5
  rcases hown.2 with ⟨rfl, h0⟩ | ⟨g, cap, cur, rfl, hb, hg, hn, _⟩
  · simp [Builtin.append_, run_underlying Try.underlying23, sizeOf, typeInfo, hi, Builtin.lenOf, Builtin.firstCells]
  · have := run_append_room_src (P := Try.prog) (w := w) 23 23 ty 5 i0 Try.underlying23 hi g 0 n cap (.slice none 0 c) 0 [] (Src.ofNil _ Try.underlying23 c) (by omega) (by simp) (by simp)
    simpa [World.setCells] using this

/-- append(b, x...) where b is one's own and x is any row of bytes. -/
theorem append_bts {ops : Array Oper} {rest : List Oper} {o : Oper} {a : Act} {Q : Exit → Act → World → Prop} {w : World} (hgd : o.guard = none) (s x : Operand)
    (ho : o.op = .call { callee := .builtin .append, args := #[s, x], argTypes := #[23, 23] }) (base : Nat) (v : Value) (xs : List Int) (hs : a.eval s = v)
    (hown : w.ownsRow base 5 1 v xs.length (xs.map (Value.int .u8))) (vx : Value) (ys : List Int) (hx : a.eval x = vx) (hb : Bts w vx ys) (hl : xs.length + ys.length ≤ 1000000) (hbase : base ≤ w.heap.size)
    (h : ∀ v' w', w'.ownsRow base 5 1 v' (xs ++ ys).length ((xs ++ ys).map (Value.int .u8)) → Below base w w' → wpList Try.prog ops Q rest (a.put o.dst v') w') : wpList Try.prog ops Q (o :: rest) a w := by
  obtain ⟨i0, hi, hz0, hz1, hz2⟩ := info_parts Try.info5
  obtain ⟨a', c, rfl, hb⟩ := hb
  rcases a' with _ | ⟨b, off, spot⟩
  · have h0 : ys = [] := by
      rcases hb with h | ⟨b, off, ha, _⟩
      · exact h
      · cases ha
    subst h0
    refine wpList_append_eq w hgd s x 23 ho v _ v w hs hx (append_nil_run hown c _) (h v w ?_ (Below.refl _ _))
    rw [List.append_nil]; exact hown
  · refine wpList_append_own _ hgd s x 23 ho base 5 i0 (.int .u8 0) 1 1 Try.underlying23 hi hz0 hz1 hz2 rfl (by decide) v _ _ hs hown ⟨b, off, spot⟩ ys.length c (ys.map (Value.int .u8)) hx (by simp) ?_ ?_ ?_ (by omega) hbase ?_
    · rcases hb with rfl | ⟨b', off', ha, hb⟩
      · intro j u hu; simp at hu
      · injection ha with ha
        injection ha with e1 e2 e3
        subst e1 e2 e3
        intro j u hu
        have hj : j < ys.length := by
          have := (List.getElem?_eq_some_iff.1 hu).1; simpa using this
        have hu' : u = .int .u8 (ys.getD j 0) := by
          rw [List.getElem?_map, List.getElem?_eq_getElem hj] at hu
          simp [List.getD, List.getElem?_eq_getElem hj] at hu ⊢
          exact hu.symm
        rw [add_plain, hu']
        exact hb j hj
    · intro u hu; simp at hu; obtain ⟨x, _, rfl⟩ := hu; rfl
    · unfold maxLen; omega
    · intro v' w' h1 h2 _
      refine h v' w' ?_ ((Below.refl _ _).grown h2 hbase fun g hg => (hown.lt g hg).1)
      rw [List.length_append, List.map_append]; exact h1

theorem own_kept {w w' : World} {base n : Nat} {e : TypeId} {v : Value} {xs : List Value} (h : w.ownsRow base e 1 v n xs) (hb : Below w.heap.size w w') : w'.ownsRow base e 1 v n xs :=
  ⟨h.1, h.2.imp id fun ⟨g, cap, cur, h1, h2, h3, h4⟩ => ⟨g, cap, cur, h1, h2, (hb.block g (Array.getElem?_eq_some_iff.1 h3).1).trans h3, h4⟩⟩
theorem own_down {w : World} {base base' n : Nat} {e : TypeId} {v : Value} {xs : List Value} (h : w.ownsRow base e 1 v n xs) (hb : base' ≤ base) : w.ownsRow base' e 1 v n xs :=
  ⟨h.1, h.2.imp id fun ⟨g, cap, cur, h1, h2, h3⟩ => ⟨g, cap, cur, h1, Nat.le_trans hb h2, h3⟩⟩

set_option maxHeartbeats 2000000 in
theorem encode_yes (v : Value) (o : Ob) (w : World) (h : ObjAt w v o) (hok : okO o = true) :
    Calls Try.prog 13 #[v] w (EncYes (encO o) w) := by
  obtain ⟨i0, hi, hz0, hz1, hz2⟩ := info_parts Try.info5
  have hs : Short o := by
    obtain ⟨_, ⟨_, hb, hl, _⟩ | ⟨_, hl, hb⟩⟩ := (okO_iff o).1 hok
    · exact ⟨by omega, by rw [hb]; simp⟩
    · exact ⟨by rw [hl]; simp, by omega⟩
  have HO := Lib.hid h
  have HC := Lib.hid (fun w' h' => check_any v o w' h' hs)
  obtain ⟨wv, bv, rfl, hw, hb, _⟩ := h
  have HW := Lib.hid hw
  have HB := Lib.hid hb
  obtain ⟨_, _, a1, c1, rfl, _⟩ := hw
  obtain ⟨_, _, a2, c2, rfl, _⟩ := hb
  go_enter Try.func13, Try.ntmps13
  go_wp2_with fail
  refine (HC.out _ (HO.out.kept ((Below.refl _ _).alloc (Nat.le_refl _) _))).mono ?_
  rintro e w1 ⟨rfl, hb1⟩
  rw [chk_is hok]
  obtain ⟨b0, b1, b2, b3⟩ := box_cells hb1
  have HB1 := Lib.hid (((Below.refl _ _).alloc (Nat.le_refl _) _).trans (hb1.mono (by simp)) : Below w.heap.size w w1)
  clear hb1
  generalize hp : w.heap.size = p at b0 b1 b2 b3
  have HP := Lib.hid hp
  clear hp
  have HOK := Lib.hid hok
  clear hok
  obtain ⟨c, k, l, b⟩ := o
  simp only at *
  have HZ := Lib.hid (fun w => size_form c k l b a1 a2 c1 c2 w)
  generalize hn : sizeO ⟨c, k, l, b⟩ = n at HZ
  have HNs := Lib.hid hn
  clear hn hs
  have HA : Hid (∀ (x y z : Int) (w : World), Calls Try.prog 30 #[.slice (some ⟨w.heap.size, 0, none⟩) 3 3] (w.alloc (.cells #[.int .i64 x, .int .i64 y, .int .i64 z] 3)) (Wrote (w.alloc (.cells #[.int .i64 x, .int .i64 y, .int .i64 z] 3)).heap.size (w.alloc (.cells #[.int .i64 x, .int .i64 y, .int .i64 z] 3)) (allB [x, y, z]))) := fun x y z w =>
    all_any _ [x, y, z] _ (ints3 w x y z) (by simp)
  have HK : Hid (∀ (wa wb : World), Below wa.heap.size wa wb → (wa.cell? ⟨p, 0, none⟩ = some (.int .i64 c) ∧ wa.cell? ⟨p, 1, none⟩ = some (.int .i64 k) ∧ wa.cell? ⟨p, 2, none⟩ = some (.slice a1 l.length c1) ∧ wa.cell? ⟨p, 3, none⟩ = some (.slice a2 b.length c2)) → (wb.cell? ⟨p, 0, none⟩ = some (.int .i64 c) ∧ wb.cell? ⟨p, 1, none⟩ = some (.int .i64 k) ∧ wb.cell? ⟨p, 2, none⟩ = some (.slice a1 l.length c1) ∧ wb.cell? ⟨p, 3, none⟩ = some (.slice a2 b.length c2))) := fun wa wb hb ⟨h1, h2, h3, h4⟩ =>
    ⟨(hb.cell (World.block_lt_of_cell? _ _ h1)).trans h1, (hb.cell (World.block_lt_of_cell? _ _ h2)).trans h2, (hb.cell (World.block_lt_of_cell? _ _ h3)).trans h3, (hb.cell (World.block_lt_of_cell? _ _ h4)).trans h4⟩
  have HK2 : Hid (∀ (o : Obj) (wa wb : World), Below (wa.alloc o).heap.size (wa.alloc o) wb → (wa.cell? ⟨p, 0, none⟩ = some (.int .i64 c) ∧ wa.cell? ⟨p, 1, none⟩ = some (.int .i64 k) ∧ wa.cell? ⟨p, 2, none⟩ = some (.slice a1 l.length c1) ∧ wa.cell? ⟨p, 3, none⟩ = some (.slice a2 b.length c2)) → (wb.cell? ⟨p, 0, none⟩ = some (.int .i64 c) ∧ wb.cell? ⟨p, 1, none⟩ = some (.int .i64 k) ∧ wb.cell? ⟨p, 2, none⟩ = some (.slice a1 l.length c1) ∧ wb.cell? ⟨p, 3, none⟩ = some (.slice a2 b.length c2))) := fun o wa wb hb h =>
    HK.out _ _ (((Below.refl _ _).alloc (Nat.le_refl _) _).trans (hb.mono (by simp))) h
  go_wp2
  go_region_held3 (fun w' => w'.cell? ⟨p, 0, none⟩ = some (.int .i64 c) ∧ w'.cell? ⟨p, 1, none⟩ = some (.int .i64 k) ∧ w'.cell? ⟨p, 2, none⟩ = some (.slice a1 l.length c1) ∧ w'.cell? ⟨p, 3, none⟩ = some (.slice a2 b.length c2)) (first | go_keep | (exact HK.out _ _ hb5 (by assumption)) | (exact HK.out _ _ hb6 (by assumption)) | (exact HK2.out _ _ _ hb6 (by assumption))) (first | (go_at_call 21; refine (HZ.out _).mono ?_; rintro e w5 ⟨rfl, hb5⟩) | (go_at_call 30; refine (HA.out _ _ _ _).mono ?_; rintro e w6 ⟨v6, rfl, hv6, hb6⟩))
  have hd : Below w1.heap.size w1 w1.drew := below_drewN _ _ 1
  have s1 := HB1.out.size
  have B5 : Below w.heap.size w w5 := (HB1.out.trans (hd.mono s1)).trans (hb5.mono s1)
  have s5 := B5.size
  have B6 : Below w.heap.size w w6 := (B5.alloc s5 _).trans (hb6.mono (by simp; omega))
  have s6 := B6.size
  have O6 := own_down hv6 (show w.heap.size ≤ _ by simp; omega)
  have hc : ∀ (j : Nat) (u : Value), w1.cell? ⟨p, j, none⟩ = some u → w6.cell? ⟨p, j, none⟩ = some u := fun j u hu => by
    have l1 : p < w1.heap.size := World.block_lt_of_cell? _ _ hu
    have h5 := (hb5.cell (p := ⟨p, j, none⟩) l1).trans hu
    have l5 : p < w5.heap.size := World.block_lt_of_cell? _ _ h5
    exact (hb6.cell (p := ⟨p, j, none⟩) (by simp; omega)).trans ((World.cell?_alloc_lt _ _ _ l5).trans h5)
  have d0 := hc 0 _ b0
  have d1 := hc 1 _ b1
  have d2 := hc 2 _ b2
  have d3 := hc 3 _ b3
  have HB6 := Lib.hid B6
  have HO6 := Lib.hid O6
  have HL6 := Lib.hid (show (allB [c, k, (n : Int)]).length = 12 by rw [allB_len]; rfl)
  clear hc b0 b1 b2 b3 hv6 hb6 hb5 O6 B6 B5 hd
  generalize hal : allB [c, k, (n : Int)] = al at HO6 HL6
  have HAL := Lib.hid hal
  clear hal
  by_cases h1 : k = 1
  · subst h1
    have hl : l.length ≤ 1000 := by
      rcases ((okO_iff _).1 HOK.out).2 with ⟨_, _, h, _⟩ | ⟨h, _⟩
      · exact h
      · exact absurd h (show ¬ (1 : Int) = 2 by decide)
    have HE := Lib.hid (show encO ⟨c, 1, l, b⟩ = al ++ allB l by unfold encO; rw [HNs.out, HAL.out]; rfl)
    have HLL := Lib.hid (allB_len l)
    go_wp2_with fail
    refine (all_any _ l _ ((HW.out.1.kept HB6.out)) hl).mono ?_
    rintro e w7 ⟨v7, rfl, hv7, hb7⟩
    have HB7 := Lib.hid hb7
    have HV7 := Lib.hid hv7
    have O7 := own_kept HO6.out hb7
    clear hv7 hb7
    go_wp2_with (at_builtin; refine append_bts rfl _ _ rfl w.heap.size _ al rfl O7 _ (allB l) rfl (own_bts HV7.out) ?c3 ?c4 ?_)
    case c3 => rw [HL6.out, HLL.out]; omega
    case c4 => have := HB7.out.size; omega
    intro v8 w8 hv8 hb8
    have HV8 := Lib.hid hv8
    have HB8 := Lib.hid hb8
    clear hv8 hb8 O7
    go_wp2
    go_ret2
    refine ⟨_, rfl, ?_, (HB6.out.trans (HB7.out.mono s6)).trans HB8.out⟩
    rw [HE.out, List.length_append, List.map_append]; exact HV8.out
  · obtain ⟨hk, hbl⟩ : k = 2 ∧ b.length ≤ 1000 := by
      rcases ((okO_iff _).1 HOK.out).2 with ⟨h, _⟩ | ⟨h, _, h'⟩
      · exact absurd h h1
      · exact ⟨h, h'⟩
    subst hk
    have HE := Lib.hid (show encO ⟨c, 2, l, b⟩ = al ++ b by unfold encO; rw [HNs.out, HAL.out]; rfl)
    have O7 := HO6.out
    go_wp2_with (at_builtin; refine append_bts rfl _ _ rfl w.heap.size _ al rfl O7 _ b rfl (HB.out.1.kept HB6.out) ?c3 ?c4 ?_)
    case c3 => rw [HL6.out]; omega
    case c4 => omega
    intro v8 w8 hv8 hb8
    have HV8 := Lib.hid hv8
    have HB8 := Lib.hid hb8
    clear hv8 hb8 O7
    go_wp2
    go_ret2
    refine ⟨_, rfl, ?_, HB6.out.trans HB8.out⟩
    rw [HE.out, List.length_append, List.map_append]; exact HV8.out
end Go.Proofs.Ytbkojjbigilclaa
