/- What Store and Drop of package second do with whatever comes; append on numbers; plain facts on what Near tells. -/
import Derived.Test.YtccpmaahnfgkeaaGreatDoorSNw
import Derived.Test.YtccpmaahnfgkeaaGreatDoorSDo
namespace Go.Proofs.YtccpmaahnfgkeaaGreatDoor
set_option maxRecDepth 1000000
open Go.ChangeShapes Go.WideShapes Go.ChangeAt Go.RowKit
open Wd (Ob okO encO refsO ObjAt In64 I64)

/-- What Store tells, and what the space holds then. -/
def StoreIs (n : Nat) (L : List Ent) (i : Int) (o : Ob) (t : Int) (L' : List Ent) : Prop :=
  (hasE L i = false ∧ t = 4 ∧ L' = L) ∨ (∃ x, x ∈ L ∧ (x.id : Int) = i ∧ ((okO o = false ∧ t = 2 ∧ L' = L) ∨
    (okO o = true ∧ ∃ a ok, Room n (rowsE L) (erow x) (szO o) a ok ∧ L' = (if ok = true then setE L x.id o a else L) ∧ t = (if ok = true then 0 else 3))))
theorem room_or {n : Nat} {R : List Row} {r : Row} {p : Nat} : ∃ a ok, Room n R r p a ok := by
  by_cases h : p = len r
  · exact ⟨r.1, true, .inl ⟨h, rfl, rfl⟩⟩
  · obtain ⟨a, ok, hf⟩ := first_ex (tk (without R (ext r))) n p
    exact ⟨a, ok, .inr ⟨h, hf⟩⟩
theorem StorePost.mono {c : Sc} {n u u' m : Nat} {L : List Ent} {t : Int} {w w' : World} {e : Ending} (h : StorePost c n u m L t w e w') (hu : u ≤ u') : StorePost c n u' m L t w e w' := ⟨h.1, h.2.1.mono hu, h.2.2⟩
theorem store_gen (c : Sc) (n u m : Nat) (L : List Ent) (v : Value) (o : Ob) (i : Int) (hi : W64 i) (w : World) (h : SecAt w c n u m L) (ho : ObjAt w v o) (hu : u ≤ 100000000000000) :
    ∃ t L', StoreIs n L i o t L' ∧ Calls Tryz.prog 12 #[.pointer (some ⟨c.q, 0, none⟩), .int .i64 i, v] w (StorePost c n (u + 1) m L' t w) := by
  cases hf : findE L i with
  | none =>
    have hh : hasE L i = false := by unfold hasE; rw [hf]; rfl
    exact ⟨4, L, .inl ⟨hh, rfl, rfl⟩, (store_none c n u m L v o i hi w h ho hh).mono fun _ _ h => h.mono (Nat.le_succ u)⟩
  | some x =>
    have hh : hasE L i = true := by unfold hasE; rw [hf]; rfl
    obtain ⟨hx, he⟩ := findE_some hf
    cases hok : okO o with
    | false => exact ⟨2, L, .inr ⟨x, hx, he, .inl ⟨hok, rfl, rfl⟩⟩, (store_bad c n u m L v o i hi w h ho hh hok).mono fun _ _ h => h.mono (Nat.le_succ u)⟩
    | true =>
      obtain ⟨a, ok, hR⟩ := room_or (n := n) (R := rowsE L) (r := erow x) (p := szO o)
      have hc := sstore_any c n u m L v o x a ok w h ho hx hok hu hR
      rw [he] at hc
      exact ⟨_, _, .inr ⟨x, hx, he, .inr ⟨hok, a, ok, hR, rfl, rfl⟩⟩, hc.mono fun _ _ h => h⟩
/-- What Drop of one tells, and what the space holds then. -/
def DropIs (L : List Ent) (i : Int) (t : Int) (L' : List Ent) : Prop := (hasE L i = true ∧ t = 0 ∧ L' = dropE L [i]) ∨ (hasE L i = false ∧ t = 4 ∧ L' = L)
theorem drop_gen (c : Sc) (n u m : Nat) (L : List Ent) (i : Int) (hi : W64 i) (w : World) (h : SecAt w c n u m L) :
    ∃ t L', DropIs L i t L' ∧ Calls Tryz.prog 14 #[.pointer (some ⟨c.q, 0, none⟩), .slice (some ⟨w.heap.size, 0, none⟩) 1 1] (w.alloc (.cells #[.int .i64 i] 3)) (DropPost c n u m L' t w) := by
  cases hh : hasE L i with
  | true => exact ⟨0, _, .inl ⟨hh, rfl, rfl⟩, drop_one_yes c n u m L i w h hi hh⟩
  | false => exact ⟨4, _, .inr ⟨hh, rfl, rfl⟩, drop_one_no c n u m L i w h hi hh⟩

theorem append_nil_ints {w : World} {base n : Nat} {v : Value} {xs : List Value} (hown : w.ownsRow base 3 1 v n xs) (c : Nat) (ty : TypeId) :
    (Builtin.append_ #[23, 23] ty #[v, .slice none 0 c]).run Tryz.prog w = .ok v w := by
  obtain ⟨i0, hi, hz0, hz1, hz2⟩ := info_parts Tryz.info3
  rcases hown.2 with ⟨rfl, h0⟩ | ⟨g, cap, cur, rfl, hb, hg, hn, _⟩
  · simp [Builtin.append_, run_underlying Tryz.underlying23, sizeOf, typeInfo, hi, Builtin.lenOf, Builtin.firstCells]
  · have := run_append_room_src (P := Tryz.prog) (w := w) 23 23 ty 3 i0 Tryz.underlying23 hi g 0 n cap (.slice none 0 c) 0 [] (Src.ofNil _ Tryz.underlying23 c) (by omega) (by simp) (by simp)
    simpa [World.setCells] using this
/-- append(b, x...) where b is one's own and x is any row of numbers. -/
theorem append_ints {ops : Array Oper} {rest : List Oper} {o : Oper} {a : Act} {Q : Exit → Act → World → Prop} {w : World} (hgd : o.guard = none) (s x : Operand)
    (ho : o.op = .call { callee := .builtin .append, args := #[s, x], argTypes := #[23, 23] }) (base : Nat) (v : Value) (xs : List Int) (hs : a.eval s = v)
    (hown : w.ownsRow base 3 1 v xs.length (xs.map (Value.int .i64))) (vx : Value) (ys : List Int) (hx : a.eval x = vx) (hb : Wd.Ints w vx ys) (hl : xs.length + ys.length ≤ 1000000) (hbase : base ≤ w.heap.size)
    (h : ∀ v' w', w'.ownsRow base 3 1 v' (xs ++ ys).length ((xs ++ ys).map (Value.int .i64)) → Below base w w' → wpList Tryz.prog ops Q rest (a.put o.dst v') w') : wpList Tryz.prog ops Q (o :: rest) a w := by
  obtain ⟨i0, hi, hz0, hz1, hz2⟩ := info_parts Tryz.info3
  obtain ⟨a', c, rfl, hb⟩ := hb
  rcases a' with _ | ⟨b, off, spot⟩
  · have h0 : ys = [] := by
      rcases hb with h | ⟨b, off, ha, _⟩
      · exact h
      · cases ha
    subst h0
    refine Wd.wpList_append_eq w hgd s x 23 ho v _ v w hs hx (append_nil_ints hown c _) (h v w ?_ (Below.refl _ _))
    rw [List.append_nil]; exact hown
  · refine wpList_append_own _ hgd s x 23 ho base 3 i0 (.int .i64 0) 1 8 Tryz.underlying23 hi hz0 hz1 hz2 rfl (by decide) v _ _ hs hown ⟨b, off, spot⟩ ys.length c (ys.map (Value.int .i64)) hx (by simp) ?_ ?_ ?_ (by omega) hbase ?_
    · rcases hb with rfl | ⟨b', off', ha, hb⟩
      · intro j u hu; simp at hu
      · injection ha with ha
        injection ha with e1 e2 e3
        subst e1 e2 e3
        intro j u hu
        have hj : j < ys.length := by
          have := (List.getElem?_eq_some_iff.1 hu).1; simpa using this
        have hu' : u = .int .i64 (ys.getD j 0) := by
          rw [List.getElem?_map, List.getElem?_eq_getElem hj] at hu
          simp [List.getD, List.getElem?_eq_getElem hj] at hu ⊢
          exact hu.symm
        rw [add_plain, hu']
        exact hb j hj
    · intro u hu; simp at hu; obtain ⟨x, _, rfl⟩ := hu; rfl
    · unfold maxLen; omega
    · intro v' w' h1 h2 _
      refine h v' w' ?_ ((Below.refl _ _).grown h2 hbase fun g hg => (hown.lt g hg).1)
      rw [List.length_append, List.map_append]; exact h1

/-! What Near tells. -/
theorem reach_into {L : List Ent} {r1 r2 : List Int} (h : ∀ i, i ∈ r1 → hasE L i = true → Reach L r2 i) {i : Int} (hi : Reach L r1 i) : Reach L r2 i :=
  hi (fun i => Reach L r2 i) (fun j hj hh => h j hj hh) (fun _ _ he hp hr hh => reach_step he hp hr hh)
/-- Near of what Near told is that. -/
theorem near_again {L : List Ent} {r ys zs : List Int} (h : NearIs L r ys) (h' : NearIs L ys zs) : zs = ys :=
  rise_eq h'.1 h.1 fun i => by
    rw [h'.2 i]
    exact ⟨fun hi => (h.2 i).2 (reach_into (fun j hj _ => (h.2 j).1 hj) hi), fun hi => reach_root hi (reach_has ((h.2 i).1 hi))⟩
/-- Near of all is all. -/
theorem near_all {m : Nat} {L : List Ent} (hg : GoodE m L) {ys : List Int} (h : NearIs L (idsE L) ys) : ys = idsE L :=
  rise_eq h.1 (ids_rise hg) fun i => by
    rw [h.2 i]
    exact ⟨fun hi => hasE_iff.1 (reach_has hi), fun hi => reach_root hi (hasE_iff.2 hi)⟩
theorem near_nodup {L : List Ent} {r ys : List Int} (h : NearIs L r ys) : ys.Nodup := h.1.imp fun h => by omega
theorem near_more {L : List Ent} {a b xs ys : List Int} (h : NearIs L a xs) (h' : NearIs L (a ++ b) ys) : xs.length ≤ ys.length :=
  len_le_of_sub (near_nodup h) fun i hi => (h'.2 i).2 (reach_into (fun _ hj hh => reach_root (List.mem_append.2 (.inl hj)) hh) ((h.2 i).1 hi))
theorem near_ids {L : List Ent} {r ys : List Int} (h : NearIs L r ys) : ys.length ≤ (idsE L).length :=
  len_le_of_sub (near_nodup h) fun i hi => hasE_iff.1 (reach_has ((h.2 i).1 hi))
theorem near_w64 {m : Nat} {L : List Ent} (hg : GoodE m L) (hm : m ≤ 1048576) {r ys : List Int} (h : NearIs L r ys) : ∀ y ∈ ys, W64 y := fun y hy => ids_w64 hg hm y (hasE_iff.1 (reach_has ((h.2 y).1 hy)))
theorem near_nil {L : List Ent} {ys : List Int} (h : NearIs L [] ys) : ys = [] := by
  cases ys with
  | nil => rfl
  | cons y ys =>
    have := (h.2 y).1 List.mem_cons_self
    exact (this (fun _ => False) (fun _ hj _ => by cases hj) (fun _ _ _ hp _ _ => hp)).elim
theorem near_root {L : List Ent} {r ys : List Int} (h : NearIs L r ys) {i : Int} (hi : i ∈ r) : decide (i ∈ ys) = hasE L i := by
  rw [Bool.eq_iff_iff, decide_eq_true_eq, h.2 i]
  exact ⟨reach_has, fun hh => reach_root hi hh⟩
end Go.Proofs.YtccpmaahnfgkeaaGreatDoor
