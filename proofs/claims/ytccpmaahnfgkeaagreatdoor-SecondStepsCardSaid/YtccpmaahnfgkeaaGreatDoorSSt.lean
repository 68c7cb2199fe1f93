/- What the function Store of package second does. No condition but those that each statement names. -/
import Derived.Test.YtccpmaahnfgkeaaGreatDoorSDp
namespace Go.Proofs.YtccpmaahnfgkeaaGreatDoor
set_option maxRecDepth 1000000
open Go.ChangeShapes Go.WideShapes Go.ChangeAt Go.RowKit
open Wd (Ob okO encO refsO ObjAt In64 I64)

/-! The objects where one is another one. -/
def setE (L : List Ent) (i : Nat) (o : Ob) (a : Nat) : List Ent := L.map fun e => if e.id = i then ⟨i, o, a⟩ else e
theorem setE_id (L : List Ent) (i : Nat) (o : Ob) (a : Nat) : (setE L i o a).map (·.id) = L.map (·.id) := by
  unfold setE
  rw [List.map_map]
  refine List.map_congr_left fun e _ => ?_
  simp only [Function.comp_apply]
  split
  · rename_i h; exact h.symm
  · rfl
theorem good_set {m : Nat} {L : List Ent} (h : GoodE m L) (i : Nat) (o : Ob) (a : Nat) (ho : okO o = true) : GoodE m (setE L i o a) := by
  refine ⟨?_, fun e he => ?_, fun e he => ?_⟩
  · have h1 : (L.map (·.id)).Pairwise (· < ·) := List.pairwise_map.2 h.rise
    rw [← setE_id L i o a] at h1
    exact List.pairwise_map.1 h1
  · obtain ⟨e0, h0, rfl⟩ := List.mem_map.1 he
    have := h.rng e0 h0
    split
    · rename_i h1; exact h1 ▸ this
    · exact this
  · obtain ⟨e0, h0, rfl⟩ := List.mem_map.1 he
    split
    · exact ho
    · exact h.ok e0 h0
theorem find_set {m : Nat} {L : List Ent} (h : GoodE m L) {x : Ent} (hx : x ∈ L) (o : Ob) (a : Nat) (ho : okO o = true) (j : Int) : findE (setE L x.id o a) j = if j = x.id then some ⟨x.id, o, a⟩ else findE L j := by
  have hg := good_set h x.id o a ho
  by_cases hj : j = x.id
  · rw [if_pos hj, hj]
    have : (⟨x.id, o, a⟩ : Ent) ∈ setE L x.id o a := List.mem_map.2 ⟨x, hx, by simp⟩
    exact findE_of hg this
  · rw [if_neg hj]
    cases hf : findE L j with
    | none =>
      refine List.find?_eq_none.2 fun e he => ?_
      obtain ⟨e0, h0, rfl⟩ := List.mem_map.1 he
      have := findE_none hf e0 h0
      simp only [decide_eq_true_eq]
      split
      · exact fun e => hj e.symm
      · exact this
    | some e =>
      obtain ⟨he, rfl⟩ := findE_some hf
      have hne : ¬ e.id = x.id := fun h => hj (by omega)
      have : e ∈ setE L x.id o a := List.mem_map.2 ⟨e, he, by simp [hne]⟩
      exact findE_of hg this
theorem pl_set {m : Nat} {L : List Ent} (h : GoodE m L) {x : Ent} (hx : x ∈ L) (o : Ob) (a : Nat) (ho : okO o = true) (j : Int) : putP (plOf L) x.id (ext (a, encO o)) j = plOf (setE L x.id o a) j := by
  unfold plOf putP
  rw [find_set h hx o a ho]
  by_cases hj : j = x.id
  · rw [if_pos hj, if_pos hj]; rfl
  · rw [if_neg hj, if_neg hj]
theorem perm_set {m : Nat} {L : List Ent} (h : GoodE m L) {x : Ent} (hx : x ∈ L) (o : Ob) (a : Nat) : (dropE L [(x.id : Int)] ++ [(⟨x.id, o, a⟩ : Ent)]).Perm (setE L x.id o a) := by
  obtain ⟨A, B, hAB⟩ := List.append_of_mem hx
  have hne : ∀ e, e ∈ A ∨ e ∈ B → e.id ≠ x.id := by
    intro e he
    have hr := h.rise
    rw [hAB] at hr
    obtain ⟨_, h2, h3⟩ := List.pairwise_append.1 hr
    obtain ⟨h4, _⟩ := List.pairwise_cons.1 h2
    rcases he with he | he
    · have := h3 e he x (by simp); omega
    · have := h4 e he; omega
  have fA : ∀ C : List Ent, (∀ e ∈ C, e.id ≠ x.id) → dropE C [(x.id : Int)] = C := fun C hC => List.filter_eq_self.2 fun e he => by
    have := hC e he
    simp; omega
  have sA : ∀ C : List Ent, (∀ e ∈ C, e.id ≠ x.id) → setE C x.id o a = C := fun C hC => by
    have h1 : C.map (fun e => if e.id = x.id then (⟨x.id, o, a⟩ : Ent) else e) = C.map id := List.map_congr_left fun e he => by rw [if_neg (hC e he)]; rfl
    rw [List.map_id] at h1
    exact h1
  have e1 : dropE L [(x.id : Int)] = A ++ B := by
    rw [hAB]
    show List.filter _ _ = _
    rw [List.filter_append, List.filter_cons]
    have h1 := fA A fun e he => hne e (.inl he)
    have h2 := fA B fun e he => hne e (.inr he)
    unfold dropE at h1 h2
    rw [h1, h2]
    simp
  have e2 : setE L x.id o a = A ++ ⟨x.id, o, a⟩ :: B := by
    rw [hAB]
    show List.map _ _ = _
    rw [List.map_append, List.map_cons]
    have h1 := sA A fun e he => hne e (.inl he)
    have h2 := sA B fun e he => hne e (.inr he)
    unfold setE at h1 h2
    rw [h1, h2]
    simp
  rw [e1, e2, List.append_assoc]
  exact List.Perm.append_left A (List.perm_append_singleton _ _)
theorem rows_set {n m : Nat} {L : List Ent} (g : Good n (rowsE L)) (h : GoodE m L) {x : Ent} (hx : x ∈ L) (o : Ob) (a : Nat) : (without (rowsE L) (ext (erow x)) ++ [(a, encO o)]).Perm (rowsE (setE L x.id o a)) := by
  have h1 : okIds L [(x.id : Int)] := ⟨fun y hy => by rw [List.mem_singleton.1 hy]; unfold hasE; rw [findE_of h hx]; rfl, by simp⟩
  have h2 := rem_rows g h h1
  have h3 : remOf (rowsE L) (extsOf L [(x.id : Int)]) = without (rowsE L) (ext (erow x)) := by
    show without (rowsE L) (atX (plOf L) x.id) = _
    rw [atX_of h hx]
  rw [← h3, h2]
  have h4 := (perm_set h hx o a).map erow
  rw [List.map_append] at h4
  exact h4
def StorePost (c : Sc) (n u m : Nat) (L' : List Ent) (t : Int) (w : World) (e : Ending) (w' : World) : Prop := e = .returned (.int .i64 t) ∧ SecAt w' c n u m L' ∧ Only c.F w w'

theorem store_none (c : Sc) (n u m : Nat) (L : List Ent) (v : Value) (o : Ob) (i : Int) (hi : W64 i) (w : World) (h : SecAt w c n u m L) (ho : ObjAt w v o) (hf : hasE L i = false) :
    Calls Tryz.prog 12 #[.pointer (some ⟨c.q, 0, none⟩), .int .i64 i, v] w (StorePost c n u m L 4 w) := by
  have HS := Lib.hid h
  obtain ⟨wv, bv, rfl, _⟩ := ho
  have BW := box35 w (.int .i64 o.c) (.int .i64 o.k) wv bv
  have HC := Lib.hid (scheck_one c n u m L i 4 _ (h.fresh BW) hi (fun e => by rw [hf] at e; cases e) (fun _ => rfl))
  rw [World.size_alloc] at HC
  have HB := Lib.hid BW
  clear h hf BW
  go_enter Tryz.func12, Tryz.ntmps12
  go_wp2_with fail
  refine HC.out.mono ?_
  rintro e w1 ⟨rfl, s1, b1⟩
  have S1 := Lib.hid s1
  have B1 : Hid (Below w.heap.size w w1) := HB.out.trans (b1.mono HB.out.size)
  clear s1 b1
  go_wp2
  go_ret
  exact ⟨rfl, S1.out, Only.of_below B1.out⟩

set_option maxHeartbeats 1000000 in
theorem store_bad (c : Sc) (n u m : Nat) (L : List Ent) (v : Value) (o : Ob) (i : Int) (hi : W64 i) (w : World) (h : SecAt w c n u m L) (ho : ObjAt w v o) (hf : hasE L i = true) (hok : okO o = false) :
    Calls Tryz.prog 12 #[.pointer (some ⟨c.q, 0, none⟩), .int .i64 i, v] w (StorePost c n u m L 2 w) := by
  have HS := Lib.hid h
  have HO := Lib.hid ho
  obtain ⟨wv, bv, rfl, _⟩ := ho
  have BW := box35 w (.int .i64 o.c) (.int .i64 o.k) wv bv
  have HC := Lib.hid (scheck_one c n u m L i 0 _ (h.fresh BW) hi (fun _ => rfl) (fun e => by rw [hf] at e; cases e))
  rw [World.size_alloc] at HC
  have HB := Lib.hid BW
  have HX := Lib.hid (Wd.box_new w (.int .i64 o.c) (.int .i64 o.k) wv bv)
  obtain ⟨p, hp⟩ : ∃ p, w.heap.size = p := ⟨_, rfl⟩
  rw [hp] at HC HX
  clear h hf BW
  go_enter Tryz.func12, Tryz.ntmps12
  go_wp2_with fail
  refine HC.out.mono ?_
  rintro e w1 ⟨rfl, s1, b1⟩
  have S1 := Lib.hid s1
  have B1 : Hid (Below w.heap.size w w1) := HB.out.trans (b1.mono HB.out.size)
  obtain ⟨y0, y1, y2, y3⟩ := (HX.out.kept b1 HX.out.2.2 (Nat.le_refl _)).1
  have HE := Lib.hid (Wd.encode_not _ o w1 (HO.out.kept B1.out) hok)
  clear s1 b1 hp
  go_wp2_with fail
  refine HE.out.mono ?_
  rintro e w2 ⟨rfl, b2⟩
  have B2 : Hid (Below w.heap.size w w2) := B1.out.trans (b2.mono B1.out.size)
  have S2 := Lib.hid (S1.out.fresh b2)
  clear b2 y0 y1 y2 y3
  go_wp2
  go_ret
  exact ⟨rfl, S2.out, Only.of_below B2.out⟩
end Go.Proofs.YtccpmaahnfgkeaaGreatDoor
