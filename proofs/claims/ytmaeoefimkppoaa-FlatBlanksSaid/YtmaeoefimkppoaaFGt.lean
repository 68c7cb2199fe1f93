/- An object that was asked for, in a variable; become twice, collected from all: plain. -/
import Derived.Test.YtmaeoefimkppoaaFLw
namespace Go.Proofs.Ytmaeoefimkppoaa.Fl
set_option maxRecDepth 1000000
open Go.ChangeShapes Go.WideShapes Go.ChangeAt Go.RowKit
open Go.Proofs.Ytmaeoefimkppoaa.Wd

/-- The variable in block p holds the object o, in memory that nobody changes. -/
def Got (K : Nat → Prop) (w : World) (p : Nat) (o : Ob) : Prop := OkZ o ∧ K p ∧ ∃ a1 n1 c1 a2 n2 c2, Box p (.int .i64 o.c) (.int .i64 o.k) (.slice a1 n1 c1) (.slice a2 n2 c2) w ∧
  w.ownsRow 0 3 1 (.slice a1 n1 c1) o.w.length (o.w.map (Value.int .i64)) ∧ w.ownsRow 0 5 1 (.slice a2 n2 c2) o.b.length (o.b.map (Value.int .u8)) ∧
  (∀ g, (Value.slice a1 n1 c1).ownBlock = some g → K g) ∧ (∀ g, (Value.slice a2 n2 c2).ownBlock = some g → K g)
theorem Got.keeps {K : Nat → Prop} {w w' : World} {p : Nat} {o : Ob} (h : Got K w p o) (k : Keeps K w w') : Got K w' p o := by
  obtain ⟨h1, h2, a1, n1, c1, a2, n2, c2, hb, r1, r2, g1, g2⟩ := h
  exact ⟨h1, h2, a1, n1, c1, a2, n2, c2, hb.only k fun hn => hn h2, k.own r1 g1, k.own r2 g2, g1, g2⟩
theorem Got.mono {K K' : Nat → Prop} {w : World} {p : Nat} {o : Ob} (h : Got K w p o) (hk : ∀ g, K g → K' g) : Got K' w p o := by
  obtain ⟨h1, h2, a1, n1, c1, a2, n2, c2, hb, r1, r2, g1, g2⟩ := h
  exact ⟨h1, hk _ h2, a1, n1, c1, a2, n2, c2, hb, r1, r2, fun g hg => hk g (g1 g hg), fun g hg => hk g (g2 g hg)⟩
theorem Got.next {K : Nat → Prop} {w w' : World} {p : Nat} {o : Ob} (h : Got K w p o) (hb : Below w.heap.size w w') : Got K w' p o := h.keeps (Keeps.of_below hb)
theorem Got.lt {K : Nat → Prop} {w : World} {p : Nat} {o : Ob} (h : Got K w p o) : p < w.heap.size := by
  obtain ⟨_, _, _, _, _, _, _, _, hb, _⟩ := h
  exact hb.2.2
/-- What a load of the variable needs. -/
theorem Got.look {K : Nat → Prop} {w : World} {p : Nat} {o : Ob} (h : Got K w p o) : ∃ a1 n1 c1 a2 n2 c2, w.cell? ⟨p, 0, none⟩ = some (.int .i64 o.c) ∧ w.cell? ⟨p, 1, none⟩ = some (.int .i64 o.k) ∧ w.cell? ⟨p, 2, none⟩ = some (.slice a1 n1 c1) ∧ w.cell? ⟨p, 3, none⟩ = some (.slice a2 n2 c2) ∧
    Hid (ObjAt w (.agg #[.int .i64 o.c, .int .i64 o.k, .slice a1 n1 c1, .slice a2 n2 c2]) o) := by
  obtain ⟨h1, h2, a1, n1, c1, a2, n2, c2, ⟨⟨q0, q1, q2, q3⟩, _, _⟩, r1, r2, g1, g2⟩ := h
  exact ⟨a1, n1, c1, a2, n2, c2, q0, q1, q2, q3, OwnO.obj (q := 0) ⟨_, _, rfl, r1, r2⟩ h1⟩
theorem Got.short {K : Nat → Prop} {w : World} {p : Nat} {o : Ob} (h : Got K w p o) : Short o := by
  have := okZ_short h.1
  exact ⟨by omega, by omega⟩
theorem got_obj {w : World} {K : Nat → Prop} {m : Nat} {E : Mem} (h : MemB K w m E) (o : Int) (ho : In64 o) :
    Calls Try.prog 22 #[.pointer (some ⟨m, 0, none⟩), .int .i64 o] w fun e w' => ∃ a1 n1 c1 a2 n2 c2, e = .returned (.tuple #[.agg #[.int .i64 (objF E o).c, .int .i64 (objF E o).k, .slice a1 n1 c1, .slice a2 n2 c2], .int .i64 (errF E o)]) ∧
      Hid (∃ K', (∀ g, K g → K' g) ∧ MemB K' (w'.alloc (.cells #[.int .i64 (objF E o).c, .int .i64 (objF E o).k, .slice a1 n1 c1, .slice a2 n2 c2] 33)) m E ∧ Got K' (w'.alloc (.cells #[.int .i64 (objF E o).c, .int .i64 (objF E o).k, .slice a1 n1 c1, .slice a2 n2 c2] 33)) w'.heap.size (objF E o) ∧
        Below w.heap.size w (w'.alloc (.cells #[.int .i64 (objF E o).c, .int .i64 (objF E o).k, .slice a1 n1 c1, .slice a2 n2 c2] 33))) :=
  (obj_any h o ho).mono fun e w' ⟨v, he, hv, hb⟩ => by
    obtain ⟨z, u, rfl, g1, g2⟩ := hv
    obtain ⟨a1, c1, rfl⟩ := own_form g1
    obtain ⟨a2, c2, rfl⟩ := own_form g2
    refine ⟨_, _, _, _, _, _, he, fun g => K g ∨ (w.heap.size ≤ g ∧ g < w'.heap.size + 1), fun g hg => .inl hg, ?_, ⟨objF_okZ h.good o, .inr ⟨hb.size, Nat.lt_succ_self _⟩, _, _, _, _, _, _, box_new _ _ _ _ _, own_down (own_kept g1 (below_new _ _)) (Nat.zero_le _), own_down (own_kept g2 (below_new _ _)) (Nat.zero_le _), fun g hg => .inr ⟨(g1.lt g hg).1, Nat.lt_succ_of_lt (g1.lt g hg).2⟩, fun g hg => .inr ⟨(g2.lt g hg).1, Nat.lt_succ_of_lt (g2.lt g hg).2⟩⟩, hb.trans ((below_new _ _).mono hb.size)⟩
    exact h.keep (hb.trans ((below_new _ _).mono hb.size)) fun g hg => hg.imp id fun ⟨h1, h2⟩ => ⟨h1, by simpa using h2⟩
theorem err_two_ways (E : Mem) (o : Int) : (errF E o = 0 ∧ (at_ E (namV o)).isSome = true) ∨ (errF E o = 4 ∧ at_ E (namV o) = none) := by
  unfold errF
  cases h : at_ E (namV o) with
  | none => exact .inr ⟨rfl, rfl⟩
  | some x => exact .inl ⟨rfl, rfl⟩
theorem bec_twice {E : Mem} {a b : Int} (ha : (at_ E (namV a)).isSome = true) (hb : (at_ E (namV b)).isSome = true) :
    becE E a b = 0 ∧ objF (becF E a b) a = objF E b ∧ objF (becF E a b) b = objF E a ∧ becE (becF E a b) b a = 0 ∧ becF (becF E a b) b a = E := by
  obtain ⟨x, hx⟩ := Option.isSome_iff_exists.1 ha
  obtain ⟨y, hy⟩ := Option.isSome_iff_exists.1 hb
  have h0 : becE E a b = 0 := by unfold becE errF; rw [hx, hy]; rfl
  have hF : becF E a b = setAt (setAt E (namV a) (at_ E (namV b))) (namV b) (at_ E (namV a)) := by unfold becF; rw [if_pos h0]
  have ra := at_rng hx
  have rb := at_rng hy
  have h1 : ∀ k, at_ (becF E a b) k = if k = namV b then at_ E (namV a) else if k = namV a then at_ E (namV b) else at_ E k := fun k => by
    rw [hF, at_set _ _ rb.1 (by rw [set_len]; exact rb.2), at_set _ _ ra.1 ra.2]
  have hA : at_ (becF E a b) (namV a) = at_ E (namV b) := by
    rw [h1]
    by_cases e : namV a = namV b
    · rw [if_pos e, e]
    · rw [if_neg e, if_pos rfl]
  have hB : at_ (becF E a b) (namV b) = at_ E (namV a) := by rw [h1, if_pos rfl]
  have hl : (becF E a b).length = E.length := by rw [hF, set_len, set_len]
  have h2 : becE (becF E a b) b a = 0 := by unfold becE errF; rw [hA, hB, hx, hy]; rfl
  refine ⟨h0, by unfold objF; rw [hA], by unfold objF; rw [hB], h2, ?_⟩
  unfold becF at h2 ⊢
  rw [if_pos h0] at h2 ⊢
  rw [if_pos h2, ← hF, hA, hB]
  refine at_ext (by rw [set_len, set_len, hl]) fun k => ?_
  rw [at_set _ _ ra.1 (by rw [set_len, hl]; exact ra.2), at_set _ _ rb.1 (by rw [hl]; exact rb.2), h1]
  by_cases e1 : k = namV a
  · rw [if_pos e1, e1]
  · rw [if_neg e1]
    by_cases e2 : k = namV b
    · rw [if_pos e2, e2]
    · rw [if_neg e2, if_neg e2, if_neg e1]
theorem bec_not {E : Mem} {a b : Int} (h : at_ E (namV a) = none ∨ at_ E (namV b) = none) : becE E a b = 4 := by
  unfold becE errF
  rcases h with h | h
  · rw [h]; rfl
  · rw [h]; cases at_ E (namV a) <;> rfl
theorem refs_two : ∀ xs : List Int, (∀ x ∈ xs, 1 ≤ x ∧ x ≤ 1000000) → refsL (twoL xs) = xs
  | [], _ => rfl
  | x :: xs, h => by
    have hx := h x List.mem_cons_self
    have ih := refs_two xs fun y hy => h y (List.mem_cons_of_mem _ hy)
    have hb : namB (2 * x) = true := by unfold namB; simp; omega
    have hv := nam_two hx.1 hx.2
    unfold twoL refsL at ih ⊢
    rw [List.map_cons, List.filterMap_cons]
    simp only [hb, if_true, hv]
    rw [ih]
theorem coll_all {E : Mem} (hE : E.length ≤ 1000000) : refsL (twoL (ids E)) = ids E ∧ collF E (ids E) = E ∧ collN E (ids E) = 0 := by
  have h1 : collF E (ids E) = E := by
    unfold collF
    refine at_ext (mask_len _ _) fun i => ?_
    rw [at_mask]
    split
    · rfl
    · rename_i h
      cases hx : at_ E i with
      | none => rfl
      | some x => exact absurd (comesB_iff.2 (.root (mem_ids.2 (by rw [hx]; rfl)) (by rw [hx]; rfl))) h
  refine ⟨refs_two _ fun x hx => ?_, h1, ?_⟩
  · have := ids_rng hx
    omega
  · unfold collN
    rw [h1]; omega
theorem two_ok {xs : List Int} (h : ∀ x ∈ xs, 1 ≤ x ∧ x ≤ 1000000) : I64 (twoL xs) := fun y hy => by
  unfold twoL at hy
  obtain ⟨x, hx, rfl⟩ := List.mem_map.1 hy
  have := h x hx
  exact ⟨by omega, by omega⟩
/-- Behind something that was done: the memory, what may not be changed, and that the law's own caller's memory is as it was. -/
def St (W W0 : World) (K : Nat → Prop) (w : World) (m : Nat) (E : Mem) : Prop := MemB K w m E ∧ (∀ g, g < W.heap.size → K g) ∧ Keeps (· < W.heap.size) W0 w
theorem st_obj {W W0 w : World} {K : Nat → Prop} {m : Nat} {E : Mem} (h : St W W0 K w m E) (o : Int) (ho : In64 o) :
    Calls Try.prog 22 #[.pointer (some ⟨m, 0, none⟩), .int .i64 o] w fun e w' => ∃ a1 n1 c1 a2 n2 c2, e = .returned (.tuple #[.agg #[.int .i64 (objF E o).c, .int .i64 (objF E o).k, .slice a1 n1 c1, .slice a2 n2 c2], .int .i64 (errF E o)]) ∧
      Hid (∃ K', St W W0 K' (w'.alloc (.cells #[.int .i64 (objF E o).c, .int .i64 (objF E o).k, .slice a1 n1 c1, .slice a2 n2 c2] 33)) m E ∧ (∀ p x, Got K w p x → Got K' (w'.alloc (.cells #[.int .i64 (objF E o).c, .int .i64 (objF E o).k, .slice a1 n1 c1, .slice a2 n2 c2] 33)) p x) ∧
        Got K' (w'.alloc (.cells #[.int .i64 (objF E o).c, .int .i64 (objF E o).k, .slice a1 n1 c1, .slice a2 n2 c2] 33)) w'.heap.size (objF E o)) :=
  (got_obj h.1 o ho).mono fun e w' ⟨a1, n1, c1, a2, n2, c2, he, G⟩ => by
    obtain ⟨K', i, hm, hg, hb⟩ := G.out
    exact ⟨_, _, _, _, _, _, he, K', ⟨hm, fun g hg => i g (h.2.1 g hg), h.2.2.trans (Keeps.of_below hb)⟩, fun p x hx => (hx.next hb).mono i, hg⟩
theorem st_bec {W W0 w : World} {K : Nat → Prop} {m : Nat} {E : Mem} (h : St W W0 K w m E) (a b : Int) (ha : In64 a) (hb : In64 b) :
    Calls Try.prog 28 #[.pointer (some ⟨m, 0, none⟩), .int .i64 a, .int .i64 b] w fun e w' => e = .returned (.int .i64 (becE E a b)) ∧ Hid (St W W0 K w' m (becF E a b) ∧ ∀ p x, Got K w p x → Got K w' p x) :=
  (become_any h.1 a b ha hb).mono fun _ _ ⟨he, hm, hk⟩ => ⟨he, ⟨hm, h.2.1, h.2.2.trans (hk.mono h.2.1)⟩, fun _ _ hx => hx.keeps hk⟩
theorem st_next {W W0 w w' : World} {K : Nat → Prop} {m : Nat} {E : Mem} (h : St W W0 K w m E) (hb : Below w.heap.size w w') : St W W0 K w' m E := ⟨h.1.fresh hb, h.2.1, h.2.2.trans (Keeps.of_below hb)⟩
/-- A row that was told stays, whatever the memory does. -/
def Rw (K : Nat → Prop) (w : World) (v : Value) (xs : List Int) : Prop := w.ownsRow 0 3 1 v xs.length (xs.map (Value.int .i64)) ∧ I64 xs ∧ ∀ g, v.ownBlock = some g → K g
theorem Rw.keeps {K : Nat → Prop} {w w' : World} {v : Value} {xs : List Int} (h : Rw K w v xs) (k : Keeps K w w') : Rw K w' v xs := ⟨k.own h.1 h.2.2, h.2⟩
theorem Rw.row {K : Nat → Prop} {w : World} {v : Value} {xs : List Int} (h : Rw K w v xs) : RowI w v xs := RowI.own h.1 h.2.1
theorem Rw.mono {K K' : Nat → Prop} {w : World} {v : Value} {xs : List Int} (h : Rw K w v xs) (hk : ∀ g, K g → K' g) : Rw K' w v xs := ⟨h.1, h.2.1, fun g hg => hk g (h.2.2 g hg)⟩
theorem ids_two {E : Mem} (hE : E.length ≤ 1000000) : I64 (twoL (ids E)) := two_ok fun x hx => by have := ids_rng hx; omega
theorem st_all {W W0 w : World} {K : Nat → Prop} {m : Nat} {E : Mem} (h : St W W0 K w m E) :
    Calls Try.prog 19 #[ifM m] w fun e w' => ∃ a c, e = .returned (.slice a (twoL (ids E)).length c) ∧ Hid (∃ K', St W W0 K' w' m E ∧ (∀ g, K g → K' g) ∧ Keeps K w w' ∧ Rw K' w' (.slice a (twoL (ids E)).length c) (twoL (ids E))) :=
  (all_any h.1).mono fun e w' ⟨v, he, hv, hb⟩ => by
    obtain ⟨a, c, rfl⟩ := own_form hv
    refine ⟨a, c, he, fun g => K g ∨ (w.heap.size ≤ g ∧ g < w'.heap.size), ⟨h.1.keep hb fun g hg => hg, fun g hg => .inl (h.2.1 g hg), h.2.2.trans (Keeps.of_below hb)⟩, fun g hg => .inl hg, Keeps.of_below hb, own_down hv (Nat.zero_le _), ids_two h.1.few, fun g hg => .inr (hv.lt g hg)⟩
theorem st_coll {W W0 w : World} {K : Nat → Prop} {m : Nat} {E : Mem} (h : St W W0 K w m E) (v : Value) (xs : List Int) (hv : RowI w v xs) (hl : xs.length ≤ 1000) :
    Calls Try.prog 29 #[.pointer (some ⟨m, 0, none⟩), v] w fun e w' => e = .returned (.tuple #[.int .i64 (collN E (refsL xs)), .int .i64 0]) ∧ Hid (St W W0 K w' m (collF E (refsL xs)) ∧ Keeps K w w') :=
  (collect_any h.1 v xs hv hl).mono fun _ _ ⟨he, hm, hk⟩ => ⟨he, ⟨hm, h.2.1, h.2.2.trans (hk.mono h.2.1)⟩, hk⟩
theorem same_got {w : World} {v1 v2 : Value} {a : Ob} (h1 : ObjAt w v1 a) (h2 : ObjAt w v2 a) (hs : Short a) : Calls Try.prog 25 #[v1, v2] w fun e w' => e = .returned (.bool true) ∧ Below w.heap.size w w' :=
  (same_ref v1 v2 a a w h1 h2 hs hs).mono fun e w' ⟨he, hb⟩ => ⟨by rw [he, sameO_self], hb⟩
end Go.Proofs.Ytmaeoefimkppoaa.Fl
