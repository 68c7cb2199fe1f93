/- The chapter's memory: its objects in a row, what 'find' tells. -/
import Derived.Test.YtmaeoefimkppoaaFGt
namespace Go.Proofs.Ytmaeoefimkppoaa.Fl
set_option maxRecDepth 1000000
open Go.ChangeShapes Go.WideShapes Go.ChangeAt Go.RowKit
open Go.Proofs.Ytmaeoefimkppoaa.Wd

/-- An object of the chapter's memory, with the slice values of its words and bytes. -/
abbrev RO := Ob × Value × Value
def roV (p : RO) : Value := .agg #[.int .i64 p.1.c, .int .i64 p.1.k, p.2.1, p.2.2]
def cells4 (p : RO) : List Value := [.int .i64 p.1.c, .int .i64 p.1.k, p.2.1, p.2.2]
def flat4 (L : List RO) : List Value := L.flatMap cells4
theorem flat4_cons (p : RO) (L : List RO) : flat4 (p :: L) = cells4 p ++ flat4 L := by simp [flat4]
theorem flat4_append (L M : List RO) : flat4 (L ++ M) = flat4 L ++ flat4 M := by simp [flat4]
theorem flat4_len (L : List RO) : (flat4 L).length = L.length * 4 := by
  induction L with
  | nil => rfl
  | cons x xs ih => rw [flat4_cons]; simp [cells4, ih]; omega
theorem flat4_at : ∀ (L : List RO) (i : Nat) (p : RO), L[i]? = some p → ∀ j, j < 4 → (flat4 L)[i * 4 + j]? = (cells4 p)[j]?
  | [], i, p, h, _, _ => by simp at h
  | y :: L, 0, p, h, j, hj => by
    simp at h
    subst h
    rw [flat4_cons, List.getElem?_append_left (by simp [cells4]; omega)]
    simp
  | y :: L, i + 1, p, h, j, hj => by
    have ih := flat4_at L i p (by simpa using h) j hj
    rw [flat4_cons, List.getElem?_append_right (by simp [cells4]; omega), ← ih]
    congr 1
    simp [cells4]
    omega
/-- An object in memory that nobody changes: its rows lie in blocks of the kind N. -/
structure RIn (N : Nat → Prop) (w : World) (p : RO) : Prop where
  ok : OkZ p.1
  rw : w.ownsRow 0 3 1 p.2.1 p.1.w.length (p.1.w.map (Value.int .i64))
  rb : w.ownsRow 0 5 1 p.2.2 p.1.b.length (p.1.b.map (Value.int .u8))
  nw : ∀ g, p.2.1.ownBlock = some g → N g
  nb : ∀ g, p.2.2.ownBlock = some g → N g
section
variable {N M F : Nat → Prop} {w w' : World} {p : RO} {v : Value} {L : List RO}
theorem RIn.only (h : RIn N w p) (o : Only F w w') (hF : ∀ b, N b → ¬ F b) : RIn N w' p :=
  ⟨h.ok, own_only h.rw o fun g hg => hF g (h.nw g hg), own_only h.rb o fun g hg => hF g (h.nb g hg), h.nw, h.nb⟩
theorem RIn.fresh (h : RIn N w p) (b : Below w.heap.size w w') : RIn N w' p := h.only (only_below b) fun _ _ h => h
theorem RIn.kind (h : RIn N w p) (hM : ∀ b, b < w.heap.size → N b → M b) : RIn M w p :=
  ⟨h.ok, h.rw, h.rb, fun g hg => hM g (own_lt h.rw hg) (h.nw g hg), fun g hg => hM g (own_lt h.rb hg) (h.nb g hg)⟩
theorem RIn.obj (h : RIn N w p) : ObjAt w (roV p) p.1 := OwnO.obj (q := 0) ⟨_, _, rfl, h.rw, h.rb⟩ h.ok
theorem RIn.form (h : RIn N w p) : ∃ a1 c1 a2 c2, p.2.1 = .slice a1 p.1.w.length c1 ∧ p.2.2 = .slice a2 p.1.b.length c2 := by
  obtain ⟨a1, c1, h1⟩ := own_form h.rw
  obtain ⟨a2, c2, h2⟩ := own_form h.rb
  exact ⟨a1, c1, a2, c2, h1, h2⟩
theorem RIn.one (h : RIn N w p) : ∀ u ∈ cells4 p, u.oneCell' = true := by
  obtain ⟨a1, c1, a2, c2, h1, h2⟩ := h.form
  intro u hu
  simp [cells4] at hu
  rcases hu with rfl | rfl | rfl | rfl
  · rfl
  · rfl
  · rw [h1]; rfl
  · rw [h2]; rfl
theorem zero_in (N : Nat → Prop) (w : World) : RIn N w (zeroO, .slice none 0 0, .slice none 0 0) :=
  ⟨.inl rfl, World.ownsRow_nil _ _ _ _, World.ownsRow_nil _ _ _ _, fun g hg => (by cases hg), fun g hg => (by cases hg)⟩
/-- The slice value v has the objects L; all of it lies in blocks of the kind N. -/
def RmV (N : Nat → Prop) (w : World) (v : Value) (L : List RO) : Prop :=
  ∃ a c, v = .slice a L.length c ∧ L.length ≤ c ∧ (∀ p ∈ L, RIn N w p) ∧
    (L = [] ∨ ∃ b off, a = some ⟨b, off, none⟩ ∧ N b ∧ ∀ j u, (flat4 L)[j]? = some u → w.cell? ⟨b, off + j, none⟩ = some u)
theorem RmV.only (h : RmV N w v L) (o : Only F w w') (hF : ∀ b, N b → ¬ F b) : RmV N w' v L := by
  obtain ⟨a, c, hv, hc, hb, h⟩ := h
  refine ⟨a, c, hv, hc, fun p hp => (hb p hp).only o hF, h.imp id ?_⟩
  rintro ⟨b, off, ha, hN, h⟩
  exact ⟨b, off, ha, hN, fun j u hu => (Only.cell o (p := ⟨b, off + j, none⟩) (World.block_lt_of_cell? _ _ (h j u hu)) (hF b hN)).trans (h j u hu)⟩
theorem RmV.fresh (h : RmV N w v L) (b : Below w.heap.size w w') : RmV N w' v L := h.only (only_below b) fun _ _ h => h
theorem RmV.keeps (h : RmV N w v L) (k : Keeps N w w') : RmV N w' v L := h.only k fun _ hb hn => hn hb
theorem RmV.kind (h : RmV N w v L) (hM : ∀ b, b < w.heap.size → N b → M b) : RmV M w v L := by
  obtain ⟨a, c, hv, hc, hb, h⟩ := h
  by_cases hL : L = []
  · exact ⟨a, c, hv, hc, fun p hp => (by rw [hL] at hp; cases hp), .inl hL⟩
  · obtain ⟨b, off, ha, hN, h⟩ := h.resolve_left hL
    refine ⟨a, c, hv, hc, fun p hp => (hb p hp).kind hM, .inr ⟨b, off, ha, hM b ?_ hN, h⟩⟩
    obtain ⟨p, t, rfl⟩ := List.exists_cons_of_ne_nil hL
    exact World.block_lt_of_cell? _ _ (h 0 (.int .i64 p.1.c) (by rw [flat4_cons]; rfl))
theorem RmV.mono (h : RmV N w v L) (hM : ∀ b, N b → M b) : RmV M w v L := h.kind fun b _ hb => hM b hb
theorem RmV.form (h : RmV N w v L) : ∃ a c, v = .slice a L.length c := by
  obtain ⟨a, c, hv, _⟩ := h
  exact ⟨a, c, hv⟩
theorem RmV.each (h : RmV N w v L) {p : RO} (hp : p ∈ L) : RIn N w p := by
  obtain ⟨_, _, _, _, hb, _⟩ := h
  exact hb p hp
theorem rmv_nil (N : Nat → Prop) (w : World) : RmV N w (.slice none 0 0) [] := ⟨none, 0, rfl, Nat.le_refl _, fun p hp => (by cases hp), .inl rfl⟩
/-- The object behind i others, in memory. -/
structure RowAt (N : Nat → Prop) (w : World) (b off i : Nat) (p : RO) : Prop where
  c0 : w.cell? ⟨b, off + i * 4, none⟩ = some (.int .i64 p.1.c)
  c1 : w.cell? ⟨b, off + i * 4 + 1, none⟩ = some (.int .i64 p.1.k)
  c2 : w.cell? ⟨b, off + i * 4 + 2, none⟩ = some p.2.1
  c3 : w.cell? ⟨b, off + i * 4 + 3, none⟩ = some p.2.2
  ob : RIn N w p
theorem RmV.at_ (h : RmV N w v L) (i : Nat) (hi : i < L.length) : ∃ b off c, v = .slice (some ⟨b, off, none⟩) L.length c ∧ N b ∧ RowAt N w b off i L[i] := by
  obtain ⟨a, c, hv, _, ho, h⟩ := h
  obtain ⟨b, off, rfl, hN, h⟩ := h.resolve_left (fun e => by subst e; simp at hi)
  have hg := flat4_at L i L[i] (List.getElem?_eq_getElem hi)
  have g := fun (j : Nat) (hj : j < 4) (u : Value) (hu : (cells4 L[i])[j]? = some u) => h (i * 4 + j) u ((hg j hj).trans hu)
  exact ⟨b, off, c, hv, hN, g 0 (by omega) _ rfl, g 1 (by omega) _ rfl, g 2 (by omega) _ rfl, g 3 (by omega) _ rfl, ho _ (List.getElem_mem hi)⟩
theorem RmV.okz (h : RmV N w v L) (i : Nat) (hi : i < L.length) : OkZ L[i].1 := (h.each (List.getElem_mem hi)).ok
end
/-- The memory that the objects are: those without a kind are gone. -/
def memR (L : List RO) : Mem := L.map fun p => if p.1.k = 0 then none else some p.1
theorem memR_len (L : List RO) : (memR L).length = L.length := by simp [memR]
theorem memR_app (L M : List RO) : memR (L ++ M) = memR L ++ memR M := by simp [memR]
theorem memR_at (L : List RO) (j : Nat) (hj : j < L.length) : at_ (memR L) ((j + 1 : Nat) : Int) = if L[j].1.k = 0 then none else some L[j].1 := by
  rw [at_get]
  unfold memR
  rw [List.getElem?_map, List.getElem?_eq_getElem hj]
  rfl
theorem memR_set (L : List RO) (j : Nat) (_hj : j < L.length) (p : RO) : memR (L.set j p) = setAt (memR L) ((j + 1 : Nat) : Int) (if p.1.k = 0 then none else some p.1) := by
  unfold memR setAt
  rw [List.map_set, show (((j + 1 : Nat) : Int) - 1).toNat = j by omega]
theorem okz_zero {o : Ob} (h : OkZ o) (hk : o.k = 0) : o = zeroO := by
  rcases h with h | ⟨h, _⟩
  · exact h
  · rcases ((okO_iff o).1 h).2 with ⟨h1, _⟩ | ⟨h1, _⟩ <;> omega
theorem okz_ok {o : Ob} (h : OkZ o) (hk : o.k ≠ 0) : okO o = true ∧ ByL o.b ∧ (o.k = 1 ∨ o.k = 2) := by
  rcases h with h | ⟨h, hb⟩
  · rw [h] at hk; exact absurd rfl hk
  · refine ⟨h, hb, ?_⟩
    rcases ((okO_iff o).1 h).2 with ⟨h1, _⟩ | ⟨h1, _⟩
    · exact .inl h1
    · exact .inr h1
theorem ok_kind {o : Ob} (h : okO o = true) : o.k = 1 ∨ o.k = 2 := by
  rcases ((okO_iff o).1 h).2 with ⟨h1, _⟩ | ⟨h1, _⟩
  · exact .inl h1
  · exact .inr h1
/-- Where a name leads: nowhere, to what is gone, or to an object. -/
theorem name_ways (L : List RO) (o : Int) : (namB o = false ∧ namV o = 0 ∧ at_ (memR L) (namV o) = none) ∨ (namB o = true ∧ (L.length : Int) < namV o ∧ at_ (memR L) (namV o) = none) ∨
    ∃ (j : Nat) (hj : j < L.length), namB o = true ∧ namV o = ((j + 1 : Nat) : Int) ∧ at_ (memR L) (namV o) = if L[j].1.k = 0 then none else some L[j].1 := by
  cases hb : namB o with
  | false =>
    have h0 : namV o = 0 := by unfold namV; rw [hb]; rfl
    exact .inl ⟨rfl, h0, by rw [h0]; exact at_none (by omega)⟩
  | true =>
    obtain ⟨h1, h2, h3⟩ := nam_rng hb
    have hv : namV o = o / 2 := by unfold namV; rw [if_pos hb]
    by_cases hl : (L.length : Int) < namV o
    · exact .inr (.inl ⟨rfl, hl, at_none (by rw [memR_len]; omega)⟩)
    · refine .inr (.inr ⟨(namV o - 1).toNat, by omega, rfl, by omega, ?_⟩)
      have := memR_at L (namV o - 1).toNat (by omega)
      rw [show (((namV o - 1).toNat + 1 : Nat) : Int) = namV o by omega] at this
      exact this
def Fnd (E : Mem) (o : Int) (w : World) (e : Ending) (w' : World) : Prop := e = .returned (.int .i64 (idF E o)) ∧ Below w.heap.size w w'
set_option maxHeartbeats 2000000 in
theorem find10_any {N : Nat → Prop} {w : World} {v : Value} {L : List RO} (h : RmV N w v L) (hl : L.length ≤ 1000000) (o : Int) (ho : In64 o) :
    Calls Try.prog 41 #[.agg #[v], .int .i64 o] w (Fnd (memR L) o w) := by
  have HN := Lib.hid (fun w => named_ref o w ho.1 ho.2)
  have HB := Lib.hid (below_new w (.cells #[v] 29))
  have HV := Lib.hid (h.fresh (below_new w (.cells #[v] 29)))
  obtain ⟨a, c, rfl⟩ := h.form
  have hx : (w.alloc (.cells #[.slice a L.length c] 29)).cell? ⟨w.heap.size, 0, none⟩ = some (.slice a L.length c) := by rw [World.cell?_alloc_at _ _ _ _ rfl]; rfl
  clear h
  rcases name_ways L o with ⟨h1, h2, h3⟩ | ⟨h1, h2, h3⟩ | ⟨j, hj, h1, h2, h3⟩
  · have e : idF (memR L) o = 0 := by unfold idF; rw [h3]; rfl
    rw [h1, h2] at HN
    unfold Fnd
    rw [e]
    clear h1 h2 h3 e
    go_enter Try.func41, Try.ntmps41
    go_wp2_with (go_at_call 52; refine (HN.out _).mono ?_; rintro e w1 ⟨rfl, rfl⟩)
    go_ret
    exact ⟨rfl, HB.out⟩
  · have e : idF (memR L) o = 0 := by unfold idF; rw [h3]; rfl
    rw [h1] at HN
    unfold Fnd
    rw [e]
    clear h1 h3 e
    generalize namV o = z at *
    go_enter Try.func41, Try.ntmps41
    go_wp2_with (go_at_call 52; refine (HN.out _).mono ?_; rintro e w1 ⟨rfl, rfl⟩)
    go_ret
    exact ⟨rfl, HB.out⟩
  · obtain ⟨b, off, c', he, _, hr⟩ := HV.out.at_ j hj
    injection he with e1 e2 e3
    subst e1 e3
    have q1 := hr.c1
    have hE : idF (memR L) o = if L[j].1.k = 0 then 0 else ((j + 1 : Nat) : Int) := by
      unfold idF
      rw [h3, h2]
      by_cases hk : L[j].1.k = 0
      · rw [if_pos hk, if_pos hk]; rfl
      · rw [if_neg hk, if_neg hk]; rfl
    unfold Fnd
    rw [hE]
    rw [h1, h2] at HN
    clear h1 h2 h3 hE hr e2
    obtain ⟨z, hz⟩ : ∃ z : Int, ((j + 1 : Nat) : Int) = z := ⟨_, rfl⟩
    rw [hz] at HN ⊢
    have hzl : decide ((L.length : Int) < z) = false := decide_eq_false (by omega)
    have hzw : IntKind.i64.wrap (z - 1) = (j : Int) := by rw [IntKind.wrap_i64]; omega
    have hjl : (j : Int) < L.length := by omega
    clear hz
    by_cases hk : L[j].1.k = 0
    · rw [if_pos hk]
      rw [hk] at q1
      clear hk
      go_enter Try.func41, Try.ntmps41
      go_wp2_with (go_at_call 52; refine (HN.out _).mono ?_; rintro e w1 ⟨rfl, rfl⟩)
      go_ret
      exact ⟨rfl, HB.out⟩
    · rw [if_neg hk]
      have hk2 : (L[j].1.k == 0) = false := by simpa using hk
      clear hk
      generalize L[j].1.k = kk at *
      go_enter Try.func41, Try.ntmps41
      go_wp2_with (go_at_call 52; refine (HN.out _).mono ?_; rintro e w1 ⟨rfl, rfl⟩)
      go_ret
      exact ⟨rfl, HB.out⟩
end Go.Proofs.Ytmaeoefimkppoaa.Fl
