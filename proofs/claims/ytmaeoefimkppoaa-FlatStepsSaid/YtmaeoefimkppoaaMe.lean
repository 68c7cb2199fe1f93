/- Texts one behind the other: Xj Xn Xl Xm. -/
import Derived.Test.YtmaeoefimkppoaaXe
import Derived.Test.YtmaeoefimkppoaaMd

/- The chapter's steps: how they begin and end. -/
namespace Go.Proofs.Ytmaeoefimkppoaa.Fl
set_option maxRecDepth 1000000
open Go.ChangeShapes Go.WideShapes Go.ChangeAt Go.RowKit
open Go.Proofs.Ytmaeoefimkppoaa.Wd

/-- Something to do in a variable. -/
def Dd (p : Nat) (k a b c : Int) (w : World) : Prop := (w.cell? ⟨p, 0, none⟩ = some (.int .i64 k) ∧ w.cell? ⟨p, 1, none⟩ = some (.int .i64 a) ∧ w.cell? ⟨p, 2, none⟩ = some (.int .i64 b) ∧ w.cell? ⟨p, 3, none⟩ = some (.int .i64 c)) ∧ p < w.heap.size
theorem Dd.next {p : Nat} {k a b c : Int} {w w' : World} (h : Dd p k a b c w) (hb : Below w.heap.size w w') : Dd p k a b c w' :=
  ⟨⟨(hb.cell (p := ⟨p, 0, none⟩) h.2).trans h.1.1, (hb.cell (p := ⟨p, 1, none⟩) h.2).trans h.1.2.1, (hb.cell (p := ⟨p, 2, none⟩) h.2).trans h.1.2.2.1, (hb.cell (p := ⟨p, 3, none⟩) h.2).trans h.1.2.2.2⟩, Nat.lt_of_lt_of_le h.2 hb.size⟩
theorem Dd.only {p : Nat} {k a b c : Int} {w w' : World} {F : Nat → Prop} (h : Dd p k a b c w) (o : Only F w w') (hF : ¬ F p) : Dd p k a b c w' :=
  ⟨⟨(Only.cell o (p := ⟨p, 0, none⟩) h.2 hF).trans h.1.1, (Only.cell o (p := ⟨p, 1, none⟩) h.2 hF).trans h.1.2.1, (Only.cell o (p := ⟨p, 2, none⟩) h.2 hF).trans h.1.2.2.1, (Only.cell o (p := ⟨p, 3, none⟩) h.2 hF).trans h.1.2.2.2⟩, Nat.lt_of_lt_of_le h.2 o.size⟩
/-- At the begin of a step: the memory, what is to be done, the two results. -/
structure SS (w : World) (v : Value) (k a b c : Int) (w' : World) : Prop where
  b0 : B1 w.heap.size v w'
  d : Dd (w.heap.size + 1) k a b c w'
  b1 : B1 (w.heap.size + 1 + 1) (.slice none 0 0) w'
  tb : Tb (w.heap.size + 1 + 1 + 1) t0 w'
  bl : Below w.heap.size w w'
  sz : w.heap.size + 4 ≤ w'.heap.size
def ssW (w : World) (v : Value) (k a b c : Int) : World := (((w.alloc (.cells #[v] 29)).alloc (.cells #[.int .i64 k, .int .i64 a, .int .i64 b, .int .i64 c] 38)).alloc (.cells #[.slice none 0 0] 29)).alloc (.cells #[.int .i64 0, .int .i64 0, .int .i64 0, .slice none 0 0, .slice none 0 0, .bool false, .int .i64 0] 35)
theorem SS.next {w : World} {v : Value} {k a b c : Int} {w1 w2 : World} (h : SS w v k a b c w1) (hb : Below w1.heap.size w1 w2) : SS w v k a b c w2 :=
  ⟨h.b0.next hb, h.d.next hb, h.b1.next hb, h.tb.only (only_below hb) id, h.bl.trans (hb.mono h.bl.size), Nat.le_trans h.sz hb.size⟩
theorem ss_new (w : World) (v : Value) (k a b c : Int) : SS w v k a b c (ssW w v k a b c) := by
  have s1 : (w.alloc (.cells #[v] 29)).heap.size = w.heap.size + 1 := by simp
  have s2 : ((w.alloc (.cells #[v] 29)).alloc (.cells #[.int .i64 k, .int .i64 a, .int .i64 b, .int .i64 c] 38)).heap.size = w.heap.size + 1 + 1 := by simp
  have s3 : (((w.alloc (.cells #[v] 29)).alloc (.cells #[.int .i64 k, .int .i64 a, .int .i64 b, .int .i64 c] 38)).alloc (.cells #[.slice none 0 0] 29)).heap.size = w.heap.size + 1 + 1 + 1 := by simp
  have d : Dd (w.heap.size + 1) k a b c ((w.alloc (.cells #[v] 29)).alloc (.cells #[.int .i64 k, .int .i64 a, .int .i64 b, .int .i64 c] 38)) := by
    refine ⟨⟨?_, ?_, ?_, ?_⟩, by simp⟩
    all_goals
      rw [World.cell?_alloc_at _ _ _ _ (by simp)]
      rfl
  have x2 := b1_new ((w.alloc (.cells #[v] 29)).alloc (.cells #[.int .i64 k, .int .i64 a, .int .i64 b, .int .i64 c] 38)) (.slice none 0 0) 29
  rw [s2] at x2
  have x3 := tb_new (((w.alloc (.cells #[v] 29)).alloc (.cells #[.int .i64 k, .int .i64 a, .int .i64 b, .int .i64 c] 38)).alloc (.cells #[.slice none 0 0] 29)) 0 0 0 (.slice none 0 0) (.slice none 0 0) false 0 35
  rw [s3] at x3
  exact ⟨(((b1_new w v 29).next (below_new _ _)).next (below_new _ _)).next (below_new _ _), (d.next (below_new _ _)).next (below_new _ _), x2.next (below_new _ _), x3, (((below_new _ _).alloc (by simp) _).alloc (by simp; omega) _).alloc (by simp; omega) _, by simp [ssW]⟩
theorem res_mt {fn : Func} {q p : Tmp} (h : fn.results = #[.cell q 29, .cell p 35]) {tmps : Array Value} {w : World} {x y : Nat} {a : Option Addr} {l c0 : Nat} {n c k : Int} {z u : Value} {ok : Bool} {t : Int}
    (hq : tmps.getD q undef = .pointer (some ⟨x, 0, none⟩)) (hp : tmps.getD p undef = .pointer (some ⟨y, 0, none⟩)) (h1 : B1 x (.slice a l c0) w) (hb : Tb y (tz n c k z u ok t) w) :
    (results fn tmps).run Try.prog w = .ok (.tuple #[.agg #[.slice a l c0], .agg #[.int .i64 n, .int .i64 c, .int .i64 k, z, u, .bool ok, .int .i64 t]]) w := by
  simp only [results, h]
  rw [Array.getD_eq_getD_getElem?] at hp hq
  have e0 : w.cell? ⟨y, 0, none⟩ = some (.int .i64 n) := hb.1 0 (by decide)
  have e1 : w.cell? ⟨y, 1, none⟩ = some (.int .i64 c) := hb.1 1 (by decide)
  have e2 : w.cell? ⟨y, 2, none⟩ = some (.int .i64 k) := hb.1 2 (by decide)
  have e3 : w.cell? ⟨y, 3, none⟩ = some z := hb.1 3 (by decide)
  have e4 : w.cell? ⟨y, 4, none⟩ = some u := hb.1 4 (by decide)
  have e5 : w.cell? ⟨y, 5, none⟩ = some (.bool ok) := hb.1 5 (by decide)
  have e6 : w.cell? ⟨y, 6, none⟩ = some (.int .i64 t) := hb.1 6 (by decide)
  have hl : (loadVar 35 ⟨y, 0, none⟩).run Try.prog w = .ok (.agg #[.int .i64 n, .int .i64 c, .int .i64 k, z, u, .bool ok, .int .i64 t]) w := by go_simp
  simp [hp, hq, asAddr, hl, load_b1 h1]
/-- What a step leaves, and tells. -/
def Stp (N : Nat → Prop) (E' : Mem) (n : Int) (o : Ob) (ok : Bool) (t : Int) (w : World) (e : Ending) (w' : World) : Prop :=
  ∃ a' l' c' L' z u, e = .returned (.tuple #[.agg #[.slice a' l' c'], .agg #[.int .i64 n, .int .i64 o.c, .int .i64 o.k, z, u, .bool ok, .int .i64 t]]) ∧ RmV (fun g => N g ∨ w.heap.size ≤ g) w' (.slice a' l' c') L' ∧ memR L' = E' ∧ RIn (fun g => N g ∨ w.heap.size ≤ g) w' (o, z, u) ∧ Below w.heap.size w w'
/-- The blocks of a step's results: those that were handed in, and new ones behind the step's variables. -/
def NN (N : Nat → Prop) (w : World) : Nat → Prop := fun g => (N g ∧ g < w.heap.size) ∨ w.heap.size + 4 ≤ g
theorem NN.not2 {N : Nat → Prop} {w : World} {g : Nat} (h : NN N w g) : g ≠ w.heap.size + 1 + 1 ∧ g ≠ w.heap.size + 1 + 1 + 1 := by
  rcases h with h | h
  · have := h.2; omega
  · omega
theorem NN.out {N : Nat → Prop} {w : World} {g : Nat} (h : NN N w g) : N g ∨ w.heap.size ≤ g := by
  rcases h with h | h
  · exact .inl h.1
  · exact .inr (by omega)
theorem RmV.nn {N : Nat → Prop} {w w' : World} {v : Value} {L : List RO} (h : RmV N w v L) (hb : Below w.heap.size w w') : RmV (NN N w) w' v L :=
  (h.kind (M := NN N w) fun _ hg hN => .inl ⟨hN, hg⟩).fresh hb
def end8 (w5 : World) (q : Nat) (v : Value) (n c k z u b t : Value) : World :=
  ((((((((w5.setCell ⟨q, 0, none⟩ v).setCell ⟨q + 1, 0, none⟩ n).setCell ⟨q + 1, 1, none⟩ c).setCell ⟨q + 1, 2, none⟩ k).setCell ⟨q + 1, 3, none⟩ z).setCell ⟨q + 1, 4, none⟩ u).setCell ⟨q + 1, 5, none⟩ b).setCell ⟨q + 1, 6, none⟩ t)
theorem stp_end {N : Nat → Prop} {w w5 : World} {a' : Option Addr} {l' c' : Nat} {L' : List RO} {E' : Mem} {y : Value} {f : Nat → Value} (n : Int) {o : Ob} (ok : Bool) (t : Int) {z u : Value} (hs : Below w.heap.size w w5) (hb : B1 (w.heap.size + 1 + 1) y w5) (ht : Tb (w.heap.size + 1 + 1 + 1) f w5)
    (hr : RmV (NN N w) w5 (.slice a' l' c') L') (hm : memR L' = E') (ho : RIn (NN N w) w5 (o, z, u)) :
    B1 (w.heap.size + 1 + 1) (.slice a' l' c') (end8 w5 (w.heap.size + 1 + 1) (.slice a' l' c') (.int .i64 n) (.int .i64 o.c) (.int .i64 o.k) z u (.bool ok) (.int .i64 t)) ∧
    Tb (w.heap.size + 1 + 1 + 1) (tz n o.c o.k z u ok t) (end8 w5 (w.heap.size + 1 + 1) (.slice a' l' c') (.int .i64 n) (.int .i64 o.c) (.int .i64 o.k) z u (.bool ok) (.int .i64 t)) ∧
    ∀ e, e = .returned (.tuple #[.agg #[.slice a' l' c'], .agg #[.int .i64 n, .int .i64 o.c, .int .i64 o.k, z, u, .bool ok, .int .i64 t]]) → Stp N E' n o ok t w e (end8 w5 (w.heap.size + 1 + 1) (.slice a' l' c') (.int .i64 n) (.int .i64 o.c) (.int .i64 o.k) z u (.bool ok) (.int .i64 t)) := by
  have on : Only (fun g => g = w.heap.size + 1 + 1 ∨ g = w.heap.size + 1 + 1 + 1) w5 (end8 w5 (w.heap.size + 1 + 1) (.slice a' l' c') (.int .i64 n) (.int .i64 o.c) (.int .i64 o.k) z u (.bool ok) (.int .i64 t)) :=
    only7 ((Only.refl _ w5).setCell _ (.inl rfl) _) (.inr rfl) _ _ _ _ _ _ _
  refine ⟨?_, Tb.all (ht.other (by omega) 0 (.slice a' l' c')) n o.c o.k z u ok t, fun e he => ⟨a', l', c', L', z, u, he, (hr.only on fun g hg e => ?_).mono fun g hg => hg.out, hm, (ho.only on fun g hg e => ?_).kind fun g _ hg => hg.out, ?_⟩⟩
  · exact (((((((hb.put (.slice a' l' c')).other (by omega) _ _).other (by omega) _ _).other (by omega) _ _).other (by omega) _ _).other (by omega) _ _).other (by omega) _ _).other (by omega) _ _
  · rcases e with e | e
    · exact hg.not2.1 e
    · exact hg.not2.2 e
  · rcases e with e | e
    · exact hg.not2.1 e
    · exact hg.not2.2 e
  · exact below7 (hs.setCell (p := ⟨w.heap.size + 1 + 1, 0, none⟩) (by show w.heap.size ≤ w.heap.size + 1 + 1; omega) _) (by omega) _ _ _ _ _ _ _
end Go.Proofs.Ytmaeoefimkppoaa.Fl

/- What Collect of the chapter marks: plain facts; a row of marks in memory. -/
namespace Go.Proofs.Ytmaeoefimkppoaa.Fl
set_option maxRecDepth 1000000
open Go.ChangeShapes Go.WideShapes Go.ChangeAt Go.RowKit
open Go.Proofs.Ytmaeoefimkppoaa.Wd

def upd (S : Nat → Bool) (j : Nat) : Nat → Bool := fun i => if i = j then true else S i
theorem upd_mono {S : Nat → Bool} {j i : Nat} (h : S i = true) : upd S j i = true := by unfold upd; split <;> simp [h]
theorem upd_same (S : Nat → Bool) (j : Nat) : upd S j j = true := by simp [upd]
theorem upd_id {S : Nat → Bool} {j : Nat} (h : S j = true) : upd S j = S := by
  funext i
  unfold upd
  split
  · rename_i e; rw [e, h]
  · rfl
def unseen (S : Nat → Bool) (n : Nat) : Nat := ((List.range n).filter fun j => !S (j + 1)).length
theorem unseen_next (S : Nat → Bool) (n : Nat) : unseen S (n + 1) = unseen S n + if S (n + 1) = true then 0 else 1 := by
  unfold unseen
  rw [List.range_succ, List.filter_append, List.length_append]
  congr 1
  cases h : S (n + 1) <;> simp [h]
theorem unseen_same {S T : Nat → Bool} : ∀ n, (∀ j, 1 ≤ j → j ≤ n → S j = T j) → unseen S n = unseen T n
  | 0, _ => rfl
  | n + 1, h => by rw [unseen_next, unseen_next, unseen_same n fun j h1 h2 => h j h1 (by omega), h (n + 1) (by omega) (Nat.le_refl _)]
theorem unseen_upd {S : Nat → Bool} {j : Nat} (hj : 1 ≤ j) (hS : S j = false) : ∀ n, j ≤ n → unseen (upd S j) n < unseen S n
  | 0, h => by omega
  | n + 1, h => by
    rw [unseen_next, unseen_next]
    by_cases e : j = n + 1
    · subst e
      rw [unseen_same (S := upd S (n + 1)) (T := S) n fun i h1 h2 => by unfold upd; rw [if_neg (by omega)], upd_same, if_pos rfl, hS, if_neg (by decide)]
      omega
    · have ih := unseen_upd hj hS n (by omega)
      have : upd S j (n + 1) = S (n + 1) := by unfold upd; rw [if_neg (by omega)]
      rw [this]
      omega
/-- All that is marked is what one comes to. -/
def Snd (E : Mem) (rs : List Int) (S : Nat → Bool) : Prop := ∀ j : Nat, 1 ≤ j → S j = true → Comes E (refsL rs) (j : Int)
theorem Snd.upd {E : Mem} {rs : List Int} {S : Nat → Bool} (h : Snd E rs S) {j : Nat} (hj : 1 ≤ j → Comes E (refsL rs) (j : Int)) : Snd E rs (upd S j) := fun i h1 h2 => by
  unfold Fl.upd at h2
  by_cases e : i = j
  · subst e; exact hj h1
  · rw [if_neg e] at h2; exact h i h1 h2
/-- What is marked up to k names nothing that is not. -/
def ClosedTo (E : Mem) (S : Nat → Bool) (k : Nat) : Prop := ∀ q : Nat, 1 ≤ q → q < k → S q = true → ∀ x, at_ E (q : Int) = some x → ∀ r ∈ refsO x, LiveE E r → S r.toNat = true
def RootsTo (E : Mem) (rs : List Int) (S : Nat → Bool) (i : Nat) : Prop := ∀ q, q < i → idF E (rs.getD q 0) ≠ 0 → S (idF E (rs.getD q 0)).toNat = true
theorem idF_live {E : Mem} {o : Int} (h : idF E o ≠ 0) : namB o = true ∧ idF E o = namV o ∧ LiveE E (namV o) := by
  unfold idF at h ⊢
  by_cases e : (at_ E (namV o)).isSome = true
  · rw [if_pos e] at h ⊢
    refine ⟨?_, rfl, e⟩
    cases hb : namB o with
    | true => rfl
    | false => exfalso; apply h; unfold namV; rw [hb]; rfl
  · rw [if_neg e] at h; exact absurd rfl h
theorem idF_low (E : Mem) (o : Int) : 0 ≤ idF E o ∧ idF E o ≤ E.length := by
  unfold idF
  split
  · rename_i e
    obtain ⟨x, hx⟩ := Option.isSome_iff_exists.1 e
    have := at_rng hx
    omega
  · omega
theorem refs_in {rs : List Int} {r : Int} (h : r ∈ refsL rs) : ∃ v ∈ rs, namB v = true ∧ namV v = r := by
  obtain ⟨v, hv, h2⟩ := List.mem_filterMap.1 h
  by_cases hb : namB v = true
  · rw [if_pos hb] at h2; injection h2 with h2; exact ⟨v, hv, hb, h2⟩
  · rw [if_neg hb] at h2; cases h2
theorem refs_of {rs : List Int} {v : Int} (h : v ∈ rs) (hb : namB v = true) : namV v ∈ refsL rs := List.mem_filterMap.2 ⟨v, h, if_pos hb⟩
theorem refs_rng {rs : List Int} {r : Int} (h : r ∈ refsL rs) : 1 ≤ r ∧ r ≤ 1073741823 := by
  obtain ⟨v, _, hb, rfl⟩ := refs_in h
  have := nam_rng hb
  have hv : namV v = v / 2 := by unfold namV; rw [if_pos hb]
  omega
theorem nam_dbl {r : Int} (h1 : 1 ≤ r) (h2 : r ≤ 1073741823) : namB (2 * r) = true ∧ namV (2 * r) = r := by
  have hb : namB (2 * r) = true := by unfold namB; simp; omega
  exact ⟨hb, by unfold namV; rw [if_pos hb]; omega⟩
theorem root_comes {E : Mem} {rs : List Int} {q : Nat} (hq : q < rs.length) (h : idF E (rs.getD q 0) ≠ 0) : Comes E (refsL rs) (idF E (rs.getD q 0)) := by
  obtain ⟨h1, h2, h3⟩ := idF_live h
  rw [h2]
  refine .root (refs_of ?_ h1) h3
  simp only [List.getD, List.getElem?_eq_getElem hq, Option.getD_some]
  exact List.getElem_mem _
/-- Marked is just what one comes to. -/
theorem marked_all {E : Mem} {rs : List Int} {S : Nat → Bool} (hr : RootsTo E rs S rs.length) (hc : ClosedTo E S (E.length + 1)) {i : Int} (h : Comes E (refsL rs) i) : S i.toNat = true := by
  induction h with
  | @root i hi hl =>
    obtain ⟨v, hv, hb, rfl⟩ := refs_in hi
    obtain ⟨q, hq, rfl⟩ := List.mem_iff_getElem.1 hv
    have he : idF E rs[q] = namV rs[q] := by unfold idF; rw [if_pos hl]
    have := hr q hq
    simp only [List.getD, List.getElem?_eq_getElem hq, Option.getD_some] at this
    rw [he] at this
    exact this (by have := nam_rng hb; unfold namV; rw [if_pos hb]; omega)
  | @step i j x hi hx hj hl ih =>
    have h1 := at_rng hx
    refine hc i.toNat (by omega) (by omega) ih x ?_ j hj hl
    rw [Int.toNat_of_nonneg (by omega)]; exact hx

/-- A row of marks. -/
def SeenAt (w : World) (g m : Nat) (S : Nat → Bool) : Prop := (∀ j, j < m → w.cell? ⟨g, j, none⟩ = some (.bool (S j))) ∧ (∀ j, w.frozen? ⟨g, j, none⟩ = false) ∧ g < w.heap.size
theorem SeenAt.next {w w' : World} {g m : Nat} {S : Nat → Bool} (h : SeenAt w g m S) (b : Below w.heap.size w w') : SeenAt w' g m S :=
  ⟨fun j hj => (b.cell (p := ⟨g, j, none⟩) h.2.2).trans (h.1 j hj), fun j => (b.frozen (p := ⟨g, j, none⟩) h.2.2).trans (h.2.1 j), Nat.lt_of_lt_of_le h.2.2 b.size⟩
theorem SeenAt.mark {w : World} {g m : Nat} {S : Nat → Bool} (h : SeenAt w g m S) {j : Nat} (hj : j < m) : SeenAt (w.setCell ⟨g, j, none⟩ (.bool true)) g m (upd S j) := by
  refine ⟨fun i hi => ?_, fun i => by rw [World.frozen?_setCell]; exact h.2.1 i, by simpa [World.setCell] using h.2.2⟩
  unfold upd
  by_cases e : i = j
  · subst e; rw [World.cell?_setCell_same _ _ _ (h.1 i hi), if_pos rfl]
  · rw [World.cell?_setCell_other _ _ _ _ (by intro q; injection q; omega), h.1 i hi, if_neg e]
theorem Try.info4 : (Try.prog.info? 4).map (fun i => (i.zero, i.size, i.bytes)) = some (some (.bool false), 1, 1) := by kernel_rfl
theorem mk_bools (w : World) (n : Nat) (hn : n ≤ 2000000) : (Instr.makeSlice 98 (.int .i64 n) (.int .i64 n)).run Try.prog w = .ok (.slice (some ⟨w.heap.size, 0, none⟩) n n) (w.alloc (.cells (madeCells #[Value.bool false] n) 4)) := by
  obtain ⟨i0, hi, hz0, hz1, hz2⟩ := info_parts Try.info4
  have h := run_make (P := Try.prog) w 98 4 i0 (.bool false) Try.underlying98 hi hz0 .i64 .i64 (n : Int) (n : Int) (by omega) (by omega) (by rw [hz2]; omega) (by omega)
  rw [hz1] at h
  simpa [Value.cells] using h
theorem seen_new (w : World) (n : Nat) : SeenAt (w.alloc (.cells (madeCells #[Value.bool false] n) 4)) w.heap.size n (fun _ => false) := by
  have h := World.rowIs_made w (.bool false) n 4
  exact ⟨fun j hj => h.cell hj, fun j => h.frozen j, by simp⟩
/-- In Collect: the memory, the results, the marks. -/
structure CS (w : World) (v : Value) (g m : Nat) (S : Nat → Bool) (wr : World) : Prop where
  b0 : B1 w.heap.size v wr
  b1 : B1 (w.heap.size + 1) (.slice none 0 0) wr
  tb : Tb (w.heap.size + 1 + 1) t0 wr
  sn : SeenAt wr g m S
  gq : w.heap.size + 1 + 1 + 1 = g
  bl : Below w.heap.size w wr
  sz : w.heap.size + 4 ≤ wr.heap.size
theorem CS.next {w : World} {v : Value} {g m : Nat} {S : Nat → Bool} {w1 w2 : World} (h : CS w v g m S w1) (hb : Below w1.heap.size w1 w2) : CS w v g m S w2 :=
  ⟨h.b0.next hb, h.b1.next hb, h.tb.only (only_below hb) id, h.sn.next hb, h.gq, h.bl.trans (hb.mono h.bl.size), Nat.le_trans h.sz hb.size⟩
theorem CS.mark {w : World} {v : Value} {g m : Nat} {S : Nat → Bool} {w1 : World} (h : CS w v g m S w1) {j : Nat} (hj : j < m) : CS w v g m (upd S j) (w1.setCell ⟨g, j, none⟩ (.bool true)) :=
  have o := only_set w1 g j (.bool true)
  have hg := h.gq
  ⟨h.b0.only o (by omega), h.b1.only o (by omega), h.tb.only o (by omega), h.sn.mark hj, hg, h.bl.setCell (p := ⟨g, j, none⟩) (by show w.heap.size ≤ g; omega) _, Nat.le_trans h.sz o.size⟩
def csW (w : World) (v : Value) : World := ((w.alloc (.cells #[v] 29)).alloc (.cells #[.slice none 0 0] 29)).alloc (.cells #[.int .i64 0, .int .i64 0, .int .i64 0, .slice none 0 0, .slice none 0 0, .bool false, .int .i64 0] 35)
theorem cs_size (w : World) (v : Value) : (csW w v).heap.size = w.heap.size + 1 + 1 + 1 := by simp [csW]
theorem cs_new (w : World) (v : Value) (m : Nat) : CS w v (csW w v).heap.size m (fun _ => false) ((csW w v).alloc (.cells (madeCells #[Value.bool false] m) 4)) := by
  have s1 : (w.alloc (.cells #[v] 29)).heap.size = w.heap.size + 1 := by simp
  have s2 : ((w.alloc (.cells #[v] 29)).alloc (.cells #[.slice none 0 0] 29)).heap.size = w.heap.size + 1 + 1 := by simp
  have x1 := b1_new (w.alloc (.cells #[v] 29)) (.slice none 0 0) 29
  rw [s1] at x1
  have x2 := tb_new ((w.alloc (.cells #[v] 29)).alloc (.cells #[.slice none 0 0] 29)) 0 0 0 (.slice none 0 0) (.slice none 0 0) false 0 35
  rw [s2] at x2
  exact ⟨(((b1_new w v 29).next (below_new _ _)).next (below_new _ _)).next (below_new _ _), (x1.next (below_new _ _)).next (below_new _ _), x2.only (only_below (below_new _ _)) id, seen_new (csW w v) m, (cs_size w v).symm, (((below_new _ _).alloc (by simp) _).alloc (by simp; omega) _).alloc (by simp; omega) _, by simp [csW]⟩
theorem cs_b0 (w : World) (v : Value) : B1 w.heap.size v (csW w v) := ((b1_new w v 29).next (below_new _ _)).next (below_new _ _)
end Go.Proofs.Ytmaeoefimkppoaa.Fl

/- What 'set' of the chapter's memory tells: a word, or a byte. -/
namespace Go.Proofs.Ytmaeoefimkppoaa.Fl
set_option maxRecDepth 1000000
open Go.ChangeShapes Go.WideShapes Go.ChangeAt Go.RowKit
open Go.Proofs.Ytmaeoefimkppoaa.Wd

theorem opE_at (L : List RO) {o k i : Int} (h : opE (memR L) o k i = 0) : ∃ (j : Nat) (hj : j < L.length), namV o = ((j + 1 : Nat) : Int) ∧ at_ (memR L) (namV o) = some L[j].1 ∧ L[j].1.k = k ∧ 0 ≤ i ∧ i < (sizeO L[j].1 : Nat) ∧ L[j].1.k ≠ 0 := by
  rcases name_ways L o with ⟨_, _, e⟩ | ⟨_, _, e⟩ | ⟨j, hj, _, e1, e2⟩
  · unfold opE at h; rw [e] at h; cases h
  · unfold opE at h; rw [e] at h; cases h
  · by_cases hk : L[j].1.k = 0
    · rw [if_pos hk] at e2
      unfold opE at h; rw [e2] at h; cases h
    · rw [if_neg hk] at e2
      unfold opE at h
      rw [e2] at h
      simp only at h
      by_cases h1 : L[j].1.k = k
      · rw [if_pos h1] at h
        by_cases h2 : 0 ≤ i ∧ i < (sizeO L[j].1 : Nat)
        · exact ⟨j, hj, e1, e2, h1, h2.1, h2.2, hk⟩
        · rw [if_neg h2] at h; cases h
      · rw [if_neg h1] at h; cases h
/-- The same with the object under a name. -/
theorem opE_ob (L : List RO) {o k i : Int} (h : opE (memR L) o k i = 0) : ∃ (j : Nat) (p : RO), L[j]? = some p ∧ j < L.length ∧ namV o = ((j + 1 : Nat) : Int) ∧ at_ (memR L) (namV o) = some p.1 ∧ p.1.k = k ∧ 0 ≤ i ∧ i < (sizeO p.1 : Nat) ∧ p.1.k ≠ 0 := by
  obtain ⟨j, hj, h1, h2, h3, h4, h5, h6⟩ := opE_at L h
  exact ⟨j, L[j], List.getElem?_eq_getElem hj, hj, h1, h2, h3, h4, h5, h6⟩
theorem RmV.cells_ob {N : Nat → Prop} {w : World} {v : Value} {L : List RO} (h : RmV N w v L) {i : Nat} {p : RO} (hp : L[i]? = some p) :
    ∃ b off c a1 n1 c1 a2 n2 c2, v = .slice (some ⟨b, off, none⟩) L.length c ∧ N b ∧ RowC w b (off + i * 4) p.1.c p.1.k (.slice a1 n1 c1) (.slice a2 n2 c2) ∧ ObjAt w (.agg #[.int .i64 p.1.c, .int .i64 p.1.k, .slice a1 n1 c1, .slice a2 n2 c2]) p.1 := by
  obtain ⟨hi, rfl⟩ := List.getElem?_eq_some_iff.1 hp
  exact h.cells i hi
theorem RmV.ob {N : Nat → Prop} {w : World} {v : Value} {L : List RO} (h : RmV N w v L) {i : Nat} {p : RO} (hp : L[i]? = some p) : RIn N w p := h.each (List.mem_of_getElem? hp)
set_option maxHeartbeats 4000000 in
theorem set10_words {N : Nat → Prop} {w : World} {v : Value} {L : List RO} (h : RmV N w v L) (hl : L.length ≤ 1000000) (o i x : Int) (ho : In64 o) (hx : In64 x) :
    Calls Try.prog 43 #[.agg #[v], .agg #[.int .i64 4, .int .i64 o, .int .i64 i, .int .i64 x]] w (Stp N (setF (memR L) o i x) 0 zeroO false (setE (memR L) o i x) w) := by
  have S0 := Lib.hid (ss_new w v 4 o i x)
  have HV := Lib.hid h
  have HP := Lib.hid (place10_any (h.fresh S0.out.bl) hl o 1 i ho)
  have HR := Lib.hid (fun w => ref_any x w hx.1 hx.2)
  unfold ssW at S0 HP
  unfold Plc at HP
  obtain ⟨a, c, rfl⟩ := h.form
  have hE : setE (memR L) o i x = if opE (memR L) o 1 i = 0 then (if valB x = true then 0 else 2) else opE (memR L) o 1 i := rfl
  have HF : Hid (setE (memR L) o i x ≠ 0 → setF (memR L) o i x = memR L) := Lib.hid fun hn => by unfold setF; rw [if_neg hn]
  have HF0 : Hid (setE (memR L) o i x = 0 → setF (memR L) o i x = setAt (memR L) (namV o) (some { objF (memR L) o with w := (objF (memR L) o).w.set i.toNat x })) := Lib.hid fun hn => by unfold setF; rw [if_pos hn]
  have HOP := Lib.hid (opE_ob L (o := o) (k := 1) (i := i))
  have HPL : Hid (opE (memR L) o 1 i = 0 → plV (memR L) o 1 i = namV o) := Lib.hid fun hn => by unfold plV; rw [if_pos hn]
  generalize opE (memR L) o 1 i = t at *
  generalize plV (memR L) o 1 i = pv at *
  generalize setE (memR L) o i x = se at *
  generalize setF (memR L) o i x = sf at *
  have HE := Lib.hid hE
  obtain ⟨y0, ⟨⟨d0, d1, d2, d3⟩, _⟩, _, _, _, _⟩ := S0.out
  obtain ⟨y0, _, _⟩ := y0
  by_cases ht : t = 0
  · obtain ⟨j, ⟨ob, pz, pu⟩, hjp, hj, e1, e2, hk, hi0, hi1, hk0⟩ := HOP.out ht
    simp only at e2 hk hi1 hk0
    obtain ⟨n, rfl⟩ := Int.eq_ofNat_of_zero_le hi0
    have hpv : pv = ((j + 1 : Nat) : Int) := (HPL.out ht).trans e1
    subst ht
    obtain ⟨z, hz⟩ : ∃ z : Int, ((j + 1 : Nat) : Int) = z := ⟨_, rfl⟩
    rw [hpv, hz] at HP
    have HZ := Lib.hid hz
    have hzw : IntKind.i64.wrap (z - 1) = (j : Int) := by rw [IntKind.wrap_i64]; omega
    have hjl : (j : Int) < L.length := by omega
    cases hvx : valB x with
    | false =>
      have h1 : se = 2 := by rw [HE.out, if_pos rfl, hvx]; rfl
      have h2 : sf = memR L := HF.out (by rw [h1]; decide)
      rw [hvx] at HR
      rw [h1, h2]
      clear h1 h2 hE HF HF0 HOP HPL HE hvx hpv e1 e2 hk hi0 hi1 hk0 hz
      go_enter Try.func43, Try.ntmps43
      go_upto_region 1 with fail
      generalize (((w.alloc (.cells #[.slice a L.length c] 29)).alloc (.cells #[.int .i64 4, .int .i64 o, .int .i64 n, .int .i64 x] 38)).alloc (.cells #[.slice none 0 0] 29)).alloc (.cells #[.int .i64 0, .int .i64 0, .int .i64 0, .slice none 0 0, .slice none 0 0, .bool false, .int .i64 0] 35) = w1 at *
      go_wp2_with fail
      refine HP.out.mono ?_
      rintro e w2 ⟨rfl, hb⟩
      have S2 := Lib.hid (S0.out.next hb)
      clear hb y0 d0 d1 d2 d3
      obtain ⟨y0, ⟨⟨d0, d1, d2, d3⟩, _⟩, z0, tb, _, _⟩ := S2.out
      obtain ⟨y0, _, _⟩ := y0
      obtain ⟨z0, zf, _⟩ := z0
      obtain ⟨q0, q1, q2, q3, q4, q5, q6, qf⟩ := tb.cz
      have E := stp_end (N := N) (o := zeroO) 0 false 2 S2.out.bl S2.out.b1 S2.out.tb (HV.out.nn S2.out.bl) rfl (zero_in _ _)
      clear tb
      go_wp2_with (go_at_call 33; refine (HR.out _).mono ?_; rintro e w3 ⟨rfl, rfl⟩)
      exact bodyPost_ret (res_mt rfl rfl rfl E.1 E.2.1) rfl (E.2.2 _ rfl)
    | true =>
      have h1 : se = 0 := by rw [HE.out, if_pos rfl, hvx]; rfl
      have hob0 : objF (memR L) o = ob := by unfold objF; rw [e2]; rfl
      have h2 : sf = setAt (memR L) ((j + 1 : Nat) : Int) (some { ob with w := ob.w.set n x }) := by rw [HF0.out h1, e1, hob0]; rfl
      rw [hvx] at HR
      rw [h1]
      have HSF : Hid (∀ p : RO, p.1 = { ob with w := ob.w.set n x } → memR (L.set j p) = sf) := Lib.hid fun p hp => by
        rw [memR_set L j hj p, h2, hp, if_neg hk0]
      have hok := okz_ok (HV.out.ob hjp).ok hk0
      simp only at hok
      have hsz : sizeO ob = ob.w.length := by unfold sizeO; rw [if_pos hk]
      rw [hsz] at hi1
      have hnw : n < ob.w.length := by omega
      have HOK := Lib.hid (And.intro (valB_ok hok.1 hk n hvx) hok.2.1)
      have HSh := Lib.hid (ok_short hok.1)
      have HJ := Lib.hid hj
      clear h1 h2 hE HF HF0 HOP HPL HE hvx hpv e1 e2 hi0 hk0 hz hob0 hok hsz hk
      go_enter Try.func43, Try.ntmps43
      go_upto_region 1 with fail
      generalize (((w.alloc (.cells #[.slice a L.length c] 29)).alloc (.cells #[.int .i64 4, .int .i64 o, .int .i64 n, .int .i64 x] 38)).alloc (.cells #[.slice none 0 0] 29)).alloc (.cells #[.int .i64 0, .int .i64 0, .int .i64 0, .slice none 0 0, .slice none 0 0, .bool false, .int .i64 0] 35) = w1 at *
      go_upto_region 2 with (go_at_call 42; refine HP.out.mono ?_; rintro e w2 ⟨rfl, hb⟩)
      have S2 := Lib.hid (S0.out.next hb)
      clear hb y0 d0 d1 d2 d3
      obtain ⟨y0, ⟨⟨d0, d1, d2, d3⟩, _⟩, z0, tb, _, _⟩ := S2.out
      obtain ⟨y0, _, _⟩ := y0
      clear z0 tb
      have VC := Lib.hid ((HV.out.kind (M := fun g => N g ∧ g < w.heap.size) (fun g hg hN => ⟨hN, hg⟩)).fresh S2.out.bl)
      obtain ⟨b, off, cc, a1, n1, c1, a2, n2, c2, hv, _, hr, ho2⟩ := VC.out.cells_ob hjp
      simp only at hr ho2
      injection hv with f1 f2 f3
      subst f1 f3
      obtain ⟨r0, r1, r2, r3⟩ := hr
      have HC := Lib.hid (fun w3 (hb : Below w2.heap.size w2 w3) => refcopy_any _ _ w3 (ho2.kept hb) (by have := HSh.out; omega) (by have := HSh.out; omega))
      clear ho2 f2
      go_upto_region 6 with (first | (go_at_call 33; refine (HR.out _).mono ?_; rintro e w3 ⟨rfl, rfl⟩))
      go_wp2_with fail
      refine (HC.out _ (Below.refl _ _)).mono ?_
      rintro e w4 ⟨a3, c3, a4, c4, rfl, rw4, rb4, hb4⟩
      go_upto_region 7 with fail
      clear r0 r1 r2 r3
      have S5 := Lib.hid (S2.out.next (hb4.trans ((below_new w4 (.cells #[.int .i64 ob.c, .int .i64 ob.k, .slice a3 ob.w.length c3, .slice a4 ob.b.length c4] 33)).mono hb4.size)))
      have V5 := Lib.hid (VC.out.fresh (hb4.trans ((below_new w4 (.cells #[.int .i64 ob.c, .int .i64 ob.k, .slice a3 ob.w.length c3, .slice a4 ob.b.length c4] 33)).mono hb4.size)))
      have X5 := Lib.hid (box_new w4 (.int .i64 ob.c) (.int .i64 ob.k) (.slice a3 ob.w.length c3) (.slice a4 ob.b.length c4))
      have RW5 := Lib.hid (own_kept rw4 (below_new w4 (.cells #[.int .i64 ob.c, .int .i64 ob.k, .slice a3 ob.w.length c3, .slice a4 ob.b.length c4] 33)))
      have RB5 := Lib.hid (own_kept rb4 (below_new w4 (.cells #[.int .i64 ob.c, .int .i64 ob.k, .slice a3 ob.w.length c3, .slice a4 ob.b.length c4] 33)))
      have hs2 : Hid (w.heap.size + 4 ≤ w2.heap.size) := Lib.hid S2.out.sz
      have hpx : Hid (∀ g, (Value.slice a3 ob.w.length c3).ownBlock = some g → g < w4.heap.size) := Lib.hid fun g hg => (rw4.lt g hg).2
      generalize w4.alloc (.cells #[.int .i64 ob.c, .int .i64 ob.k, .slice a3 ob.w.length c3, .slice a4 ob.b.length c4] 33) = w5 at *
      generalize w4.heap.size = px at *
      clear HC VC S2 rw4 rb4 hb4 y0 d0 d1 d2 d3
      obtain ⟨y0, ⟨⟨d0, d1, d2, d3⟩, _⟩, z0, tb, _, _⟩ := S5.out
      obtain ⟨y0, _, _⟩ := y0
      clear z0 tb
      obtain ⟨⟨x0, x1, x2, x3⟩, _, _⟩ := X5.out
      obtain ⟨g, cg, hag⟩ := own_at RW5.out (by omega)
      injection hag with hag1 _ hag2
      subst hag1 hag2
      have k1 := (own_cells RW5.out).1 n _ (getD_map hnw)
      have k2 := (own_cells RW5.out).2 n
      have hg1 := (RW5.out.lt g rfl).1
      have hg2 := hpx.out g rfl
      have o6 : Only (· = g) w5 (w5.setCell ⟨g, n, none⟩ (.int .i64 x)) := only_set w5 g n _
      have hs := hs2.out
      have S6 : Hid (B1 w.heap.size (.slice (some ⟨b, off, none⟩) L.length c) (w5.setCell ⟨g, n, none⟩ (.int .i64 x)) ∧ B1 (w.heap.size + 1 + 1) (.slice none 0 0) (w5.setCell ⟨g, n, none⟩ (.int .i64 x)) ∧ Tb (w.heap.size + 1 + 1 + 1) t0 (w5.setCell ⟨g, n, none⟩ (.int .i64 x)) ∧ Below w.heap.size w (w5.setCell ⟨g, n, none⟩ (.int .i64 x)) ∧ w.heap.size + 4 ≤ (w5.setCell ⟨g, n, none⟩ (.int .i64 x)).heap.size) :=
        Lib.hid ⟨S5.out.b0.only o6 (by omega), S5.out.b1.only o6 (by omega), S5.out.tb.only o6 (by omega), S5.out.bl.setCell (p := ⟨g, n, none⟩) (by show w.heap.size ≤ g; omega) _, Nat.le_trans S5.out.sz o6.size⟩
      have X6 := Lib.hid (X5.out.only o6 (show ¬ px = g by omega))
      have V6 := Lib.hid ((V5.out.only o6 (fun q hq e => by have := hq.2; omega)).mono (M := NN N w) fun q hq => .inl hq)
      have P6 : Hid (RIn (NN N w) (w5.setCell ⟨g, n, none⟩ (.int .i64 x)) ({ ob with w := ob.w.set n x }, .slice (some ⟨g, 0, none⟩) ob.w.length c3, .slice a4 ob.b.length c4)) := Lib.hid ⟨.inr ⟨HOK.out.1, HOK.out.2⟩, by
          have := own_down (own_put RW5.out hnw (.int .i64 x)) (Nat.zero_le _)
          simp only [List.length_set, List.map_set]
          exact this, own_down (own_only RB5.out o6 fun q hq e => by subst e; exact own_apart RW5.out RB5.out q rfl hq) (Nat.zero_le _), fun q hq => .inr (by have := (RW5.out.lt q hq).1; omega), fun q hq => .inr (by have := (RB5.out.lt q hq).1; omega)⟩
      have HWt := Lib.hid (with10_any V6.out hl j HJ.out _ P6.out)
      have HSF2 := Lib.hid (HSF.out ({ ob with w := ob.w.set n x }, .slice (some ⟨g, 0, none⟩) ob.w.length c3, .slice a4 ob.b.length c4) rfl)
      have hi0 : (0 : Int) ≤ n := by omega
      clear o6 hg1 hg2 hs HSF HOK
      go_upto_region 10 with fail
      clear x0 x1 x2 x3 k1 k2 y0 d0 d1 d2 d3
      generalize w5.setCell ⟨g, n, none⟩ (.int .i64 x) = w6 at *
      obtain ⟨y0, _, _⟩ := S6.out.1
      obtain ⟨⟨x0, x1, x2, x3⟩, _, _⟩ := X6.out
      have HWt2 : Hid (Calls Try.prog 44 #[.agg #[.slice (some ⟨b, off, none⟩) L.length c], .int .i64 z, .agg #[.int .i64 ob.c, .int .i64 ob.k, .slice (some ⟨g, 0, none⟩) ob.w.length c3, .slice a4 ob.b.length c4]] w6 (With10 (NN N w) L j ({ ob with w := ob.w.set n x }, .slice (some ⟨g, 0, none⟩) ob.w.length c3, .slice a4 ob.b.length c4) w6)) := Lib.hid (by rw [← HZ.out]; exact HWt.out)
      clear HWt
      go_wp2_with fail
      refine HWt2.out.mono ?_
      rintro e w7 ⟨a7, c7, rfl, r7, b7⟩
      have E := stp_end (N := N) (o := zeroO) (f := t0) 0 false 0 (S6.out.2.2.2.1.trans (b7.mono S6.out.2.2.2.1.size)) (S6.out.2.1.next b7) (S6.out.2.2.1.only (only_below b7) id) (r7.mono (M := NN N w) fun q hq => hq.elim id fun h => .inr (Nat.le_trans S6.out.2.2.2.2 h)) HSF2.out (zero_in _ _)
      obtain ⟨t1, t2, _⟩ := S6.out.2.1.next b7
      obtain ⟨q0, q1, q2, q3, q4, q5, q6, qf⟩ := (S6.out.2.2.1.only (only_below b7) id).cz
      go_wp2_with fail
      exact bodyPost_ret (res_mt rfl rfl rfl E.1 E.2.1) rfl (E.2.2 _ rfl)
  · have ht2 : (t != 0) = true := by simpa using ht
    have h1 : se = t := by rw [HE.out, if_neg ht]
    have h2 : sf = memR L := HF.out (by rw [h1]; exact ht)
    rw [h1, h2]
    clear ht h1 h2 hE HF HF0 HOP HPL HE
    go_enter Try.func43, Try.ntmps43
    go_upto_region 1 with fail
    generalize (((w.alloc (.cells #[.slice a L.length c] 29)).alloc (.cells #[.int .i64 4, .int .i64 o, .int .i64 i, .int .i64 x] 38)).alloc (.cells #[.slice none 0 0] 29)).alloc (.cells #[.int .i64 0, .int .i64 0, .int .i64 0, .slice none 0 0, .slice none 0 0, .bool false, .int .i64 0] 35) = w1 at *
    go_wp2_with fail
    refine HP.out.mono ?_
    rintro e w2 ⟨rfl, hb⟩
    have S2 := Lib.hid (S0.out.next hb)
    clear hb y0 d0 d1 d2 d3
    obtain ⟨y0, ⟨⟨d0, d1, d2, d3⟩, _⟩, z0, tb, _, _⟩ := S2.out
    obtain ⟨y0, _, _⟩ := y0
    obtain ⟨z0, zf, _⟩ := z0
    obtain ⟨q0, q1, q2, q3, q4, q5, q6, qf⟩ := tb.cz
    have E := stp_end (N := N) (o := zeroO) 0 false t S2.out.bl S2.out.b1 S2.out.tb (HV.out.nn S2.out.bl) rfl (zero_in _ _)
    clear tb
    go_wp2_with fail
    exact bodyPost_ret (res_mt rfl rfl rfl E.1 E.2.1) rfl (E.2.2 _ rfl)
end Go.Proofs.Ytmaeoefimkppoaa.Fl

/- What 'set' of the chapter's memory tells of a byte. -/
namespace Go.Proofs.Ytmaeoefimkppoaa.Fl
set_option maxRecDepth 1000000
open Go.ChangeShapes Go.WideShapes Go.ChangeAt Go.RowKit
open Go.Proofs.Ytmaeoefimkppoaa.Wd

set_option maxHeartbeats 4000000 in
theorem set10_bytes {N : Nat → Prop} {w : World} {v : Value} {L : List RO} (h : RmV N w v L) (hl : L.length ≤ 1000000) (o i x : Int) (ho : In64 o) :
    Calls Try.prog 43 #[.agg #[v], .agg #[.int .i64 6, .int .i64 o, .int .i64 i, .int .i64 x]] w (Stp N (setbF (memR L) o i x) 0 zeroO false (setbE (memR L) o i x) w) := by
  have S0 := Lib.hid (ss_new w v 6 o i x)
  have HV := Lib.hid h
  have HP := Lib.hid (place10_any (h.fresh S0.out.bl) hl o 2 i ho)
  unfold ssW at S0 HP
  unfold Plc at HP
  obtain ⟨a, c, rfl⟩ := h.form
  have hE : setbE (memR L) o i x = if opE (memR L) o 2 i = 0 then (if bytB x = true then 0 else 2) else opE (memR L) o 2 i := rfl
  have HF : Hid (setbE (memR L) o i x ≠ 0 → setbF (memR L) o i x = memR L) := Lib.hid fun hn => by unfold setbF; rw [if_neg hn]
  have HF0 : Hid (setbE (memR L) o i x = 0 → setbF (memR L) o i x = setAt (memR L) (namV o) (some { objF (memR L) o with b := (objF (memR L) o).b.set i.toNat x })) := Lib.hid fun hn => by unfold setbF; rw [if_pos hn]
  have HOP := Lib.hid (opE_ob L (o := o) (k := 2) (i := i))
  have HPL : Hid (opE (memR L) o 2 i = 0 → plV (memR L) o 2 i = namV o) := Lib.hid fun hn => by unfold plV; rw [if_pos hn]
  generalize opE (memR L) o 2 i = t at *
  generalize plV (memR L) o 2 i = pv at *
  generalize setbE (memR L) o i x = se at *
  generalize setbF (memR L) o i x = sf at *
  have HE := Lib.hid hE
  obtain ⟨y0, ⟨⟨d0, d1, d2, d3⟩, _⟩, _, _, _, _⟩ := S0.out
  obtain ⟨y0, _, _⟩ := y0
  by_cases ht : t = 0
  · obtain ⟨j, ⟨ob, pz, pu⟩, hjp, hj, e1, e2, hk, hi0, hi1, hk0⟩ := HOP.out ht
    simp only at e2 hk hi1 hk0
    obtain ⟨n, rfl⟩ := Int.eq_ofNat_of_zero_le hi0
    have hpv : pv = ((j + 1 : Nat) : Int) := (HPL.out ht).trans e1
    subst ht
    obtain ⟨z, hz⟩ : ∃ z : Int, ((j + 1 : Nat) : Int) = z := ⟨_, rfl⟩
    rw [hpv, hz] at HP
    have HZ := Lib.hid hz
    have hzw : IntKind.i64.wrap (z - 1) = (j : Int) := by rw [IntKind.wrap_i64]; omega
    have hjl : (j : Int) < L.length := by omega
    cases hvx : bytB x with
    | false =>
      have h1 : se = 2 := by rw [HE.out, if_pos rfl, hvx]; rfl
      have h2 : sf = memR L := HF.out (by rw [h1]; decide)
      rw [h1, h2]
      have hx0 : x < 0 ∨ (0 ≤ x ∧ 255 < x) := by
        have : ¬ (0 ≤ x ∧ x ≤ 255) := fun h => by
          have h' : bytB x = true := by simpa [bytB] using h
          rw [hvx] at h'; cases h'
        omega
      clear h1 h2 hE HF HF0 HOP HPL HE hvx hpv e1 e2 hk hi0 hi1 hk0 hz
      rcases hx0 with hx0 | ⟨hx0, hx1⟩
      · have dx0 : decide (x < 0) = true := by simpa using hx0
        clear hx0
        go_enter Try.func43, Try.ntmps43
        go_upto_region 1 with fail
        generalize (((w.alloc (.cells #[.slice a L.length c] 29)).alloc (.cells #[.int .i64 6, .int .i64 o, .int .i64 n, .int .i64 x] 38)).alloc (.cells #[.slice none 0 0] 29)).alloc (.cells #[.int .i64 0, .int .i64 0, .int .i64 0, .slice none 0 0, .slice none 0 0, .bool false, .int .i64 0] 35) = w1 at *
        go_wp2_with fail
        refine HP.out.mono ?_
        rintro e w2 ⟨rfl, hb⟩
        have S2 := Lib.hid (S0.out.next hb)
        clear hb y0 d0 d1 d2 d3
        obtain ⟨y0, ⟨⟨d0, d1, d2, d3⟩, _⟩, z0, tb, _, _⟩ := S2.out
        obtain ⟨y0, _, _⟩ := y0
        obtain ⟨z0, zf, _⟩ := z0
        obtain ⟨q0, q1, q2, q3, q4, q5, q6, qf⟩ := tb.cz
        have E := stp_end (N := N) (o := zeroO) 0 false 2 S2.out.bl S2.out.b1 S2.out.tb (HV.out.nn S2.out.bl) rfl (zero_in _ _)
        clear tb
        go_wp2_with fail
        exact bodyPost_ret (res_mt rfl rfl rfl E.1 E.2.1) rfl (E.2.2 _ rfl)
      · have dx0 : decide (x < 0) = false := by simp; omega
        have dx1 : decide (255 < x) = true := by simp; omega
        clear hx0 hx1
        go_enter Try.func43, Try.ntmps43
        go_upto_region 1 with fail
        generalize (((w.alloc (.cells #[.slice a L.length c] 29)).alloc (.cells #[.int .i64 6, .int .i64 o, .int .i64 n, .int .i64 x] 38)).alloc (.cells #[.slice none 0 0] 29)).alloc (.cells #[.int .i64 0, .int .i64 0, .int .i64 0, .slice none 0 0, .slice none 0 0, .bool false, .int .i64 0] 35) = w1 at *
        go_wp2_with fail
        refine HP.out.mono ?_
        rintro e w2 ⟨rfl, hb⟩
        have S2 := Lib.hid (S0.out.next hb)
        clear hb y0 d0 d1 d2 d3
        obtain ⟨y0, ⟨⟨d0, d1, d2, d3⟩, _⟩, z0, tb, _, _⟩ := S2.out
        obtain ⟨y0, _, _⟩ := y0
        obtain ⟨z0, zf, _⟩ := z0
        obtain ⟨q0, q1, q2, q3, q4, q5, q6, qf⟩ := tb.cz
        have E := stp_end (N := N) (o := zeroO) 0 false 2 S2.out.bl S2.out.b1 S2.out.tb (HV.out.nn S2.out.bl) rfl (zero_in _ _)
        clear tb
        go_wp2_with fail
        exact bodyPost_ret (res_mt rfl rfl rfl E.1 E.2.1) rfl (E.2.2 _ rfl)
    | true =>
      have hx0 : 0 ≤ x ∧ x ≤ 255 := by simpa [bytB] using hvx
      have dx0 : decide (x < 0) = false := by simp; omega
      have dx1 : decide (255 < x) = false := by simp; omega
      have hxw : IntKind.u8.wrap x = x := by simp [IntKind.wrap, IntKind.bits, IntKind.signed]; omega
      have h1 : se = 0 := by rw [HE.out, if_pos rfl, hvx]; rfl
      have hob0 : objF (memR L) o = ob := by unfold objF; rw [e2]; rfl
      have h2 : sf = setAt (memR L) ((j + 1 : Nat) : Int) (some { ob with b := ob.b.set n x }) := by rw [HF0.out h1, e1, hob0]; rfl
      rw [h1]
      have HSF : Hid (∀ p : RO, p.1 = { ob with b := ob.b.set n x } → memR (L.set j p) = sf) := Lib.hid fun p hp => by
        rw [memR_set L j hj p, h2, hp, if_neg hk0]
      have hok := okz_ok (HV.out.ob hjp).ok hk0
      simp only at hok
      have hsz : sizeO ob = ob.b.length := by unfold sizeO; rw [if_neg (by omega), if_pos hk]
      rw [hsz] at hi1
      have hnw : n < ob.b.length := by omega
      have HOK := Lib.hid (And.intro (bytB_ok hok.1 hk n x) (show ByL (ob.b.set n x) from fun y hy => (List.mem_or_eq_of_mem_set hy).elim (hok.2.1 y) fun e => by rw [e]; simpa [bytB] using hvx))
      have HSh := Lib.hid (ok_short hok.1)
      have HJ := Lib.hid hj
      clear h1 h2 hE HF HF0 HOP HPL HE hvx hpv e1 e2 hi0 hk0 hz hob0 hok hsz hk hx0
      go_enter Try.func43, Try.ntmps43
      go_upto_region 1 with fail
      generalize (((w.alloc (.cells #[.slice a L.length c] 29)).alloc (.cells #[.int .i64 6, .int .i64 o, .int .i64 n, .int .i64 x] 38)).alloc (.cells #[.slice none 0 0] 29)).alloc (.cells #[.int .i64 0, .int .i64 0, .int .i64 0, .slice none 0 0, .slice none 0 0, .bool false, .int .i64 0] 35) = w1 at *
      go_upto_region 2 with (go_at_call 42; refine HP.out.mono ?_; rintro e w2 ⟨rfl, hb⟩)
      have S2 := Lib.hid (S0.out.next hb)
      clear hb y0 d0 d1 d2 d3
      obtain ⟨y0, ⟨⟨d0, d1, d2, d3⟩, _⟩, z0, tb, _, _⟩ := S2.out
      obtain ⟨y0, _, _⟩ := y0
      clear z0 tb
      have VC := Lib.hid ((HV.out.kind (M := fun g => N g ∧ g < w.heap.size) (fun g hg hN => ⟨hN, hg⟩)).fresh S2.out.bl)
      obtain ⟨b, off, cc, a1, n1, c1, a2, n2, c2, hv, _, hr, ho2⟩ := VC.out.cells_ob hjp
      simp only at hr ho2
      injection hv with f1 f2 f3
      subst f1 f3
      obtain ⟨r0, r1, r2, r3⟩ := hr
      have HC := Lib.hid (fun w3 (hb : Below w2.heap.size w2 w3) => refcopy_any _ _ w3 (ho2.kept hb) (by have := HSh.out; omega) (by have := HSh.out; omega))
      clear ho2 f2
      go_upto_region 6 with fail
      go_wp2_with fail
      refine (HC.out _ (Below.refl _ _)).mono ?_
      rintro e w4 ⟨a3, c3, a4, c4, rfl, rw4, rb4, hb4⟩
      go_upto_region 7 with fail
      clear r0 r1 r2 r3
      have S5 := Lib.hid (S2.out.next (hb4.trans ((below_new w4 (.cells #[.int .i64 ob.c, .int .i64 ob.k, .slice a3 ob.w.length c3, .slice a4 ob.b.length c4] 33)).mono hb4.size)))
      have V5 := Lib.hid (VC.out.fresh (hb4.trans ((below_new w4 (.cells #[.int .i64 ob.c, .int .i64 ob.k, .slice a3 ob.w.length c3, .slice a4 ob.b.length c4] 33)).mono hb4.size)))
      have X5 := Lib.hid (box_new w4 (.int .i64 ob.c) (.int .i64 ob.k) (.slice a3 ob.w.length c3) (.slice a4 ob.b.length c4))
      have RW5 := Lib.hid (own_kept rw4 (below_new w4 (.cells #[.int .i64 ob.c, .int .i64 ob.k, .slice a3 ob.w.length c3, .slice a4 ob.b.length c4] 33)))
      have RB5 := Lib.hid (own_kept rb4 (below_new w4 (.cells #[.int .i64 ob.c, .int .i64 ob.k, .slice a3 ob.w.length c3, .slice a4 ob.b.length c4] 33)))
      have hs2 : Hid (w.heap.size + 4 ≤ w2.heap.size) := Lib.hid S2.out.sz
      have hpx : Hid (∀ g, (Value.slice a4 ob.b.length c4).ownBlock = some g → g < w4.heap.size) := Lib.hid fun g hg => (rb4.lt g hg).2
      generalize w4.alloc (.cells #[.int .i64 ob.c, .int .i64 ob.k, .slice a3 ob.w.length c3, .slice a4 ob.b.length c4] 33) = w5 at *
      generalize w4.heap.size = px at *
      clear HC VC S2 rw4 rb4 hb4 y0 d0 d1 d2 d3
      obtain ⟨y0, ⟨⟨d0, d1, d2, d3⟩, _⟩, z0, tb, _, _⟩ := S5.out
      obtain ⟨y0, _, _⟩ := y0
      clear z0 tb
      obtain ⟨⟨x0, x1, x2, x3⟩, _, _⟩ := X5.out
      obtain ⟨g, cg, hag⟩ := own_at RB5.out (by omega)
      injection hag with hag1 _ hag2
      subst hag1 hag2
      have k1 := (own_cells RB5.out).1 n _ (getD_map hnw)
      have k2 := (own_cells RB5.out).2 n
      have hg1 := (RB5.out.lt g rfl).1
      have hg2 := hpx.out g rfl
      have o6 : Only (· = g) w5 (w5.setCell ⟨g, n, none⟩ (.int .u8 x)) := only_set w5 g n _
      have hs := hs2.out
      have S6 : Hid (B1 w.heap.size (.slice (some ⟨b, off, none⟩) L.length c) (w5.setCell ⟨g, n, none⟩ (.int .u8 x)) ∧ B1 (w.heap.size + 1 + 1) (.slice none 0 0) (w5.setCell ⟨g, n, none⟩ (.int .u8 x)) ∧ Tb (w.heap.size + 1 + 1 + 1) t0 (w5.setCell ⟨g, n, none⟩ (.int .u8 x)) ∧ Below w.heap.size w (w5.setCell ⟨g, n, none⟩ (.int .u8 x)) ∧ w.heap.size + 4 ≤ (w5.setCell ⟨g, n, none⟩ (.int .u8 x)).heap.size) :=
        Lib.hid ⟨S5.out.b0.only o6 (by omega), S5.out.b1.only o6 (by omega), S5.out.tb.only o6 (by omega), S5.out.bl.setCell (p := ⟨g, n, none⟩) (by show w.heap.size ≤ g; omega) _, Nat.le_trans S5.out.sz o6.size⟩
      have X6 := Lib.hid (X5.out.only o6 (show ¬ px = g by omega))
      have V6 := Lib.hid ((V5.out.only o6 (fun q hq e => by have := hq.2; omega)).mono (M := NN N w) fun q hq => .inl hq)
      have P6 : Hid (RIn (NN N w) (w5.setCell ⟨g, n, none⟩ (.int .u8 x)) ({ ob with b := ob.b.set n x }, .slice a3 ob.w.length c3, .slice (some ⟨g, 0, none⟩) ob.b.length c4)) := Lib.hid ⟨.inr ⟨HOK.out.1, HOK.out.2⟩, by
          exact own_down (own_only RW5.out o6 fun q hq e => by subst e; exact own_apart RW5.out RB5.out q hq rfl) (Nat.zero_le _), by
          have := own_down (own_put RB5.out hnw (.int .u8 x)) (Nat.zero_le _)
          simp only [List.length_set, List.map_set]
          exact this, fun q hq => .inr (by have := (RW5.out.lt q hq).1; omega), fun q hq => .inr (by have := (RB5.out.lt q hq).1; omega)⟩
      have HWt := Lib.hid (with10_any V6.out hl j HJ.out _ P6.out)
      have HSF2 := Lib.hid (HSF.out ({ ob with b := ob.b.set n x }, .slice a3 ob.w.length c3, .slice (some ⟨g, 0, none⟩) ob.b.length c4) rfl)
      have hi0 : (0 : Int) ≤ n := by omega
      clear o6 hg1 hg2 hs HSF HOK
      go_upto_region 10 with fail
      clear x0 x1 x2 x3 k1 k2 y0 d0 d1 d2 d3
      generalize w5.setCell ⟨g, n, none⟩ (.int .u8 x) = w6 at *
      obtain ⟨y0, _, _⟩ := S6.out.1
      obtain ⟨⟨x0, x1, x2, x3⟩, _, _⟩ := X6.out
      have HWt2 : Hid (Calls Try.prog 44 #[.agg #[.slice (some ⟨b, off, none⟩) L.length c], .int .i64 z, .agg #[.int .i64 ob.c, .int .i64 ob.k, .slice a3 ob.w.length c3, .slice (some ⟨g, 0, none⟩) ob.b.length c4]] w6 (With10 (NN N w) L j ({ ob with b := ob.b.set n x }, .slice a3 ob.w.length c3, .slice (some ⟨g, 0, none⟩) ob.b.length c4) w6)) := Lib.hid (by rw [← HZ.out]; exact HWt.out)
      clear HWt
      go_wp2_with fail
      refine HWt2.out.mono ?_
      rintro e w7 ⟨a7, c7, rfl, r7, b7⟩
      have E := stp_end (N := N) (o := zeroO) (f := t0) 0 false 0 (S6.out.2.2.2.1.trans (b7.mono S6.out.2.2.2.1.size)) (S6.out.2.1.next b7) (S6.out.2.2.1.only (only_below b7) id) (r7.mono (M := NN N w) fun q hq => hq.elim id fun h => .inr (Nat.le_trans S6.out.2.2.2.2 h)) HSF2.out (zero_in _ _)
      obtain ⟨t1, t2, _⟩ := S6.out.2.1.next b7
      obtain ⟨q0, q1, q2, q3, q4, q5, q6, qf⟩ := (S6.out.2.2.1.only (only_below b7) id).cz
      go_wp2_with fail
      exact bodyPost_ret (res_mt rfl rfl rfl E.1 E.2.1) rfl (E.2.2 _ rfl)
  · have ht2 : (t != 0) = true := by simpa using ht
    have h1 : se = t := by rw [HE.out, if_neg ht]
    have h2 : sf = memR L := HF.out (by rw [h1]; exact ht)
    rw [h1, h2]
    clear ht h1 h2 hE HF HF0 HOP HPL HE
    go_enter Try.func43, Try.ntmps43
    go_upto_region 1 with fail
    generalize (((w.alloc (.cells #[.slice a L.length c] 29)).alloc (.cells #[.int .i64 6, .int .i64 o, .int .i64 i, .int .i64 x] 38)).alloc (.cells #[.slice none 0 0] 29)).alloc (.cells #[.int .i64 0, .int .i64 0, .int .i64 0, .slice none 0 0, .slice none 0 0, .bool false, .int .i64 0] 35) = w1 at *
    go_wp2_with fail
    refine HP.out.mono ?_
    rintro e w2 ⟨rfl, hb⟩
    have S2 := Lib.hid (S0.out.next hb)
    clear hb y0 d0 d1 d2 d3
    obtain ⟨y0, ⟨⟨d0, d1, d2, d3⟩, _⟩, z0, tb, _, _⟩ := S2.out
    obtain ⟨y0, _, _⟩ := y0
    obtain ⟨z0, zf, _⟩ := z0
    obtain ⟨q0, q1, q2, q3, q4, q5, q6, qf⟩ := tb.cz
    have E := stp_end (N := N) (o := zeroO) 0 false t S2.out.bl S2.out.b1 S2.out.tb (HV.out.nn S2.out.bl) rfl (zero_in _ _)
    clear tb
    go_wp2_with fail
    exact bodyPost_ret (res_mt rfl rfl rfl E.1 E.2.1) rfl (E.2.2 _ rfl)
end Go.Proofs.Ytmaeoefimkppoaa.Fl
