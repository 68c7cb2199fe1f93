/- 'done': what a memory answers. -/
import Derived.Test.YtmaeoefimkppoaaFDo
namespace Go.Proofs.Ytmaeoefimkppoaa.Fl
set_option maxRecDepth 1000000
open Go.ChangeShapes Go.WideShapes Go.ChangeAt Go.RowKit
open Go.Proofs.Ytmaeoefimkppoaa.Wd

/-- A block of seven cells, which a struct of type Told has. -/
def Tb (p : Nat) (f : Nat → Value) (w : World) : Prop := (∀ j, j < 7 → w.cell? ⟨p, j, none⟩ = some (f j)) ∧ (∀ j, w.frozen? ⟨p, j, none⟩ = false) ∧ p < w.heap.size
def tz (n c k : Int) (z u : Value) (b : Bool) (t : Int) : Nat → Value
  | 0 => .int .i64 n | 1 => .int .i64 c | 2 => .int .i64 k | 3 => z | 4 => u | 5 => .bool b | _ => .int .i64 t
def t0 : Nat → Value := tz 0 0 0 (.slice none 0 0) (.slice none 0 0) false 0
theorem Tb.set {p : Nat} {f : Nat → Value} {w : World} (h : Tb p f w) {j : Nat} (hj : j < 7) (v : Value) : Tb p (fun i => if i = j then v else f i) (w.setCell ⟨p, j, none⟩ v) := by
  refine ⟨fun i hi => ?_, fun i => by rw [World.frozen?_setCell]; exact h.2.1 i, by simpa [World.setCell] using h.2.2⟩
  by_cases e : i = j
  · subst e; rw [World.cell?_setCell_same _ _ _ (h.1 i hj)]; simp
  · rw [World.cell?_setCell_other _ _ _ _ (by intro q; injection q; omega), h.1 i hi]; simp [e]
theorem Tb.other {p q : Nat} {f : Nat → Value} {w : World} (h : Tb p f w) (hq : p ≠ q) (j : Nat) (v : Value) : Tb p f (w.setCell ⟨q, j, none⟩ v) := by
  refine ⟨fun i hi => ?_, fun i => by rw [World.frozen?_setCell]; exact h.2.1 i, by simpa [World.setCell] using h.2.2⟩
  rw [World.cell?_setCell_other _ _ _ _ (by intro q; injection q; omega)]; exact h.1 i hi
theorem Tb.only {p : Nat} {f : Nat → Value} {w w' : World} {F : Nat → Prop} (h : Tb p f w) (o : Only F w w') (hp : ¬ F p) : Tb p f w' :=
  ⟨fun j hj => (Only.cell o (p := ⟨p, j, none⟩) h.2.2 hp).trans (h.1 j hj), fun j => (Only.frozen o (p := ⟨p, j, none⟩) h.2.2 hp).trans (h.2.1 j), Nat.lt_of_lt_of_le h.2.2 o.size⟩
theorem Tb.congr {p : Nat} {f g : Nat → Value} {w : World} (h : Tb p f w) (hg : ∀ j, j < 7 → f j = g j) : Tb p g w := ⟨fun j hj => by rw [h.1 j hj, hg j hj], h.2⟩
theorem tb_new (w : World) (n c k : Int) (z u : Value) (b : Bool) (t : Int) (ty : TypeId) : Tb w.heap.size (tz n c k z u b t) (w.alloc (.cells #[.int .i64 n, .int .i64 c, .int .i64 k, z, u, .bool b, .int .i64 t] ty)) := by
  refine ⟨fun j hj => ?_, fun j => ?_, by simp⟩
  · rw [World.cell?_alloc_at _ _ _ _ rfl]
    obtain rfl | rfl | rfl | rfl | rfl | rfl | rfl : j = 0 ∨ j = 1 ∨ j = 2 ∨ j = 3 ∨ j = 4 ∨ j = 5 ∨ j = 6 := by omega
    all_goals rfl
  · unfold World.frozen?
    rw [heap_alloc_new]
    simp
theorem res_told {fn : Func} {p : Tmp} (h : fn.results = #[.cell p 35]) {tmps : Array Value} {w : World} {b : Nat} {n c k : Int} {z u : Value} {ok : Bool} {t : Int} (hp : tmps.getD p undef = .pointer (some ⟨b, 0, none⟩)) (hb : Tb b (tz n c k z u ok t) w) :
    (results fn tmps).run Try.prog w = .ok (.agg #[.int .i64 n, .int .i64 c, .int .i64 k, z, u, .bool ok, .int .i64 t]) w := by
  simp only [results, h]
  rw [Array.getD_eq_getD_getElem?] at hp
  have e0 : w.cell? ⟨b, 0, none⟩ = some (.int .i64 n) := hb.1 0 (by decide)
  have e1 : w.cell? ⟨b, 1, none⟩ = some (.int .i64 c) := hb.1 1 (by decide)
  have e2 : w.cell? ⟨b, 2, none⟩ = some (.int .i64 k) := hb.1 2 (by decide)
  have e3 : w.cell? ⟨b, 3, none⟩ = some z := hb.1 3 (by decide)
  have e4 : w.cell? ⟨b, 4, none⟩ = some u := hb.1 4 (by decide)
  have e5 : w.cell? ⟨b, 5, none⟩ = some (.bool ok) := hb.1 5 (by decide)
  have e6 : w.cell? ⟨b, 6, none⟩ = some (.int .i64 t) := hb.1 6 (by decide)
  have hl : (loadVar 35 ⟨b, 0, none⟩).run Try.prog w = .ok (.agg #[.int .i64 n, .int .i64 c, .int .i64 k, z, u, .bool ok, .int .i64 t]) w := by go_simp
  simp [hp, asAddr, hl]
/-- The world in which 'done' calls the memory. -/
def doW (w : World) (k a b c : Int) : World := ((w.alloc (.cells #[.int .i64 k, .int .i64 a, .int .i64 b, .int .i64 c] 38)).alloc (.cells #[.int .i64 0, .int .i64 0, .int .i64 0, .slice none 0 0, .slice none 0 0, .bool false, .int .i64 0] 35)).alloc (.cells #[.int .i64 0, .int .i64 0, .int .i64 0, .slice none 0 0, .slice none 0 0, .bool false, .int .i64 0] 35)
theorem doW_size (w : World) (k a b c : Int) : (doW w k a b c).heap.size = w.heap.size + 3 := by simp [doW]
theorem doW_below (w : World) (k a b c : Int) : Below w.heap.size w (doW w k a b c) := ((below_new w _).alloc (by simp) _).alloc (by simp; omega) _
theorem World.size_two (w : World) (x y : Obj) : ((w.alloc x).alloc y).heap.size = w.heap.size + 1 + 1 := by simp
theorem doW_1 (w : World) (k a b c : Int) : Tb (w.heap.size + 1) t0 (doW w k a b c) := by
  have h := tb_new (w.alloc (.cells #[.int .i64 k, .int .i64 a, .int .i64 b, .int .i64 c] 38)) 0 0 0 (.slice none 0 0) (.slice none 0 0) false 0 35
  rw [show (w.alloc (.cells #[.int .i64 k, .int .i64 a, .int .i64 b, .int .i64 c] 38)).heap.size = w.heap.size + 1 by simp] at h
  exact h.only (only_below (below_new _ _)) (fun h => h)
theorem doW_2 (w : World) (k a b c : Int) : Tb (w.heap.size + 1 + 1) t0 (doW w k a b c) := by
  have h := tb_new ((w.alloc (.cells #[.int .i64 k, .int .i64 a, .int .i64 b, .int .i64 c] 38)).alloc (.cells #[.int .i64 0, .int .i64 0, .int .i64 0, .slice none 0 0, .slice none 0 0, .bool false, .int .i64 0] 35)) 0 0 0 (.slice none 0 0) (.slice none 0 0) false 0 35
  rw [World.size_two] at h
  exact h
/-- What a memory may not change meanwhile. -/
def KD (K : Nat → Prop) (n : Nat) : Nat → Prop := fun g => K g ∨ (n ≤ g ∧ g < n + 3)
theorem doW_mem {w : World} {K : Nat → Prop} {m : Nat} {E : Mem} (h : MemB K w m E) (k a b c : Int) : MemB (KD K w.heap.size) (doW w k a b c) m E :=
  h.keep (doW_below w k a b c) fun g hg => hg.imp id fun ⟨h1, h2⟩ => ⟨h1, by rw [doW_size]; exact h2⟩
/-- What 'done' leaves. -/
def DonePost (K : Nat → Prop) (m : Nat) (n : Int) (o : Ob) (ok : Bool) (t : Int) (E' : Mem) (w : World) (e : Ending) (w' : World) : Prop :=
  ∃ z u, e = .returned (.agg #[.int .i64 n, .int .i64 o.c, .int .i64 o.k, z, u, .bool ok, .int .i64 t]) ∧ OwnO w.heap.size w' (.agg #[.int .i64 o.c, .int .i64 o.k, z, u]) o ∧ MemB K w' m E' ∧ Keeps K w w'
def F12 (n : Nat) : Nat → Prop := fun g => g = n + 1 ∨ g = n + 1 + 1
theorem done_end {w w4 w5 : World} {K : Nat → Prop} {m : Nat} {E E' : Mem} {k a b c : Int} {v : Value} {o : Ob} (h0 : MemB K w m E) (hM : MemB (KD K w.heap.size) w4 m E') (hK : Keeps (KD K w.heap.size) (doW w k a b c) w4) (ho : Only (F12 w.heap.size) w4 w5) (hO : OwnO (w.heap.size + 3) w4 v o) :
    OwnO w.heap.size w5 v o ∧ MemB K w5 m E' ∧ Keeps K w w5 := by
  refine ⟨?_, ?_, ?_⟩
  · obtain ⟨x, y, rfl, h1, h2⟩ := hO
    have hF : ∀ (v : Value) (n : Nat) (e : TypeId) (xs : List Value), w4.ownsRow (w.heap.size + 3) e 1 v n xs → ∀ g, v.ownBlock = some g → ¬ F12 w.heap.size g := fun v n e xs h g hg hf => by
      have := (h.lt g hg).1
      unfold F12 at hf
      omega
    exact ⟨x, y, rfl, own_down (own_only h1 ho (hF _ _ _ _ h1)) (by omega), own_down (own_only h2 ho (hF _ _ _ _ h2)) (by omega)⟩
  · exact (hM.only ho fun g hg => .inr (by unfold F12 at hg; omega)).keep (Below.refl _ _) fun g hg => .inl (.inl hg)
  · refine (Keeps.of_below (doW_below w k a b c)).trans ((hK.mono fun g hg => .inl hg).trans ⟨ho.os, ho.tape, ho.output, ho.size, fun g hg hn => ho.block g hg fun hf => hn fun hk => ?_⟩)
    have := h0.kb g hk
    unfold F12 at hf
    omega
/-- What a call behind which the two structs are as they were leaves of them. -/
theorem Tb.keeps {w w4 : World} {K : Nat → Prop} {k a b c : Int} (hK : Keeps (KD K w.heap.size) (doW w k a b c) w4) : Tb (w.heap.size + 1) t0 w4 ∧ Tb (w.heap.size + 1 + 1) t0 w4 :=
  ⟨(doW_1 w k a b c).only hK fun h => h (.inr (by omega)), (doW_2 w k a b c).only hK fun h => h (.inr (by omega))⟩
def Cz (p : Nat) (w : World) : Prop := w.cell? ⟨p, 0, none⟩ = some (.int .i64 0) ∧ w.cell? ⟨p, 1, none⟩ = some (.int .i64 0) ∧ w.cell? ⟨p, 2, none⟩ = some (.int .i64 0) ∧ w.cell? ⟨p, 3, none⟩ = some (.slice none 0 0) ∧ w.cell? ⟨p, 4, none⟩ = some (.slice none 0 0) ∧ w.cell? ⟨p, 5, none⟩ = some (.bool false) ∧ w.cell? ⟨p, 6, none⟩ = some (.int .i64 0) ∧ (∀ j, w.frozen? ⟨p, j, none⟩ = false)
theorem Tb.cz {p : Nat} {w : World} (h : Tb p t0 w) : Cz p w := ⟨h.1 0 (by decide), h.1 1 (by decide), h.1 2 (by decide), h.1 3 (by decide), h.1 4 (by decide), h.1 5 (by decide), h.1 6 (by decide), h.2.1⟩
theorem Tb.all {p : Nat} {f : Nat → Value} {w : World} (h : Tb p f w) (n c k : Int) (z u : Value) (b : Bool) (t : Int) :
    Tb p (tz n c k z u b t) (((((((w.setCell ⟨p, 0, none⟩ (.int .i64 n)).setCell ⟨p, 1, none⟩ (.int .i64 c)).setCell ⟨p, 2, none⟩ (.int .i64 k)).setCell ⟨p, 3, none⟩ z).setCell ⟨p, 4, none⟩ u).setCell ⟨p, 5, none⟩ (.bool b)).setCell ⟨p, 6, none⟩ (.int .i64 t)) := by
  refine ((((((((h.set (j := 0) (by decide) _).set (j := 1) (by decide) _).set (j := 2) (by decide) _).set (j := 3) (by decide) _).set (j := 4) (by decide) _).set (j := 5) (by decide) _).set (j := 6) (by decide) _)).congr fun j hj => ?_
  obtain rfl | rfl | rfl | rfl | rfl | rfl | rfl : j = 0 ∨ j = 1 ∨ j = 2 ∨ j = 3 ∨ j = 4 ∨ j = 5 ∨ j = 6 := by omega
  all_goals rfl
theorem only7 {F : Nat → Prop} {a w : World} {p : Nat} (h : Only F a w) (hp : F p) (n c k z u b t : Value) :
    Only F a (((((((w.setCell ⟨p, 0, none⟩ n).setCell ⟨p, 1, none⟩ c).setCell ⟨p, 2, none⟩ k).setCell ⟨p, 3, none⟩ z).setCell ⟨p, 4, none⟩ u).setCell ⟨p, 5, none⟩ b).setCell ⟨p, 6, none⟩ t) :=
  ((((((h.setCell _ hp _).setCell _ hp _).setCell _ hp _).setCell _ hp _).setCell _ hp _).setCell _ hp _).setCell _ hp _
-- THE KINDS
set_option maxHeartbeats 2000000 in
theorem done_new {w : World} {K : Nat → Prop} {m : Nat} {E : Mem} (h : MemB K w m E) (hfew : E.length < 1000000) (a b c : Int) (ha : In64 a) (hb : In64 b) :
    Calls Try.prog 15 #[ifM m, .agg #[.int .i64 1, .int .i64 a, .int .i64 b, .int .i64 c]] w (DonePost K m (newN E a b c) zeroO false (newE a b c) (newF E a b c) w) := by
  have H0 := Lib.hid h
  have HC := Lib.hid (new_any (doW_mem h 1 a b c) hfew a b c ha hb)
  unfold NewPost at HC
  generalize newN E a b c = n at *
  generalize newE a b c = t at *
  generalize newF E a b c = E' at *
  clear h
  go_enter Try.func15, Try.ntmps15
  go_wp2_with (go_at_call 30; refine HC.out.mono ?_; rintro e w4 ⟨rfl, hm, hk⟩; have M4 := Lib.hid hm; have K4 := Lib.hid hk; obtain ⟨b1, b2⟩ := Tb.keeps hk; have B1 := Lib.hid b1; have B2 := Lib.hid b2; obtain ⟨p0, p1, p2, p3, p4, p5, p6, pf⟩ := b1.cz; obtain ⟨q0, q1, q2, q3, q4, q5, q6, qf⟩ := b2.cz; have l1 := b1.2.2; have l2 := b2.2.2; clear hm hk b1 b2)
  refine bodyPost_ret (res_told rfl rfl (Tb.all ((B1.out.other (by omega) _ _).other (by omega) _ _) _ _ _ _ _ _ _)) rfl ?_
  exact ⟨_, _, rfl, done_end H0.out M4.out K4.out (only7 (((Only.refl _ _).setCell _ (.inr rfl) _).setCell _ (.inr rfl) _) (.inl rfl) _ _ _ _ _ _ _) (ownO_zero _ _)⟩
set_option maxHeartbeats 2000000 in
theorem done_obj {w : World} {K : Nat → Prop} {m : Nat} {E : Mem} (h : MemB K w m E) (a b c : Int) (ha : In64 a) :
    Calls Try.prog 15 #[ifM m, .agg #[.int .i64 2, .int .i64 a, .int .i64 b, .int .i64 c]] w (DonePost K m 0 (objF E a) false (errF E a) E w) := by
  have H0 := Lib.hid h
  have HC : Hid (Calls Try.prog 22 #[.pointer (some ⟨m, 0, none⟩), .int .i64 a] (doW w 2 a b c) fun e w4 => ∃ a3 n3 c3 a4 n4 c4, e = .returned (.tuple #[.agg #[.int .i64 (objF E a).c, .int .i64 (objF E a).k, .slice a3 n3 c3, .slice a4 n4 c4], .int .i64 (errF E a)]) ∧
      Hid (OwnO (w.heap.size + 3) w4 (.agg #[.int .i64 (objF E a).c, .int .i64 (objF E a).k, .slice a3 n3 c3, .slice a4 n4 c4]) (objF E a)) ∧ Hid (MemB (KD K w.heap.size) w4 m E) ∧ Hid (Keeps (KD K w.heap.size) (doW w 2 a b c) w4)) := Lib.hid ((obj_any (doW_mem h 2 a b c) a ha).mono fun e w4 ⟨v, he, hv, hb⟩ => by
    obtain ⟨z, u, rfl, g1, g2⟩ := hv
    obtain ⟨a3, c3, rfl⟩ := own_form g1
    obtain ⟨a4, c4, rfl⟩ := own_form g2
    exact ⟨_, _, _, _, _, _, he, ⟨_, _, rfl, own_down g1 (by rw [doW_size]; exact Nat.le_refl _), own_down g2 (by rw [doW_size]; exact Nat.le_refl _)⟩, (doW_mem h 2 a b c).fresh hb, Keeps.of_below hb⟩)
  have HO : Hid (∀ (w5 : World) (z u : Value), OwnO w.heap.size w5 (.agg #[.int .i64 (objF E a).c, .int .i64 (objF E a).k, z, u]) (objF E a) ∧ MemB K w5 m E ∧ Keeps K w w5 → DonePost K m 0 (objF E a) false (errF E a) E w (.returned (.agg #[.int .i64 0, .int .i64 (objF E a).c, .int .i64 (objF E a).k, z, u, .bool false, .int .i64 (errF E a)])) w5) := Lib.hid fun w5 z u h => ⟨_, _, rfl, h⟩
  generalize DonePost K m 0 (objF E a) false (errF E a) E w = Q at *
  generalize errF E a = t at *
  generalize objF E a = ob at *
  generalize ob.c = oc at *
  generalize ob.k = ok at *
  clear h
  go_enter Try.func15, Try.ntmps15
  go_wp2_with fail
  refine HC.out.mono ?_
  rintro e w4 ⟨a3, n3, c3, a4, n4, c4, rfl, OO, M4, K4⟩
  obtain ⟨b1, b2⟩ := Tb.keeps K4.out
  have B1 := Lib.hid b1
  have B2 := Lib.hid b2
  obtain ⟨q0, q1, q2, q3, q4, q5, q6, qf⟩ := b2.cz
  have l2 := b2.2.2
  clear b1 b2
  go_upto_region 21 with fail
  have BA := Lib.hid ((((B1.out.other (q := w.heap.size + 1 + 1) (by omega) 1 (.int .i64 oc)).other (q := w.heap.size + 1 + 1) (by omega) 2 (.int .i64 ok)).other (q := w.heap.size + 1 + 1) (by omega) 3 (.slice a3 n3 c3)).other (q := w.heap.size + 1 + 1) (by omega) 4 (.slice a4 n4 c4))
  have BB := Lib.hid (((((B2.out.set (j := 1) (by decide) (.int .i64 oc)).set (j := 2) (by decide) (.int .i64 ok)).set (j := 3) (by decide) (.slice a3 n3 c3)).set (j := 4) (by decide) (.slice a4 n4 c4)).congr (g := tz 0 oc ok (.slice a3 n3 c3) (.slice a4 n4 c4) false 0) fun j hj => by
    obtain rfl | rfl | rfl | rfl | rfl | rfl | rfl : j = 0 ∨ j = 1 ∨ j = 2 ∨ j = 3 ∨ j = 4 ∨ j = 5 ∨ j = 6 := by omega
    all_goals rfl)
  have HN := Lib.hid ((((((Only.refl (F12 w.heap.size) w4).setCell ⟨w.heap.size + 1 + 1, 1, none⟩ (.inr rfl) (.int .i64 oc)).setCell ⟨w.heap.size + 1 + 1, 2, none⟩ (.inr rfl) (.int .i64 ok)).setCell ⟨w.heap.size + 1 + 1, 3, none⟩ (.inr rfl) (.slice a3 n3 c3)).setCell ⟨w.heap.size + 1 + 1, 4, none⟩ (.inr rfl) (.slice a4 n4 c4)))
  clear q0 q1 q2 q3 q4 q5 q6 qf l2
  generalize (((w4.setCell ⟨w.heap.size + 1 + 1, 1, none⟩ (.int .i64 oc)).setCell ⟨w.heap.size + 1 + 1, 2, none⟩ (.int .i64 ok)).setCell ⟨w.heap.size + 1 + 1, 3, none⟩ (.slice a3 n3 c3)).setCell ⟨w.heap.size + 1 + 1, 4, none⟩ (.slice a4 n4 c4) = w5 at *
  obtain ⟨p0, p1, p2, p3, p4, p5, p6, pf⟩ := (show Cz _ _ from BA.out.cz)
  have q0 : w5.cell? ⟨w.heap.size + 1 + 1, 0, none⟩ = some (.int .i64 0) := BB.out.1 0 (by decide)
  have q1 : w5.cell? ⟨w.heap.size + 1 + 1, 1, none⟩ = some (.int .i64 oc) := BB.out.1 1 (by decide)
  have q2 : w5.cell? ⟨w.heap.size + 1 + 1, 2, none⟩ = some (.int .i64 ok) := BB.out.1 2 (by decide)
  have q3 : w5.cell? ⟨w.heap.size + 1 + 1, 3, none⟩ = some (.slice a3 n3 c3) := BB.out.1 3 (by decide)
  have q4 : w5.cell? ⟨w.heap.size + 1 + 1, 4, none⟩ = some (.slice a4 n4 c4) := BB.out.1 4 (by decide)
  have q5 : w5.cell? ⟨w.heap.size + 1 + 1, 5, none⟩ = some (.bool false) := BB.out.1 5 (by decide)
  have q6 : w5.cell? ⟨w.heap.size + 1 + 1, 6, none⟩ = some (.int .i64 0) := BB.out.1 6 (by decide)
  have qf := BB.out.2.1
  have l1 := BA.out.2.2
  have l2 := BB.out.2.2
  go_wp2
  refine bodyPost_ret (res_told rfl rfl (Tb.all (BA.out.other (by omega) _ _) _ _ _ _ _ _ _)) rfl ?_
  exact HO.out _ _ _ (done_end H0.out M4.out K4.out (only7 (HN.out.setCell _ (.inr rfl) _) (.inl rfl) _ _ _ _ _ _ _) OO.out)
set_option maxHeartbeats 2000000 in
theorem done_fetch {w : World} {K : Nat → Prop} {m : Nat} {E : Mem} (h : MemB K w m E) (a b c : Int) (ha : In64 a) :
    Calls Try.prog 15 #[ifM m, .agg #[.int .i64 3, .int .i64 a, .int .i64 b, .int .i64 c]] w (DonePost K m (fetchN E a b) zeroO false (opE E a 1 b) E w) := by
  have H0 := Lib.hid h
  have HC := Lib.hid (fetch_any (doW_mem h 3 a b c) a b ha)
  unfold ReadPost at HC
  generalize fetchN E a b = n at *
  generalize opE E a 1 b = t at *
  clear h
  go_enter Try.func15, Try.ntmps15
  go_wp2_with (go_at_call 36; refine HC.out.mono ?_; rintro e w4 ⟨rfl, hb⟩; have hk : Keeps (KD K w.heap.size) (doW w 3 a b c) w4 := Keeps.of_below hb; have hm := (doW_mem H0.out 3 a b c).fresh hb; clear hb; have M4 := Lib.hid hm; have K4 := Lib.hid hk; obtain ⟨b1, b2⟩ := Tb.keeps hk; have B1 := Lib.hid b1; have B2 := Lib.hid b2; obtain ⟨p0, p1, p2, p3, p4, p5, p6, pf⟩ := b1.cz; obtain ⟨q0, q1, q2, q3, q4, q5, q6, qf⟩ := b2.cz; have l1 := b1.2.2; have l2 := b2.2.2; clear hm hk b1 b2)
  refine bodyPost_ret (res_told rfl rfl (Tb.all ((B1.out.other (by omega) _ _).other (by omega) _ _) _ _ _ _ _ _ _)) rfl ?_
  exact ⟨_, _, rfl, done_end H0.out M4.out K4.out (only7 (((Only.refl _ _).setCell _ (.inr rfl) _).setCell _ (.inr rfl) _) (.inl rfl) _ _ _ _ _ _ _) (ownO_zero _ _)⟩
set_option maxHeartbeats 2000000 in
theorem done_set {w : World} {K : Nat → Prop} {m : Nat} {E : Mem} (h : MemB K w m E) (a b c : Int) (ha : In64 a) (hc : In64 c) :
    Calls Try.prog 15 #[ifM m, .agg #[.int .i64 4, .int .i64 a, .int .i64 b, .int .i64 c]] w (DonePost K m 0 zeroO false (setE E a b c) (setF E a b c) w) := by
  have H0 := Lib.hid h
  have HC := Lib.hid (set_any (doW_mem h 4 a b c) a b c ha hc)
  unfold WrPost at HC
  generalize setE E a b c = t at *
  generalize setF E a b c = E' at *
  clear h
  go_enter Try.func15, Try.ntmps15
  go_wp2_with (go_at_call 32; refine HC.out.mono ?_; rintro e w4 ⟨rfl, hm, hk⟩; have M4 := Lib.hid hm; have K4 := Lib.hid hk; obtain ⟨b1, b2⟩ := Tb.keeps hk; have B1 := Lib.hid b1; have B2 := Lib.hid b2; obtain ⟨p0, p1, p2, p3, p4, p5, p6, pf⟩ := b1.cz; obtain ⟨q0, q1, q2, q3, q4, q5, q6, qf⟩ := b2.cz; have l1 := b1.2.2; have l2 := b2.2.2; clear hm hk b1 b2)
  refine bodyPost_ret (res_told rfl rfl (Tb.all (B1.out.other (by omega) _ _) _ _ _ _ _ _ _)) rfl ?_
  exact ⟨_, _, rfl, done_end H0.out M4.out K4.out (only7 ((Only.refl _ _).setCell _ (.inr rfl) _) (.inl rfl) _ _ _ _ _ _ _) (ownO_zero _ _)⟩
set_option maxHeartbeats 2000000 in
theorem done_byte {w : World} {K : Nat → Prop} {m : Nat} {E : Mem} (h : MemB K w m E) (a b c : Int) (ha : In64 a) :
    Calls Try.prog 15 #[ifM m, .agg #[.int .i64 5, .int .i64 a, .int .i64 b, .int .i64 c]] w (DonePost K m (byteN E a b) zeroO false (opE E a 2 b) E w) := by
  have H0 := Lib.hid h
  have HC := Lib.hid (byte_any (doW_mem h 5 a b c) a b ha)
  unfold ReadPost at HC
  generalize byteN E a b = n at *
  generalize opE E a 2 b = t at *
  clear h
  go_enter Try.func15, Try.ntmps15
  go_wp2_with (go_at_call 35; refine HC.out.mono ?_; rintro e w4 ⟨rfl, hb⟩; have hk : Keeps (KD K w.heap.size) (doW w 5 a b c) w4 := Keeps.of_below hb; have hm := (doW_mem H0.out 5 a b c).fresh hb; clear hb; have M4 := Lib.hid hm; have K4 := Lib.hid hk; obtain ⟨b1, b2⟩ := Tb.keeps hk; have B1 := Lib.hid b1; have B2 := Lib.hid b2; obtain ⟨p0, p1, p2, p3, p4, p5, p6, pf⟩ := b1.cz; obtain ⟨q0, q1, q2, q3, q4, q5, q6, qf⟩ := b2.cz; have l1 := b1.2.2; have l2 := b2.2.2; clear hm hk b1 b2)
  refine bodyPost_ret (res_told rfl rfl (Tb.all ((B1.out.other (by omega) _ _).other (by omega) _ _) _ _ _ _ _ _ _)) rfl ?_
  exact ⟨_, _, rfl, done_end H0.out M4.out K4.out (only7 (((Only.refl _ _).setCell _ (.inr rfl) _).setCell _ (.inr rfl) _) (.inl rfl) _ _ _ _ _ _ _) (ownO_zero _ _)⟩
set_option maxHeartbeats 2000000 in
theorem done_setb {w : World} {K : Nat → Prop} {m : Nat} {E : Mem} (h : MemB K w m E) (a b c : Int) (ha : In64 a) (hc : In64 c) :
    Calls Try.prog 15 #[ifM m, .agg #[.int .i64 6, .int .i64 a, .int .i64 b, .int .i64 c]] w (DonePost K m 0 zeroO false (setbE E a b c) (setbF E a b c) w) := by
  have H0 := Lib.hid h
  have HC := Lib.hid (setb_any (doW_mem h 6 a b c) a b c ha hc)
  unfold WrPost at HC
  generalize setbE E a b c = t at *
  generalize setbF E a b c = E' at *
  clear h
  go_enter Try.func15, Try.ntmps15
  go_wp2_with (go_at_call 34; refine HC.out.mono ?_; rintro e w4 ⟨rfl, hm, hk⟩; have M4 := Lib.hid hm; have K4 := Lib.hid hk; obtain ⟨b1, b2⟩ := Tb.keeps hk; have B1 := Lib.hid b1; have B2 := Lib.hid b2; obtain ⟨p0, p1, p2, p3, p4, p5, p6, pf⟩ := b1.cz; obtain ⟨q0, q1, q2, q3, q4, q5, q6, qf⟩ := b2.cz; have l1 := b1.2.2; have l2 := b2.2.2; clear hm hk b1 b2)
  refine bodyPost_ret (res_told rfl rfl (Tb.all (B1.out.other (by omega) _ _) _ _ _ _ _ _ _)) rfl ?_
  exact ⟨_, _, rfl, done_end H0.out M4.out K4.out (only7 ((Only.refl _ _).setCell _ (.inr rfl) _) (.inl rfl) _ _ _ _ _ _ _) (ownO_zero _ _)⟩
set_option maxHeartbeats 2000000 in
theorem done_become {w : World} {K : Nat → Prop} {m : Nat} {E : Mem} (h : MemB K w m E) (a b c : Int) (ha : In64 a) (hb : In64 b) :
    Calls Try.prog 15 #[ifM m, .agg #[.int .i64 7, .int .i64 a, .int .i64 b, .int .i64 c]] w (DonePost K m 0 zeroO false (becE E a b) (becF E a b) w) := by
  have H0 := Lib.hid h
  have HC := Lib.hid (become_any (doW_mem h 7 a b c) a b ha hb)
  unfold WrPost at HC
  generalize becE E a b = t at *
  generalize becF E a b = E' at *
  clear h
  go_enter Try.func15, Try.ntmps15
  go_wp2_with (go_at_call 28; refine HC.out.mono ?_; rintro e w4 ⟨rfl, hm, hk⟩; have M4 := Lib.hid hm; have K4 := Lib.hid hk; obtain ⟨b1, b2⟩ := Tb.keeps hk; have B1 := Lib.hid b1; have B2 := Lib.hid b2; obtain ⟨p0, p1, p2, p3, p4, p5, p6, pf⟩ := b1.cz; obtain ⟨q0, q1, q2, q3, q4, q5, q6, qf⟩ := b2.cz; have l1 := b1.2.2; have l2 := b2.2.2; clear hm hk b1 b2)
  refine bodyPost_ret (res_told rfl rfl (Tb.all (B1.out.other (by omega) _ _) _ _ _ _ _ _ _)) rfl ?_
  exact ⟨_, _, rfl, done_end H0.out M4.out K4.out (only7 ((Only.refl _ _).setCell _ (.inr rfl) _) (.inl rfl) _ _ _ _ _ _ _) (ownO_zero _ _)⟩
set_option maxHeartbeats 2000000 in
theorem done_next {w : World} {K : Nat → Prop} {m : Nat} {E : Mem} (h : MemB K w m E) (a b c : Int) (ha : In64 a) :
    Calls Try.prog 15 #[ifM m, .agg #[.int .i64 8, .int .i64 a, .int .i64 b, .int .i64 c]] w (DonePost K m (nextN E a) zeroO (nextB E a) 0 E w) := by
  have H0 := Lib.hid h
  have HC := Lib.hid ((next_any (doW_mem h 8 a b c) a ha))
  unfold NextPost at HC
  generalize nextN E a = n at *
  generalize nextB E a = ok at *
  clear h
  go_enter Try.func15, Try.ntmps15
  go_wp2_with (go_at_call 37; refine HC.out.mono ?_; rintro e w4 ⟨rfl, hw⟩; have hk : Keeps (KD K w.heap.size) (doW w 8 a b c) w4 := by { rw [← hw]; exact Keeps.refl _ _ }; have hm : MemB (KD K w.heap.size) w4 m E := by { rw [← hw]; exact doW_mem H0.out 8 a b c }; clear hw; have M4 := Lib.hid hm; have K4 := Lib.hid hk; obtain ⟨b1, b2⟩ := Tb.keeps hk; have B1 := Lib.hid b1; have B2 := Lib.hid b2; obtain ⟨p0, p1, p2, p3, p4, p5, p6, pf⟩ := b1.cz; obtain ⟨q0, q1, q2, q3, q4, q5, q6, qf⟩ := b2.cz; have l1 := b1.2.2; have l2 := b2.2.2; clear hm hk b1 b2)
  refine bodyPost_ret (res_told rfl rfl (Tb.all (((B1.out.other (by omega) _ _).other (by omega) _ _).other (by omega) _ _) _ _ _ _ _ _ _)) rfl ?_
  exact ⟨_, _, rfl, done_end H0.out M4.out K4.out (only7 ((((Only.refl _ _).setCell _ (.inr rfl) _).setCell _ (.inr rfl) _).setCell _ (.inr rfl) _) (.inl rfl) _ _ _ _ _ _ _) (ownO_zero _ _)⟩
theorem row3 (w : World) (a b c : Int) (ha : In64 a) (hb : In64 b) (hc : In64 c) : RowI (w.alloc (.cells #[.int .i64 a, .int .i64 b, .int .i64 c] 3)) (.slice (some ⟨w.heap.size, 0, none⟩) 3 3) [a, b, c] := by
  refine ⟨⟨_, _, rfl, .inr ⟨w.heap.size, 0, rfl, fun i hi => ?_⟩⟩, fun x hx => ?_, _, _, rfl, Nat.le_refl _⟩
  · rw [World.cell?_alloc_at _ _ _ _ rfl]
    obtain rfl | rfl | rfl : i = 0 ∨ i = 1 ∨ i = 2 := by simp at hi; omega
    all_goals rfl
  · simp at hx
    rcases hx with rfl | rfl | rfl
    · exact ha
    · exact hb
    · exact hc
set_option maxHeartbeats 2000000 in
theorem done_coll {w : World} {K : Nat → Prop} {m : Nat} {E : Mem} (h : MemB K w m E) (k a b c : Int) (hk : k < 1 ∨ 8 < k) (ha : In64 a) (hb : In64 b) (hc : In64 c) :
    Calls Try.prog 15 #[ifM m, .agg #[.int .i64 k, .int .i64 a, .int .i64 b, .int .i64 c]] w (DonePost K m (collN E (refsL [a, b, c])) zeroO false 0 (collF E (refsL [a, b, c])) w) := by
  have H0 := Lib.hid h
  have HC : Hid (Calls Try.prog 29 #[.pointer (some ⟨m, 0, none⟩), .slice (some ⟨w.heap.size + 1 + 1 + 1, 0, none⟩) 3 3] ((doW w k a b c).alloc (.cells #[.int .i64 a, .int .i64 b, .int .i64 c] 3)) fun e w4 => e = .returned (.tuple #[.int .i64 (collN E (refsL [a, b, c])), .int .i64 0]) ∧ MemB (KD K w.heap.size) w4 m (collF E (refsL [a, b, c])) ∧ Keeps (KD K w.heap.size) (doW w k a b c) w4) := by
    have hr := row3 (doW w k a b c) a b c ha hb hc
    rw [show (doW w k a b c).heap.size = w.heap.size + 1 + 1 + 1 from doW_size w k a b c] at hr
    exact Lib.hid ((collect_any ((doW_mem h k a b c).fresh (below_new _ _)) _ _ hr (by decide : 3 ≤ 1000)).mono fun e w4 ⟨he, hm, hkk⟩ => ⟨he, hm, (Keeps.of_below (below_new _ _)).trans hkk⟩)
  have d1 : (k == 1) = false := by simp; omega
  have d2 : (k == 2) = false := by simp; omega
  have d3 : (k == 3) = false := by simp; omega
  have d4 : (k == 4) = false := by simp; omega
  have d5 : (k == 5) = false := by simp; omega
  have d6 : (k == 6) = false := by simp; omega
  have d7 : (k == 7) = false := by simp; omega
  have d8 : (k == 8) = false := by simp; omega
  generalize collN E (refsL [a, b, c]) = n at *
  generalize collF E (refsL [a, b, c]) = E' at *
  clear h hk
  go_enter Try.func15, Try.ntmps15
  go_wp2_with (go_at_call 29; refine HC.out.mono ?_; rintro e w4 ⟨rfl, hm, hk⟩; have M4 := Lib.hid hm; have K4 := Lib.hid hk; obtain ⟨b1, b2⟩ := Tb.keeps hk; have B1 := Lib.hid b1; have B2 := Lib.hid b2; obtain ⟨p0, p1, p2, p3, p4, p5, p6, pf⟩ := b1.cz; obtain ⟨q0, q1, q2, q3, q4, q5, q6, qf⟩ := b2.cz; have l1 := b1.2.2; have l2 := b2.2.2; clear hm hk b1 b2)
  refine bodyPost_ret (res_told rfl rfl (Tb.all ((B1.out.other (by omega) _ _).other (by omega) _ _) _ _ _ _ _ _ _)) rfl ?_
  exact ⟨_, _, rfl, done_end H0.out M4.out K4.out (only7 (((Only.refl _ _).setCell _ (.inr rfl) _).setCell _ (.inr rfl) _) (.inl rfl) _ _ _ _ _ _ _) (ownO_zero _ _)⟩
/-- What is told, and left. -/
noncomputable def dN (E : Mem) (d : Todo) : Int := if d.k = 1 then newN E d.a d.b d.c else if d.k = 3 then fetchN E d.a d.b else if d.k = 5 then byteN E d.a d.b else if d.k = 8 then nextN E d.a else if 1 ≤ d.k ∧ d.k ≤ 8 then 0 else collN E (refsL [d.a, d.b, d.c])
def dO (E : Mem) (d : Todo) : Ob := if d.k = 2 then objF E d.a else zeroO
def dB (E : Mem) (d : Todo) : Bool := if d.k = 8 then nextB E d.a else false
def dE (E : Mem) (d : Todo) : Int := if d.k = 1 then newE d.a d.b d.c else if d.k = 2 then errF E d.a else if d.k = 3 then opE E d.a 1 d.b else if d.k = 4 then setE E d.a d.b d.c else if d.k = 5 then opE E d.a 2 d.b else if d.k = 6 then setbE E d.a d.b d.c else if d.k = 7 then becE E d.a d.b else 0
noncomputable def dF (E : Mem) (d : Todo) : Mem := if d.k = 1 then newF E d.a d.b d.c else if d.k = 4 then setF E d.a d.b d.c else if d.k = 6 then setbF E d.a d.b d.c else if d.k = 7 then becF E d.a d.b else if 1 ≤ d.k ∧ d.k ≤ 8 then E else collF E (refsL [d.a, d.b, d.c])
theorem w64_in {n : Int} (h : W64 n) : In64 n := wf_i64 h
theorem done_any {w : World} {K : Nat → Prop} {m : Nat} {E : Mem} (h : MemB K w m E) (hfew : E.length < 1000000) (d : Todo) (hd : d.wf) :
    Calls Try.prog 15 #[ifM m, .agg #[.int .i64 d.k, .int .i64 d.a, .int .i64 d.b, .int .i64 d.c]] w (DonePost K m (dN E d) (dO E d) (dB E d) (dE E d) (dF E d) w) := by
  obtain ⟨k, a, b, c⟩ := d
  obtain ⟨_, ha, hb, hc⟩ := hd
  have ha := w64_in ha
  have hb := w64_in hb
  have hc := w64_in hc
  by_cases hk : k < 1 ∨ 8 < k
  · have e0 : ∀ n : Int, 1 ≤ n → n ≤ 8 → k ≠ n := fun n h1 h2 => by omega
    have e9 : ¬ (1 ≤ k ∧ k ≤ 8) := by omega
    simp only [dN, dO, dB, dE, dF, e0 1 (by decide) (by decide), e0 2 (by decide) (by decide), e0 3 (by decide) (by decide), e0 4 (by decide) (by decide), e0 5 (by decide) (by decide), e0 6 (by decide) (by decide), e0 7 (by decide) (by decide), e0 8 (by decide) (by decide), e9, if_false]
    exact done_coll h k a b c hk ha hb hc
  · obtain rfl | rfl | rfl | rfl | rfl | rfl | rfl | rfl : k = 1 ∨ k = 2 ∨ k = 3 ∨ k = 4 ∨ k = 5 ∨ k = 6 ∨ k = 7 ∨ k = 8 := by omega
    · exact done_new h hfew a b c ha hb
    · exact done_obj h a b c ha
    · exact done_fetch h a b c ha
    · exact done_set h a b c ha hc
    · exact done_byte h a b c ha
    · exact done_setb h a b c ha hc
    · exact done_become h a b c ha hb
    · exact done_next h a b c ha
end Go.Proofs.Ytmaeoefimkppoaa.Fl
