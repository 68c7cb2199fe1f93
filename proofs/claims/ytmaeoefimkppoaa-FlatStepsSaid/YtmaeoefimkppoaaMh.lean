/- Texts one behind the other: Xw Xy Xv X2. -/
import Derived.Test.YtmaeoefimkppoaaMg
import Derived.Test.YtmaeoefimkppoaaXf

/- FlatSteps: one round's begin. -/
namespace Go.Proofs.Ytmaeoefimkppoaa.Fl
set_option maxRecDepth 1000000
open Go.ChangeShapes Go.WideShapes Go.ChangeAt Go.RowKit
open Go.Proofs.Ytmaeoefimkppoaa.Wd

theorem Two.next {W w0 w w' : World} {m px : Nat} {E : Mem} (h : Two W w0 w m px E) (b : Below w.heap.size w w') : Two W w0 w' m px E := by
  obtain ⟨K, a, l, c, L, hs, hpx, hb, hr, hm⟩ := h
  exact ⟨K, a, l, c, L, st_next hs b, hpx, hb.next b, hr.fresh b, hm⟩
/-- What a step tells, with its parts in sight. -/
def StpF (N : Nat → Prop) (E' : Mem) (n : Int) (o : Ob) (ok : Bool) (t : Int) (w : World) (e : Ending) (w' : World) : Prop :=
  ∃ a' l' c' a1 n1 c1 a2 n2 c2, e = .returned (.tuple #[.agg #[.slice a' l' c'], .agg #[.int .i64 n, .int .i64 o.c, .int .i64 o.k, .slice a1 n1 c1, .slice a2 n2 c2, .bool ok, .int .i64 t]]) ∧
    Hid (∃ L', RmV (fun g => (N g ∧ g < w.heap.size) ∨ (w.heap.size ≤ g ∧ g < w'.heap.size)) w' (.slice a' l' c') L' ∧ memR L' = E' ∧ RIn (fun g => (N g ∧ g < w.heap.size) ∨ (w.heap.size ≤ g ∧ g < w'.heap.size)) w' (o, .slice a1 n1 c1, .slice a2 n2 c2)) ∧ Below w.heap.size w w'
theorem Stp.forms {N : Nat → Prop} {E' : Mem} {n : Int} {o : Ob} {ok : Bool} {t : Int} {w w' : World} {e : Ending} (h : Stp (fun g => N g ∧ g < w.heap.size) E' n o ok t w e w') : StpF N E' n o ok t w e w' := by
  obtain ⟨a', l', c', L', z, u, he, hr, hm, ho, hb⟩ := h
  obtain ⟨a1, c1, a2, c2, e1, e2⟩ := ho.form
  simp only at e1 e2
  generalize hn1 : o.w.length = n1 at e1
  generalize hn2 : o.b.length = n2 at e2
  subst e1 e2
  exact ⟨a', l', c', a1, n1, c1, a2, n2, c2, he, ⟨L', hr.kind fun g h1 h2 => h2.imp id fun h3 => ⟨h3, h1⟩, hm, ho.kind fun g h1 h2 => h2.imp id fun h3 => ⟨h3, h1⟩⟩, hb⟩
theorem p_a (w w5 : World) (hb : Below (w.alloc (.cells #[.slice none 0 0] 29)).heap.size (w.alloc (.cells #[.slice none 0 0] 29)) w5) : B1 w.heap.size (.slice none 0 0) w5 := (b1_new w _ 29).next hb
theorem p_b (w w5 : World) (hb : Below (w.alloc (.cells #[.int .i64 0, .int .i64 0, .int .i64 0, .slice none 0 0, .slice none 0 0, .bool false, .int .i64 0] 35)).heap.size (w.alloc (.cells #[.int .i64 0, .int .i64 0, .int .i64 0, .slice none 0 0, .slice none 0 0, .bool false, .int .i64 0] 35)) w5) : Tb w.heap.size t0 w5 := (tb_new w 0 0 0 (.slice none 0 0) (.slice none 0 0) false 0 35).only (only_below hb) id
theorem p_ab (w w5 : World) (hb : Below ((w.alloc (.cells #[.slice none 0 0] 29)).alloc (.cells #[.int .i64 0, .int .i64 0, .int .i64 0, .slice none 0 0, .slice none 0 0, .bool false, .int .i64 0] 35)).heap.size ((w.alloc (.cells #[.slice none 0 0] 29)).alloc (.cells #[.int .i64 0, .int .i64 0, .int .i64 0, .slice none 0 0, .slice none 0 0, .bool false, .int .i64 0] 35)) w5) : B1 w.heap.size (.slice none 0 0) w5 ∧ Tb (w.heap.size + 1) t0 w5 := by
  have h := p_b (w.alloc (.cells #[.slice none 0 0] 29)) w5 hb
  rw [show (w.alloc (.cells #[.slice none 0 0] 29)).heap.size = w.heap.size + 1 by simp] at h
  exact ⟨((b1_new w _ 29).next (below_new _ _)).next hb, h⟩
theorem p_ba (w w5 : World) (hb : Below ((w.alloc (.cells #[.int .i64 0, .int .i64 0, .int .i64 0, .slice none 0 0, .slice none 0 0, .bool false, .int .i64 0] 35)).alloc (.cells #[.slice none 0 0] 29)).heap.size ((w.alloc (.cells #[.int .i64 0, .int .i64 0, .int .i64 0, .slice none 0 0, .slice none 0 0, .bool false, .int .i64 0] 35)).alloc (.cells #[.slice none 0 0] 29)) w5) : Tb w.heap.size t0 w5 ∧ B1 (w.heap.size + 1) (.slice none 0 0) w5 := by
  have h := p_a (w.alloc (.cells #[.int .i64 0, .int .i64 0, .int .i64 0, .slice none 0 0, .slice none 0 0, .bool false, .int .i64 0] 35)) w5 hb
  rw [show (w.alloc (.cells #[.int .i64 0, .int .i64 0, .int .i64 0, .slice none 0 0, .slice none 0 0, .bool false, .int .i64 0] 35)).heap.size = w.heap.size + 1 by simp] at h
  exact ⟨((tb_new w 0 0 0 (.slice none 0 0) (.slice none 0 0) false 0 35).only (only_below (below_new _ _)) id).only (only_below hb) id, h⟩
end Go.Proofs.Ytmaeoefimkppoaa.Fl

/- FlatSteps: what the chapter's step leaves in the law's variables, in whatever order they are made. -/
namespace Go.Proofs.Ytmaeoefimkppoaa.Fl
set_option maxRecDepth 1000000
open Go.ChangeShapes Go.WideShapes Go.ChangeAt Go.RowKit
open Go.Proofs.Ytmaeoefimkppoaa.Wd

theorem only_al {F : Nat → Prop} {a w : World} (h : Only F a w) (o : Obj) : Only F a (w.alloc o) := Only.trans h (by
  have b := below_new w o
  exact ⟨b.os, b.tape, b.output, b.size, fun k hk _ => b.block k hk⟩)
/-- Behind the chapter's step: its memory in the variable p7, what it told in p8. -/
def P11 (M : Nat → Prop) (E1 : Mem) (nn : Int) (oo : Ob) (bo : Bool) (te : Int) (w4 : World) (s7 s8 : Value) (wx : World) : Prop :=
  ∃ p7 p8 a' l' c' a3 n3 c3 a4 n4 c4, s7 = .pointer (some ⟨p7, 0, none⟩) ∧ s8 = .pointer (some ⟨p8, 0, none⟩) ∧ Hid (B1 p7 (.slice a' l' c') wx) ∧ Hid (Tb p8 (tz nn oo.c oo.k (.slice a3 n3 c3) (.slice a4 n4 c4) bo te) wx) ∧ Hid (w4.heap.size ≤ p7 ∧ w4.heap.size ≤ p8) ∧ Hid (Below w4.heap.size w4 wx) ∧
    Hid (∃ N L', (∀ g, N g → M g ∨ w4.heap.size ≤ g) ∧ RmV N wx (.slice a' l' c') L' ∧ memR L' = E1 ∧ RIn N wx (oo, .slice a3 n3 c3, .slice a4 n4 c4))
def TF11 (M : Nat → Prop) (E1 : Mem) (oo : Ob) (v z u : Value) (wa w5 : World) : Prop :=
  ∃ L', RmV (fun g => (M g ∧ g < wa.heap.size) ∨ (wa.heap.size ≤ g ∧ g < w5.heap.size)) w5 v L' ∧ memR L' = E1 ∧ RIn (fun g => (M g ∧ g < wa.heap.size) ∨ (wa.heap.size ≤ g ∧ g < w5.heap.size)) w5 (oo, z, u)
theorem fin11 {M : Nat → Prop} {w4 wa w5 wx : World} {E1 : Mem} {oo : Ob} {v z u : Value} (hM : ∀ g, M g → g < w4.heap.size) (b4 : Below w4.heap.size w4 wa) (b5 : Below wa.heap.size wa w5) (TF : TF11 M E1 oo v z u wa w5)
    (o : Only (fun g => (w4.heap.size ≤ g ∧ g < wa.heap.size) ∨ w5.heap.size ≤ g) w5 wx) :
    Hid (Below w4.heap.size w4 wx) ∧ Hid (∃ N L', (∀ g, N g → M g ∨ w4.heap.size ≤ g) ∧ RmV N wx v L' ∧ memR L' = E1 ∧ RIn N wx (oo, z, u)) := by
  have s1 := b4.size
  have s2 := b5.size
  obtain ⟨L', h1, h2, h3⟩ := TF
  have hd : ∀ g, (M g ∧ g < wa.heap.size) ∨ (wa.heap.size ≤ g ∧ g < w5.heap.size) → ¬ ((w4.heap.size ≤ g ∧ g < wa.heap.size) ∨ w5.heap.size ≤ g) := fun g hg => by
    rcases hg with ⟨q1, q2⟩ | ⟨q1, q2⟩
    · have := hM g q1
      omega
    · omega
  refine ⟨(b4.trans (b5.mono s1)).trans (Only.below (B := w4.heap.size) o (fun i hi e => ?_) (Nat.le_trans s1 s2)), _, L', fun g hg => ?_, h1.only o hd, h2, h3.only o hd⟩
  · rcases e with ⟨q1, q2⟩ | q1 <;> omega
  · rcases hg with ⟨q1, q2⟩ | ⟨q1, q2⟩
    · exact .inl q1
    · exact .inr (by omega)
section
variable {M : Nat → Prop} {w4 w5 : World} {E1 : Mem} {nn te : Int} {oo : Ob} {bo : Bool} {a' a3 a4 : Option Addr} {l' c' n3 c3 n4 c4 : Nat}
abbrev oA : Obj := .cells #[.slice none 0 0] 29
abbrev oB : Obj := .cells #[.int .i64 0, .int .i64 0, .int .i64 0, .slice none 0 0, .slice none 0 0, .bool false, .int .i64 0] 35
theorem q_1 (hM : ∀ g, M g → g < w4.heap.size) (b5 : Below w4.heap.size w4 w5) (TF : TF11 M E1 oo (.slice a' l' c') (.slice a3 n3 c3) (.slice a4 n4 c4) w4 w5) :
    P11 M E1 nn oo bo te w4 (.pointer (some ⟨w5.heap.size, 0, none⟩)) (.pointer (some ⟨w5.heap.size + 1, 0, none⟩)) ((w5.alloc (.cells #[.slice a' l' c'] 29)).alloc (.cells #[.int .i64 nn, .int .i64 oo.c, .int .i64 oo.k, .slice a3 n3 c3, .slice a4 n4 c4, .bool bo, .int .i64 te] 35)) := by
  have x := tb_new (w5.alloc (.cells #[.slice a' l' c'] 29)) nn oo.c oo.k (.slice a3 n3 c3) (.slice a4 n4 c4) bo te 35
  rw [show (w5.alloc (.cells #[.slice a' l' c'] 29)).heap.size = w5.heap.size + 1 by simp] at x
  obtain ⟨f1, f2⟩ := fin11 hM (Below.refl _ _) b5 TF (only_al (only_al (Only.refl _ _) (.cells #[.slice a' l' c'] 29)) (.cells #[.int .i64 nn, .int .i64 oo.c, .int .i64 oo.k, .slice a3 n3 c3, .slice a4 n4 c4, .bool bo, .int .i64 te] 35))
  exact ⟨_, _, _, _, _, _, _, _, _, _, _, rfl, rfl, (b1_new w5 _ 29).next (below_new _ _), x, ⟨b5.size, Nat.le_succ_of_le b5.size⟩, f1, f2⟩
theorem q_2 (hM : ∀ g, M g → g < w4.heap.size) (b5 : Below w4.heap.size w4 w5) (TF : TF11 M E1 oo (.slice a' l' c') (.slice a3 n3 c3) (.slice a4 n4 c4) w4 w5) :
    P11 M E1 nn oo bo te w4 (.pointer (some ⟨w5.heap.size + 1, 0, none⟩)) (.pointer (some ⟨w5.heap.size, 0, none⟩)) ((w5.alloc (.cells #[.int .i64 nn, .int .i64 oo.c, .int .i64 oo.k, .slice a3 n3 c3, .slice a4 n4 c4, .bool bo, .int .i64 te] 35)).alloc (.cells #[.slice a' l' c'] 29)) := by
  have x := b1_new (w5.alloc (.cells #[.int .i64 nn, .int .i64 oo.c, .int .i64 oo.k, .slice a3 n3 c3, .slice a4 n4 c4, .bool bo, .int .i64 te] 35)) (.slice a' l' c') 29
  rw [show (w5.alloc (.cells #[.int .i64 nn, .int .i64 oo.c, .int .i64 oo.k, .slice a3 n3 c3, .slice a4 n4 c4, .bool bo, .int .i64 te] 35)).heap.size = w5.heap.size + 1 by simp] at x
  obtain ⟨f1, f2⟩ := fin11 hM (Below.refl _ _) b5 TF (only_al (only_al (Only.refl _ _) (.cells #[.int .i64 nn, .int .i64 oo.c, .int .i64 oo.k, .slice a3 n3 c3, .slice a4 n4 c4, .bool bo, .int .i64 te] 35)) (.cells #[.slice a' l' c'] 29))
  exact ⟨_, _, _, _, _, _, _, _, _, _, _, rfl, rfl, x, (tb_new w5 nn oo.c oo.k (.slice a3 n3 c3) (.slice a4 n4 c4) bo te 35).only (only_below (below_new _ _)) id, ⟨Nat.le_succ_of_le b5.size, b5.size⟩, f1, f2⟩
theorem q_3 (hM : ∀ g, M g → g < w4.heap.size) (b5 : Below (w4.alloc oA).heap.size (w4.alloc oA) w5) (TF : TF11 M E1 oo (.slice a' l' c') (.slice a3 n3 c3) (.slice a4 n4 c4) (w4.alloc oA) w5) :
    P11 M E1 nn oo bo te w4 (.pointer (some ⟨w4.heap.size, 0, none⟩)) (.pointer (some ⟨w5.heap.size, 0, none⟩)) ((w5.setCell ⟨w4.heap.size, 0, none⟩ (.slice a' l' c')).alloc (.cells #[.int .i64 nn, .int .i64 oo.c, .int .i64 oo.k, .slice a3 n3 c3, .slice a4 n4 c4, .bool bo, .int .i64 te] 35)) := by
  have hF : (w4.heap.size ≤ w4.heap.size ∧ w4.heap.size < (w4.alloc oA).heap.size) ∨ w5.heap.size ≤ w4.heap.size := .inl ⟨Nat.le_refl _, by simp⟩
  have x := tb_new (w5.setCell ⟨w4.heap.size, 0, none⟩ (.slice a' l' c')) nn oo.c oo.k (.slice a3 n3 c3) (.slice a4 n4 c4) bo te 35
  rw [show (w5.setCell ⟨w4.heap.size, 0, none⟩ (.slice a' l' c')).heap.size = w5.heap.size by simp] at x
  obtain ⟨f1, f2⟩ := fin11 hM (below_new _ _) b5 TF (only_al (Only.setCell (Only.refl _ _) ⟨w4.heap.size, 0, none⟩ hF (.slice a' l' c')) (.cells #[.int .i64 nn, .int .i64 oo.c, .int .i64 oo.k, .slice a3 n3 c3, .slice a4 n4 c4, .bool bo, .int .i64 te] 35))
  exact ⟨_, _, _, _, _, _, _, _, _, _, _, rfl, rfl, ((p_a w4 w5 b5).put _).next (below_new _ _), x, ⟨Nat.le_refl _, Nat.le_trans (by simp) b5.size⟩, f1, f2⟩
theorem q_5 (hM : ∀ g, M g → g < w4.heap.size) (b5 : Below (w4.alloc oB).heap.size (w4.alloc oB) w5) (TF : TF11 M E1 oo (.slice a' l' c') (.slice a3 n3 c3) (.slice a4 n4 c4) (w4.alloc oB) w5) :
    P11 M E1 nn oo bo te w4 (.pointer (some ⟨w5.heap.size, 0, none⟩)) (.pointer (some ⟨w4.heap.size, 0, none⟩)) ((((((((w5.setCell ⟨w4.heap.size, 0, none⟩ (.int .i64 nn)).setCell ⟨w4.heap.size, 1, none⟩ (.int .i64 oo.c)).setCell ⟨w4.heap.size, 2, none⟩ (.int .i64 oo.k)).setCell ⟨w4.heap.size, 3, none⟩ (.slice a3 n3 c3)).setCell ⟨w4.heap.size, 4, none⟩ (.slice a4 n4 c4)).setCell ⟨w4.heap.size, 5, none⟩ (.bool bo)).setCell ⟨w4.heap.size, 6, none⟩ (.int .i64 te)).alloc (.cells #[.slice a' l' c'] 29)) := by
  have hF : (w4.heap.size ≤ w4.heap.size ∧ w4.heap.size < (w4.alloc oB).heap.size) ∨ w5.heap.size ≤ w4.heap.size := .inl ⟨Nat.le_refl _, by simp⟩
  have x := b1_new (((((((w5.setCell ⟨w4.heap.size, 0, none⟩ (.int .i64 nn)).setCell ⟨w4.heap.size, 1, none⟩ (.int .i64 oo.c)).setCell ⟨w4.heap.size, 2, none⟩ (.int .i64 oo.k)).setCell ⟨w4.heap.size, 3, none⟩ (.slice a3 n3 c3)).setCell ⟨w4.heap.size, 4, none⟩ (.slice a4 n4 c4)).setCell ⟨w4.heap.size, 5, none⟩ (.bool bo)).setCell ⟨w4.heap.size, 6, none⟩ (.int .i64 te)) (.slice a' l' c') 29
  rw [show (((((((w5.setCell ⟨w4.heap.size, 0, none⟩ (.int .i64 nn)).setCell ⟨w4.heap.size, 1, none⟩ (.int .i64 oo.c)).setCell ⟨w4.heap.size, 2, none⟩ (.int .i64 oo.k)).setCell ⟨w4.heap.size, 3, none⟩ (.slice a3 n3 c3)).setCell ⟨w4.heap.size, 4, none⟩ (.slice a4 n4 c4)).setCell ⟨w4.heap.size, 5, none⟩ (.bool bo)).setCell ⟨w4.heap.size, 6, none⟩ (.int .i64 te)).heap.size = w5.heap.size by simp] at x
  obtain ⟨f1, f2⟩ := fin11 hM (below_new _ _) b5 TF (only_al (only7 (Only.refl _ _) hF (.int .i64 nn) (.int .i64 oo.c) (.int .i64 oo.k) (.slice a3 n3 c3) (.slice a4 n4 c4) (.bool bo) (.int .i64 te)) (.cells #[.slice a' l' c'] 29))
  exact ⟨_, _, _, _, _, _, _, _, _, _, _, rfl, rfl, x, ((p_b w4 w5 b5).all _ _ _ _ _ _ _).only (only_below (below_new _ _)) id, ⟨by have := b5.size; simp at this; show w4.heap.size ≤ w5.heap.size; omega, Nat.le_refl _⟩, f1, f2⟩
theorem q_4a (hM : ∀ g, M g → g < w4.heap.size) (b5 : Below ((w4.alloc oA).alloc oB).heap.size ((w4.alloc oA).alloc oB) w5) (TF : TF11 M E1 oo (.slice a' l' c') (.slice a3 n3 c3) (.slice a4 n4 c4) ((w4.alloc oA).alloc oB) w5) :
    P11 M E1 nn oo bo te w4 (.pointer (some ⟨w4.heap.size, 0, none⟩)) (.pointer (some ⟨w4.heap.size + 1, 0, none⟩)) ((((((((w5.setCell ⟨w4.heap.size, 0, none⟩ (.slice a' l' c')).setCell ⟨w4.heap.size + 1, 0, none⟩ (.int .i64 nn)).setCell ⟨w4.heap.size + 1, 1, none⟩ (.int .i64 oo.c)).setCell ⟨w4.heap.size + 1, 2, none⟩ (.int .i64 oo.k)).setCell ⟨w4.heap.size + 1, 3, none⟩ (.slice a3 n3 c3)).setCell ⟨w4.heap.size + 1, 4, none⟩ (.slice a4 n4 c4)).setCell ⟨w4.heap.size + 1, 5, none⟩ (.bool bo)).setCell ⟨w4.heap.size + 1, 6, none⟩ (.int .i64 te)) := by
  have hs : ((w4.alloc oA).alloc oB).heap.size = w4.heap.size + 2 := by simp
  have hF0 : (w4.heap.size ≤ w4.heap.size ∧ w4.heap.size < ((w4.alloc oA).alloc oB).heap.size) ∨ w5.heap.size ≤ w4.heap.size := .inl ⟨by omega, by omega⟩
  have hF1 : (w4.heap.size ≤ w4.heap.size + 1 ∧ w4.heap.size + 1 < ((w4.alloc oA).alloc oB).heap.size) ∨ w5.heap.size ≤ w4.heap.size + 1 := .inl ⟨by omega, by omega⟩
  have bb : Below w4.heap.size w4 ((w4.alloc oA).alloc oB) := (below_new _ _).alloc (by simp) _
  obtain ⟨x1, x2⟩ := p_ab w4 w5 b5
  obtain ⟨f1, f2⟩ := fin11 hM bb b5 TF (only7 (Only.setCell (Only.refl _ _) ⟨w4.heap.size, 0, none⟩ hF0 (.slice a' l' c')) hF1 (.int .i64 nn) (.int .i64 oo.c) (.int .i64 oo.k) (.slice a3 n3 c3) (.slice a4 n4 c4) (.bool bo) (.int .i64 te))
  have y := ((((((((x1.put (.slice a' l' c')).other (g := w4.heap.size + 1) (by omega) 0 (.int .i64 nn)).other (g := w4.heap.size + 1) (by omega) 1 (.int .i64 oo.c)).other (g := w4.heap.size + 1) (by omega) 2 (.int .i64 oo.k)).other (g := w4.heap.size + 1) (by omega) 3 (.slice a3 n3 c3)).other (g := w4.heap.size + 1) (by omega) 4 (.slice a4 n4 c4)).other (g := w4.heap.size + 1) (by omega) 5 (.bool bo)).other (g := w4.heap.size + 1) (by omega) 6 (.int .i64 te))
  exact ⟨_, _, _, _, _, _, _, _, _, _, _, rfl, rfl, y, (x2.other (q := w4.heap.size) (by omega) 0 (.slice a' l' c')).all _ _ _ _ _ _ _, ⟨Nat.le_refl _, Nat.le_succ _⟩, f1, f2⟩
theorem q_4b (hM : ∀ g, M g → g < w4.heap.size) (b5 : Below ((w4.alloc oA).alloc oB).heap.size ((w4.alloc oA).alloc oB) w5) (TF : TF11 M E1 oo (.slice a' l' c') (.slice a3 n3 c3) (.slice a4 n4 c4) ((w4.alloc oA).alloc oB) w5) :
    P11 M E1 nn oo bo te w4 (.pointer (some ⟨w4.heap.size, 0, none⟩)) (.pointer (some ⟨w4.heap.size + 1, 0, none⟩)) ((((((((w5.setCell ⟨w4.heap.size + 1, 0, none⟩ (.int .i64 nn)).setCell ⟨w4.heap.size + 1, 1, none⟩ (.int .i64 oo.c)).setCell ⟨w4.heap.size + 1, 2, none⟩ (.int .i64 oo.k)).setCell ⟨w4.heap.size + 1, 3, none⟩ (.slice a3 n3 c3)).setCell ⟨w4.heap.size + 1, 4, none⟩ (.slice a4 n4 c4)).setCell ⟨w4.heap.size + 1, 5, none⟩ (.bool bo)).setCell ⟨w4.heap.size + 1, 6, none⟩ (.int .i64 te)).setCell ⟨w4.heap.size, 0, none⟩ (.slice a' l' c')) := by
  have hs : ((w4.alloc oA).alloc oB).heap.size = w4.heap.size + 2 := by simp
  have hF0 : (w4.heap.size ≤ w4.heap.size ∧ w4.heap.size < ((w4.alloc oA).alloc oB).heap.size) ∨ w5.heap.size ≤ w4.heap.size := .inl ⟨by omega, by omega⟩
  have hF1 : (w4.heap.size ≤ w4.heap.size + 1 ∧ w4.heap.size + 1 < ((w4.alloc oA).alloc oB).heap.size) ∨ w5.heap.size ≤ w4.heap.size + 1 := .inl ⟨by omega, by omega⟩
  have bb : Below w4.heap.size w4 ((w4.alloc oA).alloc oB) := (below_new _ _).alloc (by simp) _
  obtain ⟨x1, x2⟩ := p_ab w4 w5 b5
  obtain ⟨f1, f2⟩ := fin11 hM bb b5 TF (Only.setCell (only7 (Only.refl _ _) hF1 (.int .i64 nn) (.int .i64 oo.c) (.int .i64 oo.k) (.slice a3 n3 c3) (.slice a4 n4 c4) (.bool bo) (.int .i64 te)) ⟨w4.heap.size, 0, none⟩ hF0 (.slice a' l' c'))
  have y := (((((((x1.other (g := w4.heap.size + 1) (by omega) 0 (.int .i64 nn)).other (g := w4.heap.size + 1) (by omega) 1 (.int .i64 oo.c)).other (g := w4.heap.size + 1) (by omega) 2 (.int .i64 oo.k)).other (g := w4.heap.size + 1) (by omega) 3 (.slice a3 n3 c3)).other (g := w4.heap.size + 1) (by omega) 4 (.slice a4 n4 c4)).other (g := w4.heap.size + 1) (by omega) 5 (.bool bo)).other (g := w4.heap.size + 1) (by omega) 6 (.int .i64 te)).put (.slice a' l' c')
  exact ⟨_, _, _, _, _, _, _, _, _, _, _, rfl, rfl, y, (x2.all _ _ _ _ _ _ _).other (q := w4.heap.size) (by omega) 0 (.slice a' l' c'), ⟨Nat.le_refl _, Nat.le_succ _⟩, f1, f2⟩
theorem q_6a (hM : ∀ g, M g → g < w4.heap.size) (b5 : Below ((w4.alloc oB).alloc oA).heap.size ((w4.alloc oB).alloc oA) w5) (TF : TF11 M E1 oo (.slice a' l' c') (.slice a3 n3 c3) (.slice a4 n4 c4) ((w4.alloc oB).alloc oA) w5) :
    P11 M E1 nn oo bo te w4 (.pointer (some ⟨w4.heap.size + 1, 0, none⟩)) (.pointer (some ⟨w4.heap.size, 0, none⟩)) ((((((((w5.setCell ⟨w4.heap.size + 1, 0, none⟩ (.slice a' l' c')).setCell ⟨w4.heap.size, 0, none⟩ (.int .i64 nn)).setCell ⟨w4.heap.size, 1, none⟩ (.int .i64 oo.c)).setCell ⟨w4.heap.size, 2, none⟩ (.int .i64 oo.k)).setCell ⟨w4.heap.size, 3, none⟩ (.slice a3 n3 c3)).setCell ⟨w4.heap.size, 4, none⟩ (.slice a4 n4 c4)).setCell ⟨w4.heap.size, 5, none⟩ (.bool bo)).setCell ⟨w4.heap.size, 6, none⟩ (.int .i64 te)) := by
  have hs : ((w4.alloc oB).alloc oA).heap.size = w4.heap.size + 2 := by simp
  have hF0 : (w4.heap.size ≤ w4.heap.size + 1 ∧ w4.heap.size + 1 < ((w4.alloc oB).alloc oA).heap.size) ∨ w5.heap.size ≤ w4.heap.size + 1 := .inl ⟨by omega, by omega⟩
  have hF1 : (w4.heap.size ≤ w4.heap.size ∧ w4.heap.size < ((w4.alloc oB).alloc oA).heap.size) ∨ w5.heap.size ≤ w4.heap.size := .inl ⟨by omega, by omega⟩
  have bb : Below w4.heap.size w4 ((w4.alloc oB).alloc oA) := (below_new _ _).alloc (by simp) _
  obtain ⟨x1, x2⟩ := p_ba w4 w5 b5
  obtain ⟨f1, f2⟩ := fin11 hM bb b5 TF (only7 (Only.setCell (Only.refl _ _) ⟨w4.heap.size + 1, 0, none⟩ hF0 (.slice a' l' c')) hF1 (.int .i64 nn) (.int .i64 oo.c) (.int .i64 oo.k) (.slice a3 n3 c3) (.slice a4 n4 c4) (.bool bo) (.int .i64 te))
  have y := ((((((((x2.put (.slice a' l' c')).other (g := w4.heap.size) (by omega) 0 (.int .i64 nn)).other (g := w4.heap.size) (by omega) 1 (.int .i64 oo.c)).other (g := w4.heap.size) (by omega) 2 (.int .i64 oo.k)).other (g := w4.heap.size) (by omega) 3 (.slice a3 n3 c3)).other (g := w4.heap.size) (by omega) 4 (.slice a4 n4 c4)).other (g := w4.heap.size) (by omega) 5 (.bool bo)).other (g := w4.heap.size) (by omega) 6 (.int .i64 te))
  exact ⟨_, _, _, _, _, _, _, _, _, _, _, rfl, rfl, y, (x1.other (q := w4.heap.size + 1) (by omega) 0 (.slice a' l' c')).all _ _ _ _ _ _ _, ⟨Nat.le_succ _, Nat.le_refl _⟩, f1, f2⟩
theorem q_6b (hM : ∀ g, M g → g < w4.heap.size) (b5 : Below ((w4.alloc oB).alloc oA).heap.size ((w4.alloc oB).alloc oA) w5) (TF : TF11 M E1 oo (.slice a' l' c') (.slice a3 n3 c3) (.slice a4 n4 c4) ((w4.alloc oB).alloc oA) w5) :
    P11 M E1 nn oo bo te w4 (.pointer (some ⟨w4.heap.size + 1, 0, none⟩)) (.pointer (some ⟨w4.heap.size, 0, none⟩)) ((((((((w5.setCell ⟨w4.heap.size, 0, none⟩ (.int .i64 nn)).setCell ⟨w4.heap.size, 1, none⟩ (.int .i64 oo.c)).setCell ⟨w4.heap.size, 2, none⟩ (.int .i64 oo.k)).setCell ⟨w4.heap.size, 3, none⟩ (.slice a3 n3 c3)).setCell ⟨w4.heap.size, 4, none⟩ (.slice a4 n4 c4)).setCell ⟨w4.heap.size, 5, none⟩ (.bool bo)).setCell ⟨w4.heap.size, 6, none⟩ (.int .i64 te)).setCell ⟨w4.heap.size + 1, 0, none⟩ (.slice a' l' c')) := by
  have hs : ((w4.alloc oB).alloc oA).heap.size = w4.heap.size + 2 := by simp
  have hF0 : (w4.heap.size ≤ w4.heap.size + 1 ∧ w4.heap.size + 1 < ((w4.alloc oB).alloc oA).heap.size) ∨ w5.heap.size ≤ w4.heap.size + 1 := .inl ⟨by omega, by omega⟩
  have hF1 : (w4.heap.size ≤ w4.heap.size ∧ w4.heap.size < ((w4.alloc oB).alloc oA).heap.size) ∨ w5.heap.size ≤ w4.heap.size := .inl ⟨by omega, by omega⟩
  have bb : Below w4.heap.size w4 ((w4.alloc oB).alloc oA) := (below_new _ _).alloc (by simp) _
  obtain ⟨x1, x2⟩ := p_ba w4 w5 b5
  obtain ⟨f1, f2⟩ := fin11 hM bb b5 TF (Only.setCell (only7 (Only.refl _ _) hF1 (.int .i64 nn) (.int .i64 oo.c) (.int .i64 oo.k) (.slice a3 n3 c3) (.slice a4 n4 c4) (.bool bo) (.int .i64 te)) ⟨w4.heap.size + 1, 0, none⟩ hF0 (.slice a' l' c'))
  have y := (((((((x2.other (g := w4.heap.size) (by omega) 0 (.int .i64 nn)).other (g := w4.heap.size) (by omega) 1 (.int .i64 oo.c)).other (g := w4.heap.size) (by omega) 2 (.int .i64 oo.k)).other (g := w4.heap.size) (by omega) 3 (.slice a3 n3 c3)).other (g := w4.heap.size) (by omega) 4 (.slice a4 n4 c4)).other (g := w4.heap.size) (by omega) 5 (.bool bo)).other (g := w4.heap.size) (by omega) 6 (.int .i64 te)).put (.slice a' l' c')
  exact ⟨_, _, _, _, _, _, _, _, _, _, _, rfl, rfl, y, (x1.all _ _ _ _ _ _ _).other (q := w4.heap.size + 1) (by omega) 0 (.slice a' l' c'), ⟨Nat.le_succ _, Nat.le_refl _⟩, f1, f2⟩
end
end Go.Proofs.Ytmaeoefimkppoaa.Fl

/- Class and Size of an object that is there. -/
namespace Go.Proofs.Ytmaeoefimkppoaa.Fl
set_option maxRecDepth 1000000
open Go.ChangeShapes Go.WideShapes Go.ChangeAt Go.RowKit
open Go.Proofs.Ytmaeoefimkppoaa.Wd

theorem got_plain {w : World} {K : Nat → Prop} {m : Nat} {E : Mem} (h : MemB K w m E) (o : Int) (ho : In64 o) (he : errF E o = 0) :
    Calls Try.prog 22 #[.pointer (some ⟨m, 0, none⟩), .int .i64 o] w fun e w' => ∃ a1 n1 c1 a2 n2 c2, e = .returned (.tuple #[.agg #[.int .i64 (objF E o).c, .int .i64 (objF E o).k, .slice a1 n1 c1, .slice a2 n2 c2], .int .i64 0]) ∧
      Hid (Below w.heap.size w w') ∧ Hid (ObjAt (w'.alloc (.cells #[.int .i64 (objF E o).c, .int .i64 (objF E o).k, .slice a1 n1 c1, .slice a2 n2 c2] 33)) (.agg #[.int .i64 (objF E o).c, .int .i64 (objF E o).k, .slice a1 n1 c1, .slice a2 n2 c2]) (objF E o)) :=
  (obj_any h o ho).mono fun e w' ⟨v, he', hv, hb⟩ => by
    have hz := objF_okZ h.good o
    have hob := hv.obj hz
    obtain ⟨z, u, rfl, g1, g2⟩ := hv
    obtain ⟨a1, c1, rfl⟩ := own_form g1
    obtain ⟨a2, c2, rfl⟩ := own_form g2
    rw [he] at he'
    exact ⟨_, _, _, _, _, _, he', hb, hob.kept (below_new _ _)⟩
theorem class_any {w : World} {K : Nat → Prop} {m : Nat} {E : Mem} (h : MemB K w m E) (o : Int) (ho : In64 o) (he : errF E o = 0) :
    Calls Try.prog 23 #[ifM m, .int .i64 o] w fun e w' => e = .returned (.tuple #[.int .i64 (objF E o).c, .int .i64 0]) ∧ Below w.heap.size w w' := by
  have HO := Lib.hid (got_plain h o ho he)
  clear h ho he
  generalize objF E o = x at *
  go_enter Try.func23, Try.ntmps23
  go_upto_region 2 with (first | (go_at_call 47; refine (some_any _ _).mono ?_; rintro e' w1 ⟨rfl, rfl⟩) | (go_at_call 22; refine HO.out.mono ?_; rintro e w2 ⟨a1, n1, c1, a2, n2, c2, rfl, B2, _⟩))
  have BX := box_new w2 (.int .i64 x.c) (.int .i64 x.k) (.slice a1 n1 c1) (.slice a2 n2 c2)
  have B3 : Hid (Below w.heap.size w (w2.alloc (.cells #[.int .i64 x.c, .int .i64 x.k, .slice a1 n1 c1, .slice a2 n2 c2] 33))) := Lib.hid (B2.out.alloc B2.out.size _)
  generalize w2.alloc (.cells #[.int .i64 x.c, .int .i64 x.k, .slice a1 n1 c1, .slice a2 n2 c2] 33) = w3 at *
  generalize w2.heap.size = p6 at *
  obtain ⟨⟨q0, q1, q2, q3⟩, qf, ql⟩ := BX
  go_wp2_with fail
  go_ret2
  exact ⟨rfl, B3.out⟩
theorem sizeM_any {w : World} {K : Nat → Prop} {m : Nat} {E : Mem} (h : MemB K w m E) (o : Int) (ho : In64 o) (he : errF E o = 0) :
    Calls Try.prog 24 #[ifM m, .int .i64 o] w fun e w' => e = .returned (.tuple #[.int .i64 (sizeO (objF E o) : Nat), .int .i64 0]) ∧ Below w.heap.size w w' := by
  have HO := Lib.hid (got_plain h o ho he)
  clear h ho he
  generalize objF E o = x at *
  have HS : Hid (∀ w v, ObjAt w v x → Calls Try.prog 50 #[v] w (SizePost (sizeO x) w)) := Lib.hid fun w v h => size_any v x w h
  generalize (sizeO x : Nat) = sz at *
  go_enter Try.func24, Try.ntmps24
  go_upto_region 2 with (first | (go_at_call 47; refine (some_any _ _).mono ?_; rintro e' w1 ⟨rfl, rfl⟩) | (go_at_call 22; refine HO.out.mono ?_; rintro e w2 ⟨a1, n1, c1, a2, n2, c2, rfl, B2, O2⟩))
  have BX := box_new w2 (.int .i64 x.c) (.int .i64 x.k) (.slice a1 n1 c1) (.slice a2 n2 c2)
  have B3 : Hid (Below w.heap.size w (w2.alloc (.cells #[.int .i64 x.c, .int .i64 x.k, .slice a1 n1 c1, .slice a2 n2 c2] 33))) := Lib.hid (B2.out.alloc B2.out.size _)
  generalize w2.alloc (.cells #[.int .i64 x.c, .int .i64 x.k, .slice a1 n1 c1, .slice a2 n2 c2] 33) = w3 at *
  generalize w2.heap.size = p6 at *
  obtain ⟨⟨q0, q1, q2, q3⟩, qf, ql⟩ := BX
  go_wp2_with (go_at_call 50; refine (HS.out _ _ O2.out).mono ?_; rintro e w4 ⟨rfl, hb4⟩; have B4 := Lib.hid (B3.out.trans (hb4.mono B3.out.size)))
  go_ret2
  exact ⟨rfl, B4.out⟩
end Go.Proofs.Ytmaeoefimkppoaa.Fl

/- FlatSteps: an object of the chapter's memory, by its place among those that are there. -/
namespace Go.Proofs.Ytmaeoefimkppoaa.Fl
set_option maxRecDepth 1000000
open Go.ChangeShapes Go.WideShapes Go.ChangeAt Go.RowKit
open Go.Proofs.Ytmaeoefimkppoaa.Wd

theorem okz_plus {o : Ob} (h : OkZ o) : sizeO o = o.w.length + o.b.length := by
  rcases h with rfl | ⟨h, _⟩
  · rfl
  · obtain ⟨_, ⟨h1, h2, _⟩ | ⟨h1, h2, _⟩⟩ := (okO_iff o).1 h
    · unfold sizeO; rw [if_pos h1, h2]; rfl
    · unfold sizeO; rw [if_neg (by omega), if_pos h1, h2]; simp
theorem row_cells2 {w : World} {base n c : Nat} {a : Option Addr} {xs : List Int} (h : w.ownsRow base 3 1 (.slice a n c) n (xs.map (Value.int .i64))) (hn : n = xs.length) :
    ∀ w', Below w.heap.size w w' → 0 < n → ∃ g, a = some ⟨g, 0, none⟩ ∧ ∀ j, j < n → w'.cell? ⟨g, j, none⟩ = some (.int .i64 (xs.getD j 0)) := fun w' hb h0 => by
  obtain ⟨g, cc, he⟩ := own_at h h0
  injection he with e1 e2 e3
  subst e1 e3
  exact ⟨g, rfl, fun j hj => (own_cells (own_kept h hb)).1 j _ (getD_map (by omega))⟩
theorem twoL_at {xs : List Int} {j : Nat} (hj : j < xs.length) : (twoL xs).getD j 0 = 2 * xs.getD j 0 := by
  unfold twoL
  simp [List.getD, hj]
theorem elem_at {N : Nat → Prop} {w : World} {v : Value} {L : List RO} {E : Mem} (hv : RmV N w v L) (hm : memR L = E) (hE : E.length ≤ 1000000) {k : Nat} (hk : k < (ids E).length) :
    ∃ (j : Nat) (x : Ob) (b off c : Nat) (a3 : Option Addr) (n3 c3 : Nat) (a4 : Option Addr) (n4 c4 : Nat), (ids E).getD k 0 = (j : Int) + 1 ∧ j < E.length ∧ objF E (2 * ((j : Int) + 1)) = x ∧ errF E (2 * ((j : Int) + 1)) = 0 ∧ v = .slice (some ⟨b, off, none⟩) E.length c ∧
      RowC w b (off + j * 4) x.c x.k (.slice a3 n3 c3) (.slice a4 n4 c4) ∧ ObjAt w (.agg #[.int .i64 x.c, .int .i64 x.k, .slice a3 n3 c3, .slice a4 n4 c4]) x ∧ sizeO x = n3 + n4 ∧ Short x := by
  subst hm
  have hin := ids_at hk
  have hr := ids_rng hin
  have hs := mem_ids.1 hin
  rw [memR_len] at hE hr ⊢
  generalize (ids (memR L)).getD k 0 = i at *
  have hn := nam_two (i := i) hr.1 (by omega)
  rcases find_ways hv (2 * i) with ⟨e, _⟩ | ⟨j, ob, z, u, hp, hj, _, e1, e2, _⟩
  · rw [hn] at e
    rw [e] at hs
    simp at hs
  · obtain ⟨b, off, c, rfl, _, hc, hi⟩ := hv.cells_ro hp
    obtain ⟨a3, c3, a4, c4, f1, f2⟩ := hi.form
    have ho := hi.obj
    have hz := hi.ok
    simp only at f1 f2 ho hz
    subst f1 f2
    have hi2 : i = (j : Int) + 1 := by rw [← hn, e1]; simp
    subst hi2
    have hsz := okz_plus hz
    have hsh := okZ_short hz
    exact ⟨j, ob, b, off, c, a3, _, c3, a4, _, c4, rfl, hj, by unfold objF; rw [e2]; rfl, by unfold errF; rw [e2]; rfl, rfl, hc, ho, hsz, ⟨by omega, by omega⟩⟩
end Go.Proofs.Ytmaeoefimkppoaa.Fl
