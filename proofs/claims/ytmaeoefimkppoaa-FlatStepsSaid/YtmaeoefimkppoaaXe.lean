/- What 'with' of the chapter's memory tells. -/
import Derived.Test.YtmaeoefimkppoaaMc
import Derived.Laws.OwnMore
namespace Go.Proofs.Ytmaeoefimkppoaa.Fl
set_option maxRecDepth 1000000
open Go.ChangeShapes Go.WideShapes Go.ChangeAt Go.RowKit
open Go.Proofs.Ytmaeoefimkppoaa.Wd

/-- A memory with another object at one place. -/
def With10 (N : Nat → Prop) (L : List RO) (j : Nat) (p : RO) (w : World) (e : Ending) (w' : World) : Prop :=
  ∃ a' c', e = .returned (.agg #[.slice a' L.length c']) ∧ RmV (fun g => N g ∨ w.heap.size ≤ g) w' (.slice a' L.length c') (L.set j p) ∧ Below w.heap.size w w'
theorem mk_with (w : World) (v x y z u : Value) :
    B1 w.heap.size v (((w.alloc (.cells #[v] 29)).alloc (.cells #[x, y, z, u] 33)).alloc (.cells #[.slice none 0 0] 29)) ∧
    Box (w.heap.size + 1) x y z u (((w.alloc (.cells #[v] 29)).alloc (.cells #[x, y, z, u] 33)).alloc (.cells #[.slice none 0 0] 29)) ∧
    B1 (w.heap.size + 1 + 1) (.slice none 0 0) (((w.alloc (.cells #[v] 29)).alloc (.cells #[x, y, z, u] 33)).alloc (.cells #[.slice none 0 0] 29)) ∧
    Below w.heap.size w (((w.alloc (.cells #[v] 29)).alloc (.cells #[x, y, z, u] 33)).alloc (.cells #[.slice none 0 0] 29)) ∧
    (((w.alloc (.cells #[v] 29)).alloc (.cells #[x, y, z, u] 33)).alloc (.cells #[.slice none 0 0] 29)).heap.size = w.heap.size + 3 := by
  have s1 : (w.alloc (.cells #[v] 29)).heap.size = w.heap.size + 1 := by simp
  have s2 : ((w.alloc (.cells #[v] 29)).alloc (.cells #[x, y, z, u] 33)).heap.size = w.heap.size + 1 + 1 := by simp
  have x1 := box_new (w.alloc (.cells #[v] 29)) x y z u
  rw [s1] at x1
  have x2 := b1_new ((w.alloc (.cells #[v] 29)).alloc (.cells #[x, y, z, u] 33)) (.slice none 0 0) 29
  rw [s2] at x2
  exact ⟨((b1_new w v 29).next (below_new _ _)).next (below_new _ _), x1.next (below_new _ _), x2, ((below_new _ _).alloc (by simp) _).alloc (by simp; omega) _, by simp⟩
set_option maxHeartbeats 2000000 in
theorem with10_any {N : Nat → Prop} {w : World} {v : Value} {L : List RO} (h : RmV N w v L) (hl : L.length ≤ 1000000) (j : Nat) (hj : j < L.length) (p : RO) (hp : RIn N w p) :
    Calls Try.prog 44 #[.agg #[v], .int .i64 ((j + 1 : Nat) : Int), roV p] w (With10 N L j p w) := by
  have HV := Lib.hid h
  have HP := Lib.hid hp
  have HL := Lib.hid hl
  obtain ⟨a, cc, rfl⟩ := h.form
  obtain ⟨a1, c1, a2, c2, e1, e2⟩ := hp.form
  obtain ⟨o, zv, uv⟩ := p
  simp only at e1 e2
  obtain ⟨n1, hn1⟩ : ∃ n, o.w.length = n := ⟨_, rfl⟩
  obtain ⟨n2, hn2⟩ : ∃ n, o.b.length = n := ⟨_, rfl⟩
  rw [hn1] at e1
  rw [hn2] at e2
  subst e1 e2
  clear h hp hn1 hn2
  obtain ⟨x0, x1, x2, x3, x4⟩ := mk_with w (.slice a L.length cc) (.int .i64 o.c) (.int .i64 o.k) (.slice a1 n1 c1) (.slice a2 n2 c2)
  have X0 := Lib.hid x0
  have X1 := Lib.hid x1
  have X2 := Lib.hid x2
  have X3 := Lib.hid x3
  have X4 := Lib.hid x4
  obtain ⟨y0, _, _⟩ := x0
  obtain ⟨z, hz⟩ : ∃ z : Int, ((j + 1 : Nat) : Int) = z := ⟨_, rfl⟩
  rw [hz]
  have hzw : IntKind.i64.wrap (z - 1) = (j : Int) := by rw [IntKind.wrap_i64]; omega
  have hjl : (j : Int) < L.length := by omega
  have hj0 : (0 : Int) ≤ j := by omega
  have HJ := Lib.hid hj
  clear hz x1 x2 x3 x4
  show Calls Try.prog 44 #[.agg #[.slice a L.length cc], .int .i64 z, .agg #[.int .i64 o.c, .int .i64 o.k, .slice a1 n1 c1, .slice a2 n2 c2]] w _
  go_enter Try.func44, Try.ntmps44
  go_upto_region 2 with fail
  generalize ((w.alloc (.cells #[.slice a L.length cc] 29)).alloc (.cells #[.int .i64 o.c, .int .i64 o.k, .slice a1 n1 c1, .slice a2 n2 c2] 33)).alloc (.cells #[.slice none 0 0] 29) = w3 at *
  have VC : RmV (fun g => N g ∧ g < w.heap.size) w3 (.slice a L.length cc) L := (HV.out.kind (M := fun g => N g ∧ g < w.heap.size) (fun g hg hN => ⟨hN, hg⟩)).fresh X3.out
  have PC : RIn (fun g => N g ∧ g < w.heap.size) w3 (o, .slice a1 n1 c1, .slice a2 n2 c2) := (HP.out.kind (M := fun g => N g ∧ g < w.heap.size) (fun g hg hN => ⟨hN, hg⟩)).fresh X3.out
  obtain ⟨v4, w4, happ, rn4, hg4, hat4⟩ := append_rows (N := fun g => N g ∧ g < w.heap.size) (M := fun g => N g ∧ g < w.heap.size) (B := w3.heap.size) w3 (.slice none 0 0) _ [] L (rnk_nil _ _ _) (fun k _ e => by cases e) VC (fun k hk => ⟨fun e => (by cases e), hk⟩) (by have := HL.out; simp; omega) (Nat.le_refl _) 27
  rw [List.nil_append] at rn4
  have b4 : Below w3.heap.size w3 w4 := grown_below hg4 (fun g hg => by cases hg) (Nat.le_refl _)
  have HAPP := Lib.hid happ
  have hown := rn4.own
  rcases hown.2 with ⟨_, h0⟩ | ⟨g, cap, cur, rfl, hgB, _⟩
  · omega
  have hg4l := (rn4.own.lt g rfl).2
  have cl : ∀ q u, q < 4 → (cells4 L[j])[q]? = some u → w4.cell? ⟨g, j * 4 + q, none⟩ = some u := fun q u hq hu => by
    rw [hown.cellAt (j * 4 + q) (by omega), flat4_at L j L[j] (List.getElem?_eq_getElem hj) q hq]
    exact hu
  have k0 := cl 0 _ (by omega) rfl
  have k1 := cl 1 _ (by omega) rfl
  have k2 := cl 2 _ (by omega) rfl
  have k3 := cl 3 _ (by omega) rfl
  rw [Nat.add_zero] at k0
  have f0 := hown.frozenAt (j * 4)
  have f1 := hown.frozenAt (j * 4 + 1)
  have f2 := hown.frozenAt (j * 4 + 2)
  have f3 := hown.frozenAt (j * 4 + 3)
  have RP := Lib.hid (rn4.put (j := j) (fun b hb e => by have := hb.2; have := X4.out; omega) hj (o, .slice a1 n1 c1, .slice a2 n2 c2) (PC.fresh b4)).rm
  have on : Only (· = g) w4 (put4W w4 g (j * 4) (o, .slice a1 n1 c1, .slice a2 n2 c2)) := put4_only (Only.refl _ _) rfl
  unfold put4W at RP on
  simp only at RP on
  have hs3 := X4.out
  have hs4 := b4.size
  have B6 : Hid (Below w.heap.size w ((((w4.setCell ⟨g, j * 4, none⟩ (.int .i64 o.c)).setCell ⟨g, j * 4 + 1, none⟩ (.int .i64 o.k)).setCell ⟨g, j * 4 + 2, none⟩ (.slice a1 n1 c1)).setCell ⟨g, j * 4 + 3, none⟩ (.slice a2 n2 c2))) := Lib.hid (X3.out.trans ((b4.trans (on.below (B := w3.heap.size) (fun i hi e => by omega) hs4)).mono (by omega)))
  have Z2 := Lib.hid ((X2.out.next b4).only on (by omega))
  obtain ⟨⟨q0, q1, q2, q3⟩, _, _⟩ := X1.out.next b4
  obtain ⟨t0, t1, t2⟩ := X2.out.next b4
  have hgne : ¬ g = w.heap.size + 1 + 1 := by omega
  have hgne2 : ¬ w.heap.size + 1 + 1 = g := by omega
  have HG : Hid (w3.heap.size ≤ g) := Lib.hid hgB
  clear VC PC happ rn4 hg4 hat4 b4 hown cl on
  go_wp2_with (at_builtin; refine wpList_append_eq _ rfl _ _ 27 rfl _ _ _ _ rfl rfl HAPP.out ?_)
  go_wp2_with fail
  have R7 := RP.out.only ((Only.refl (· = w.heap.size + 1 + 1) _).setCell ⟨w.heap.size + 1 + 1, 0, none⟩ rfl (.slice (some ⟨g, 0, none⟩) L.length cap)) (fun b hb e => by
    rcases hb with hb | hb
    · have := hb.2; omega
    · omega)
  refine bodyPost_ret (res_m1 rfl rfl (Z2.out.put _)) rfl ⟨_, _, rfl, R7.mono fun b hb => ?_, B6.out.setCell (p := ⟨w.heap.size + 1 + 1, 0, none⟩) (by show w.heap.size ≤ w.heap.size + 1 + 1; omega) _⟩
  rcases hb with hb | hb
  · exact .inl hb.1
  · exact .inr (by omega)
end Go.Proofs.Ytmaeoefimkppoaa.Fl
