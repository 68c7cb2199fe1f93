/- The package's guess: what it answers. -/
import Derived.Test.YtmcikjihkgplaaaDoorPi
import Derived.Deep.RegionWith
namespace Go.Proofs.YtmcikjihkgplaaaDoor
set_option maxRecDepth 1000000
open Go.ChangeShapes Go.WideShapes Go.ChangeAt Go.RowKit

/-- Three bytes in a block of their own. -/
def Tri (p : Nat) (x y z : Value) (w : World) : Prop := (w.cell? ⟨p, 0, none⟩ = some x ∧ w.cell? ⟨p, 1, none⟩ = some y ∧ w.cell? ⟨p, 2, none⟩ = some z) ∧ (∀ j, w.frozen? ⟨p, j, none⟩ = false) ∧ p < w.heap.size
theorem tri_new (w : World) (x y z : Value) : Tri w.heap.size x y z (w.alloc (.cells #[x, y, z] 59)) := by
  refine ⟨⟨?_, ?_, ?_⟩, fun j => ?_, by simp⟩
  · rw [World.cell?_alloc_at _ _ _ _ rfl]; rfl
  · rw [World.cell?_alloc_at _ _ _ _ rfl]; rfl
  · rw [World.cell?_alloc_at _ _ _ _ rfl]; rfl
  · unfold World.frozen?
    rw [heap_alloc_new]
    simp
theorem Tri.kept {p : Nat} {x y z : Value} {w w' : World} {B : Nat} (h : Tri p x y z w) (hb : Below B w w') (hp : p < B) : Tri p x y z w' :=
  ⟨⟨(hb.cell (p := ⟨p, 0, none⟩) hp).trans h.1.1, (hb.cell (p := ⟨p, 1, none⟩) hp).trans h.1.2.1, (hb.cell (p := ⟨p, 2, none⟩) hp).trans h.1.2.2⟩, fun j => (World.frozen?_of_block (w := w) (a := ⟨p, j, none⟩) (hb.block p hp)).trans (h.2.1 j), Nat.lt_of_lt_of_le h.2.2 hb.size⟩
theorem Tri.next {p : Nat} {x y z : Value} {w w' : World} (h : Tri p x y z w) (hb : Below w.heap.size w w') : Tri p x y z w' := h.kept hb h.2.2
theorem Tri.put {w : World} {p : Nat} {x y z : Value} (h : Tri p x y z w) (x' y' z' : Value) :
    Tri p x' y' z' (((w.setCell ⟨p, 0, none⟩ x').setCell ⟨p, 1, none⟩ y').setCell ⟨p, 2, none⟩ z') := by
  obtain ⟨⟨h1, h2, h3⟩, h5, h6⟩ := h
  refine ⟨⟨?_, ?_, ?_⟩, fun j => ?_, by simpa [World.setCell] using h6⟩
  · rw [World.cell?_setCell_other _ _ _ _ (by simp), World.cell?_setCell_other _ _ _ _ (by simp), World.cell?_setCell_same _ _ _ h1]
  · rw [World.cell?_setCell_other _ _ _ _ (by simp), World.cell?_setCell_same _ _ _ ((World.cell?_setCell_other _ _ _ _ (by simp)).trans h2)]
  · rw [World.cell?_setCell_same _ _ _ ((World.cell?_setCell_other _ _ _ _ (by simp)).trans ((World.cell?_setCell_other _ _ _ _ (by simp)).trans h3))]
  · rw [World.frozen?_setCell, World.frozen?_setCell, World.frozen?_setCell]; exact h5 j
theorem load_tri {w : World} {p : Nat} {x y z : Int} (hb : Tri p (.int .u8 x) (.int .u8 y) (.int .u8 z) w) : (loadVar 59 ⟨p, 0, none⟩).run Tryd.prog w = .ok (.agg #[.int .u8 x, .int .u8 y, .int .u8 z]) w := by
  obtain ⟨⟨h1, h2, h3⟩, _, _⟩ := hb
  go_simp
theorem res_tri {fn : Func} {p : Tmp} (h : fn.results = #[.cell p 59]) {tmps : Array Value} {w : World} {b : Nat} {x y z : Int} (hp : tmps.getD p undef = .pointer (some ⟨b, 0, none⟩)) (hb : Tri b (.int .u8 x) (.int .u8 y) (.int .u8 z) w) :
    (results fn tmps).run Tryd.prog w = .ok (.agg #[.int .u8 x, .int .u8 y, .int .u8 z]) w := by
  simp only [results, h]
  rw [Array.getD_eq_getD_getElem?] at hp
  simp [hp, asAddr, load_tri hb]
theorem put_tri {B : Nat} {w w' : World} {x y z : Value} (h : Below B w w') {p : Nat} (hp : B ≤ p) : Below B w (((w'.setCell ⟨p, 0, none⟩ x).setCell ⟨p, 1, none⟩ y).setCell ⟨p, 2, none⟩ z) := ((h.setCell hp _).setCell hp _).setCell hp _
def GuessR (a b c : Int) (w : World) (e : Ending) (w' : World) : Prop := e = .returned (.agg #[.int .u8 a, .int .u8 b, .int .u8 c]) ∧ Below w.heap.size w w'
theorem box_new6 (w : World) (x y z u : Value) : Box w.heap.size x y z u (w.alloc (.cells #[x, y, z, u] 66)) := by
  refine ⟨⟨?_, ?_, ?_, ?_⟩, fun j => ?_, by simp⟩
  · rw [World.cell?_alloc_at _ _ _ _ rfl]; rfl
  · rw [World.cell?_alloc_at _ _ _ _ rfl]; rfl
  · rw [World.cell?_alloc_at _ _ _ _ rfl]; rfl
  · rw [World.cell?_alloc_at _ _ _ _ rfl]; rfl
  · unfold World.frozen?
    rw [heap_alloc_new]
    simp
theorem Box.tri {p q : Nat} {x y z u a b c : Value} {w : World} (h : Box p x y z u w) (hne : p ≠ q) : Box p x y z u (((w.setCell ⟨q, 0, none⟩ a).setCell ⟨q, 1, none⟩ b).setCell ⟨q, 2, none⟩ c) := ((h.other hne 0 a).other hne 1 b).other hne 2 c
set_option maxHeartbeats 4000000 in
theorem guess_two (o : OpT) (w : World) (hT : Tabs w) (h0 : 0 < o.k) (h1 : o.k < 27) :
    Calls Tryd.prog 33 #[.agg #[.int .i64 o.k, .int .i64 o.n, .int .i64 o.m, .int .i64 o.l], .int .i64 2] w (GuessR (G2 o.k o.n o.m) (G2' o.k o.n o.m) 0 w) := by
  obtain ⟨kk, n, m, l⟩ := o
  simp only at h0 h1 ⊢
  obtain ⟨k, rfl⟩ := Int.eq_ofNat_of_zero_le (show 0 ≤ kk by omega)
  have hk27 : k < 27 := by omega
  have hk0 : (0 : Int) ≤ k := by omega
  unfold GuessR
  have K0 := Lib.hid (two_new w (.cells #[.int .i64 k, .int .i64 n, .int .i64 m, .int .i64 l] 25) (.cells #[.int .u8 0, .int .u8 0, .int .u8 0] 59))
  have B0 := Lib.hid ((box_new w (.int .i64 k) (.int .i64 n) (.int .i64 m) (.int .i64 l)).next (below_new _ (.cells #[.int .u8 0, .int .u8 0, .int .u8 0] 59)))
  have R0 := Lib.hid (tri_new (w.alloc (.cells #[.int .i64 k, .int .i64 n, .int .i64 m, .int .i64 l] 25)) (.int .u8 0) (.int .u8 0) (.int .u8 0))
  rw [show (w.alloc (.cells #[.int .i64 k, .int .i64 n, .int .i64 m, .int .i64 l] 25)).heap.size = w.heap.size + 1 by simp] at R0
  have HT := Lib.hid ((hT.next K0.out).he k hk27)
  have HTT := Lib.hid hT
  clear hT
  obtain ⟨q0, q1, q2, q3⟩ := HT.out
  go_enter Tryd.func33, Tryd.ntmps33
  go_upto_region 1 with fail
  generalize (w.alloc (.cells #[.int .i64 k, .int .i64 n, .int .i64 m, .int .i64 l] 25)).alloc (.cells #[.int .u8 0, .int .u8 0, .int .u8 0] 59) = w1 at *
  obtain ⟨⟨p0, p1, p2, p3⟩, pf, plt⟩ := B0.out
  obtain ⟨⟨ha, hb, hc, hd⟩, hh⟩ : ∃ x, headAt k = x := ⟨_, rfl⟩
  have HH := Lib.hid hh
  rw [hh] at q0 q1 q2 q3
  simp only at q0 q1 q2 q3
  clear hh HT
  go_upto_region 2 with fail
  have B5 := Lib.hid (box_new6 w1 (.int .i64 ha) (.int .i64 hb) (.int .i64 hc) (.int .i64 hd))
  have B2 := Lib.hid (B0.out.next (below_new w1 (.cells #[.int .i64 ha, .int .i64 hb, .int .i64 hc, .int .i64 hd] 66)))
  have R2 := Lib.hid (R0.out.next (below_new w1 (.cells #[.int .i64 ha, .int .i64 hb, .int .i64 hc, .int .i64 hd] 66)))
  have K2 := Lib.hid (K0.out.alloc K0.out.size (.cells #[.int .i64 ha, .int .i64 hb, .int .i64 hc, .int .i64 hd] 66))
  generalize w1.alloc (.cells #[.int .i64 ha, .int .i64 hb, .int .i64 hc, .int .i64 hd] 66) = w2 at *
  have hlt5 : w.heap.size + 1 < w1.heap.size := R0.out.2.2
  generalize w1.heap.size = g5 at *
  clear p0 p1 p2 p3 pf q0 q1 q2 q3 B0 R0 K0
  have HG : Hid (G2 k n m = IntKind.u8.wrap (IntKind.i64.wrap (hb + lowO k n m / 256)) ∧ G2' k n m = IntKind.u8.wrap (lowO k n m) ∧ lowO k n m = IntKind.i64.wrap (IntKind.i64.wrap (hc + IntKind.i64.wrap (32 * m)) + n)) := Lib.hid (by unfold G2 G2' lowO; simp only [Int.toNat_natCast, HH.out, and_self])
  obtain ⟨⟨x0, x1, x2, x3⟩, _, _⟩ := B5.out
  obtain ⟨⟨p0, p1, p2, p3⟩, _, _⟩ := B2.out
  obtain ⟨⟨r0, r1, r2⟩, rf, _⟩ := R2.out
  obtain ⟨low, hlow⟩ : ∃ x, lowO k n m = x := ⟨_, rfl⟩
  rw [hlow] at HG
  obtain ⟨x1, e1⟩ : ∃ x, IntKind.i64.wrap (32 * m) = x := ⟨_, rfl⟩
  rw [e1] at HG
  obtain ⟨x2, e2⟩ : ∃ x, IntKind.i64.wrap (hc + x1) = x := ⟨_, rfl⟩
  rw [e2] at HG
  have e3 : IntKind.i64.wrap (x2 + n) = low := HG.out.2.2.symm
  obtain ⟨x4, e4⟩ : ∃ x, low / 256 = x := ⟨_, rfl⟩
  rw [e4] at HG
  have e4' : low / 2 ^ 8 = x4 := e4
  obtain ⟨x5, e5⟩ : ∃ x, IntKind.i64.wrap (hb + x4) = x := ⟨_, rfl⟩
  rw [e5] at HG
  obtain ⟨x6, e6⟩ : ∃ x, IntKind.u8.wrap x5 = x := ⟨_, rfl⟩
  rw [e6] at HG
  obtain ⟨x7, e7⟩ : ∃ x, IntKind.u8.wrap low = x := ⟨_, rfl⟩
  rw [e7] at HG
  have HG2 := Lib.hid (And.intro HG.out.1 HG.out.2.1)
  clear hlow HG h0 h1
  go_wp2_with fail
  refine bodyPost_ret (res_tri rfl rfl (R2.out.put _ _ _)) rfl ?_
  exact ⟨by rw [HG2.out.1, HG2.out.2], put_tri K2.out (by omega)⟩
set_option maxHeartbeats 4000000 in
theorem guess_three (o : OpT) (w : World) (hT : Tabs w) (h0 : 0 < o.k) (h1 : o.k < 27) :
    Calls Tryd.prog 33 #[.agg #[.int .i64 o.k, .int .i64 o.n, .int .i64 o.m, .int .i64 o.l], .int .i64 3] w (GuessR (G3 o.k) (IntKind.u8.wrap o.m) (IntKind.u8.wrap o.n) w) := by
  obtain ⟨kk, n, m, l⟩ := o
  simp only at h0 h1 ⊢
  obtain ⟨k, rfl⟩ := Int.eq_ofNat_of_zero_le (show 0 ≤ kk by omega)
  have hk27 : k < 27 := by omega
  have hk0 : (0 : Int) ≤ k := by omega
  unfold GuessR
  have K0 := Lib.hid (two_new w (.cells #[.int .i64 k, .int .i64 n, .int .i64 m, .int .i64 l] 25) (.cells #[.int .u8 0, .int .u8 0, .int .u8 0] 59))
  have B0 := Lib.hid ((box_new w (.int .i64 k) (.int .i64 n) (.int .i64 m) (.int .i64 l)).next (below_new _ (.cells #[.int .u8 0, .int .u8 0, .int .u8 0] 59)))
  have R0 := Lib.hid (tri_new (w.alloc (.cells #[.int .i64 k, .int .i64 n, .int .i64 m, .int .i64 l] 25)) (.int .u8 0) (.int .u8 0) (.int .u8 0))
  rw [show (w.alloc (.cells #[.int .i64 k, .int .i64 n, .int .i64 m, .int .i64 l] 25)).heap.size = w.heap.size + 1 by simp] at R0
  have HT := Lib.hid ((hT.next K0.out).he k hk27)
  have HTT := Lib.hid hT
  clear hT
  obtain ⟨q0, q1, q2, q3⟩ := HT.out
  go_enter Tryd.func33, Tryd.ntmps33
  go_upto_region 1 with fail
  generalize (w.alloc (.cells #[.int .i64 k, .int .i64 n, .int .i64 m, .int .i64 l] 25)).alloc (.cells #[.int .u8 0, .int .u8 0, .int .u8 0] 59) = w1 at *
  obtain ⟨⟨p0, p1, p2, p3⟩, pf, plt⟩ := B0.out
  obtain ⟨⟨ha, hb, hc, hd⟩, hh⟩ : ∃ x, headAt k = x := ⟨_, rfl⟩
  have HH := Lib.hid hh
  rw [hh] at q0 q1 q2 q3
  simp only at q0 q1 q2 q3
  clear hh HT
  go_upto_region 2 with fail
  have B5 := Lib.hid (box_new6 w1 (.int .i64 ha) (.int .i64 hb) (.int .i64 hc) (.int .i64 hd))
  have B2 := Lib.hid (B0.out.next (below_new w1 (.cells #[.int .i64 ha, .int .i64 hb, .int .i64 hc, .int .i64 hd] 66)))
  have R2 := Lib.hid (R0.out.next (below_new w1 (.cells #[.int .i64 ha, .int .i64 hb, .int .i64 hc, .int .i64 hd] 66)))
  have K2 := Lib.hid (K0.out.alloc K0.out.size (.cells #[.int .i64 ha, .int .i64 hb, .int .i64 hc, .int .i64 hd] 66))
  generalize w1.alloc (.cells #[.int .i64 ha, .int .i64 hb, .int .i64 hc, .int .i64 hd] 66) = w2 at *
  have hlt5 : w.heap.size + 1 < w1.heap.size := R0.out.2.2
  generalize w1.heap.size = g5 at *
  clear p0 p1 p2 p3 pf q0 q1 q2 q3 B0 R0 K0
  have HG : Hid (G3 k = IntKind.u8.wrap hd) := Lib.hid (by unfold G3; simp only [Int.toNat_natCast, HH.out])
  obtain ⟨⟨x0, x1, x2, x3⟩, _, _⟩ := B5.out
  obtain ⟨⟨p0, p1, p2, p3⟩, _, _⟩ := B2.out
  obtain ⟨⟨r0, r1, r2⟩, rf, _⟩ := R2.out
  obtain ⟨x1, e1⟩ : ∃ x, IntKind.u8.wrap hd = x := ⟨_, rfl⟩
  rw [e1] at HG
  obtain ⟨x2, e2⟩ : ∃ x, IntKind.u8.wrap m = x := ⟨_, rfl⟩
  obtain ⟨x3, e3⟩ : ∃ x, IntKind.u8.wrap n = x := ⟨_, rfl⟩
  have HG2 := Lib.hid (And.intro HG.out (And.intro e2 e3))
  clear HG h0 h1
  go_wp2_with fail
  refine bodyPost_ret (res_tri rfl rfl (R2.out.put _ _ _)) rfl ?_
  exact ⟨by rw [HG2.out.1, HG2.out.2.1, HG2.out.2.2], put_tri K2.out (by omega)⟩
set_option maxHeartbeats 4000000 in
theorem guess_one (o : OpT) (w : World) (hT : Tabs w) (h0 : 0 < o.k) (h1 : o.k < 27) :
    Calls Tryd.prog 33 #[.agg #[.int .i64 o.k, .int .i64 o.n, .int .i64 o.m, .int .i64 o.l], .int .i64 1] w (GuessR (G1 o.k o.n o.m) 0 0 w) := by
  obtain ⟨kk, n, m, l⟩ := o
  simp only at h0 h1 ⊢
  obtain ⟨k, rfl⟩ := Int.eq_ofNat_of_zero_le (show 0 ≤ kk by omega)
  have hk27 : k < 27 := by omega
  have hk0 : (0 : Int) ≤ k := by omega
  unfold GuessR
  have K0 := Lib.hid (two_new w (.cells #[.int .i64 k, .int .i64 n, .int .i64 m, .int .i64 l] 25) (.cells #[.int .u8 0, .int .u8 0, .int .u8 0] 59))
  have B0 := Lib.hid ((box_new w (.int .i64 k) (.int .i64 n) (.int .i64 m) (.int .i64 l)).next (below_new _ (.cells #[.int .u8 0, .int .u8 0, .int .u8 0] 59)))
  have R0 := Lib.hid (tri_new (w.alloc (.cells #[.int .i64 k, .int .i64 n, .int .i64 m, .int .i64 l] 25)) (.int .u8 0) (.int .u8 0) (.int .u8 0))
  rw [show (w.alloc (.cells #[.int .i64 k, .int .i64 n, .int .i64 m, .int .i64 l] 25)).heap.size = w.heap.size + 1 by simp] at R0
  have HT := Lib.hid ((hT.next K0.out).he k hk27)
  have HTT := Lib.hid hT
  clear hT
  obtain ⟨q0, q1, q2, q3⟩ := HT.out
  go_enter Tryd.func33, Tryd.ntmps33
  go_upto_region 1 with fail
  generalize (w.alloc (.cells #[.int .i64 k, .int .i64 n, .int .i64 m, .int .i64 l] 25)).alloc (.cells #[.int .u8 0, .int .u8 0, .int .u8 0] 59) = w1 at *
  obtain ⟨⟨p0, p1, p2, p3⟩, pf, plt⟩ := B0.out
  obtain ⟨⟨ha, hb, hc, hd⟩, hh⟩ : ∃ x, headAt k = x := ⟨_, rfl⟩
  have HH := Lib.hid hh
  rw [hh] at q0 q1 q2 q3
  simp only at q0 q1 q2 q3
  clear hh HT
  go_upto_region 2 with fail
  have B5 := Lib.hid (box_new6 w1 (.int .i64 ha) (.int .i64 hb) (.int .i64 hc) (.int .i64 hd))
  have B2 := Lib.hid (B0.out.next (below_new w1 (.cells #[.int .i64 ha, .int .i64 hb, .int .i64 hc, .int .i64 hd] 66)))
  have R2 := Lib.hid (R0.out.next (below_new w1 (.cells #[.int .i64 ha, .int .i64 hb, .int .i64 hc, .int .i64 hd] 66)))
  have K2 := Lib.hid (K0.out.alloc K0.out.size (.cells #[.int .i64 ha, .int .i64 hb, .int .i64 hc, .int .i64 hd] 66))
  generalize w1.alloc (.cells #[.int .i64 ha, .int .i64 hb, .int .i64 hc, .int .i64 hd] 66) = w2 at *
  have hlt5 : w.heap.size + 1 < w1.heap.size := R0.out.2.2
  generalize w1.heap.size = g5 at *
  clear p0 p1 p2 p3 pf q0 q1 q2 q3 B0 R0 K0
  have HG : Hid (G1 k n m = IntKind.u8.wrap (IntKind.i64.wrap (ha + placeO k n m))) := Lib.hid (by unfold G1; simp only [Int.toNat_natCast, HH.out])
  obtain ⟨⟨x0, x1, x2, x3⟩, _, _⟩ := B5.out
  obtain ⟨⟨p0, p1, p2, p3⟩, _, _⟩ := B2.out
  obtain ⟨⟨r0, r1, r2⟩, rf, _⟩ := R2.out
  have HPl := Lib.hid (fun w' (h : Below w.heap.size w w') => place_code ⟨k, n, m, l⟩ w' (HTT.out.next h))
  simp only at HPl
  obtain ⟨pl, hpl⟩ : ∃ x, placeO k n m = x := ⟨_, rfl⟩
  rw [hpl] at HG HPl
  obtain ⟨x1, e1⟩ : ∃ x, IntKind.i64.wrap (ha + pl) = x := ⟨_, rfl⟩
  rw [e1] at HG
  obtain ⟨x2, e2⟩ : ∃ x, IntKind.u8.wrap x1 = x := ⟨_, rfl⟩
  rw [e2] at HG
  clear h0 h1 hpl
  have HKS : Hid (∀ w', Below w2.drew.heap.size w2.drew w' → w'.cell? ⟨g5, 0, none⟩ = some (.int .i64 ha) ∧ w'.cell? ⟨w.heap.size, 0, none⟩ = some (.int .i64 k) ∧ w'.cell? ⟨w.heap.size, 1, none⟩ = some (.int .i64 n) ∧ w'.cell? ⟨w.heap.size, 2, none⟩ = some (.int .i64 m) ∧ w'.cell? ⟨w.heap.size, 3, none⟩ = some (.int .i64 l)) := Lib.hid fun w' h' => by
    have h : Below w2.heap.size w2 w' := (below_drewN w2.heap.size w2 1).trans h'
    exact ⟨(B5.out.next h).1.1, (B2.out.next h).1.1, (B2.out.next h).1.2.1, (B2.out.next h).1.2.2.1, (B2.out.next h).1.2.2.2⟩
  have HRF : Hid (∀ w', Below w2.heap.size w2 w' → Tri (w.heap.size + 1) (.int .u8 0) (.int .u8 0) (.int .u8 0) w' ∧ Below w.heap.size w w') := Lib.hid fun w' h => ⟨R2.out.next h, K2.out.trans (h.mono K2.out.size)⟩
  have hne5 : ¬ g5 = w.heap.size + 1 := by omega
  have hne6 : ¬ w.heap.size + 1 = g5 := by omega
  go_upto_region 4 with fail
  go_region_held3 (fun w' => w'.cell? ⟨g5, 0, none⟩ = some (.int .i64 ha) ∧ w'.cell? ⟨w.heap.size, 0, none⟩ = some (.int .i64 k) ∧ w'.cell? ⟨w.heap.size, 1, none⟩ = some (.int .i64 n) ∧ w'.cell? ⟨w.heap.size, 2, none⟩ = some (.int .i64 m) ∧ w'.cell? ⟨w.heap.size, 3, none⟩ = some (.int .i64 l)) (first | (exact HKS.out _ hb5) | go_keep) (first | (go_at_call 35; refine (HPl.out _ (K2.out.trans (below_drewN _ _ 1))).mono ?_; rintro e w5 ⟨rfl, hb5⟩; have hb6 : Below w2.heap.size w2 w5 := (below_drewN w2.heap.size w2 1).trans hb5; have R5 := Lib.hid (HRF.out w5 hb6); obtain ⟨⟨y0, y1, y2⟩, yf, _⟩ := R5.out.1))
  clear y0 y1 y2 yf
  go_wp2_with fail
  refine bodyPost_ret (res_tri rfl rfl (R5.out.1.put _ _ _)) rfl ?_
  exact ⟨by rw [HG.out], put_tri R5.out.2 (by omega)⟩
end Go.Proofs.YtmcikjihkgplaaaDoor
