/- A table of a law's own: what was there ahead of the law stays; the law's own function known. -/
import Derived.Test.YthooeehobhegbaaNFr
namespace Go.Proofs.Ythooeehobhegbaa
set_option maxRecDepth 1000000
open Go.ChangeShapes Go.WideShapes Go.ChangeAt Go.RowKit

/-- A table made behind W0. -/
structure TabB (W0 w : World) (c : Tb) (n : Nat) (I : Nat → Int) : Prop where
  is : TabAt w c n I
  fr : ∀ k, TF c k → W0.heap.size ≤ k
  bl : Below W0.heap.size W0 w
section
variable {W0 w w' : World} {c : Tb} {n : Nat} {I I' : Nat → Int} {e : Ending} {u : Value}
theorem TabB.fresh (h : TabB W0 w c n I) (b : Below w.heap.size w w') : TabB W0 w' c n I := ⟨h.is.fresh b, h.fr, h.bl.trans (b.mono h.bl.size)⟩
theorem TabB.drewN (h : TabB W0 w c n I) (q : Nat) : TabB W0 (w.drewN q) c n I := h.fresh (below_drewN (Below.refl _ _) q)
theorem TabB.post (h : TabB W0 w c n I) (p : TabPost u c n I' w e w') : e = .returned u ∧ TabB W0 w' c n I' ∧ Only (TF c) w w' := by
  obtain ⟨rfl, h', o⟩ := p
  exact ⟨rfl, ⟨h', h.fr, h.bl.trans (o.below (B := W0.heap.size) (fun i hi hF => by have := h.fr i hF; omega) h.bl.size)⟩, o⟩
theorem tabB_new (p : NewPost n w e w') : ∃ c : Tb, e = .returned (.tuple #[.pointer (some ⟨c.t, 0, none⟩), .int .i64 0]) ∧ TabB w w' c n (fun _ => 0) := by
  obtain ⟨c, rfl, hx, h, b⟩ := p
  exact ⟨c, rfl, h, hx, b⟩
end
theorem one_ints (w : World) (i : Int) : Ints (· = w.heap.size) (w.alloc (.cells #[.int .i64 i] 3)) (.slice (some ⟨w.heap.size, 0, none⟩) 1 1) [i] := by
  refine ⟨_, 1, rfl, by simp, .inr ⟨w.heap.size, 0, rfl, rfl, fun j u hu => ?_⟩⟩
  match j, hu with
  | 0, hu => simp at hu; subst hu; rw [World.cell?_alloc_at _ _ _ _ rfl]; rfl
  | j + 1, hu => simp at hu
/-- Free of one slot, from a slice of one's own. -/
theorem free_one {w : World} {c : Tb} {n : Nat} {I I' : Nat → Int} (x t : Int) (h : TabAt w c n I) (hf : FreeIs n I [x] t I') :
    Calls Try.prog 12 #[.pointer (some ⟨c.t, 0, none⟩), .slice (some ⟨w.heap.size, 0, none⟩) 1 1] (w.alloc (.cells #[.int .i64 x] 3)) (TabPost (.int .i64 t) c n I' (w.alloc (.cells #[.int .i64 x] 3))) :=
  free_at _ [x] t I' (h.fresh ((Below.refl _ _).alloc (Nat.le_refl _) _)) (one_ints w x) (fun b hb hT => by have := h.lt b hT; omega) (by simp) hf
theorem free_one_is {n : Nat} {I : Nat → Int} {i : Nat} (hi : i < n) (h : I i ≠ 0) : FreeIs n I [(i : Int) + 1] 0 (upd I i 0) := by
  refine .inl ⟨fun x hx => ?_, by simp, rfl, ?_⟩
  · rw [List.mem_singleton] at hx
    rw [hx, idOf_at hi]; exact h
  · have := clr_snoc I [] i
    rw [clr_nil] at this
    exact this

/-! The example. -/
def k0 : Nat → Int := fun _ => 0
def k1 : Nat → Int := fun i => if i = 0 then 70 else 0
def k2 : Nat → Int := fun i => if i = 0 then 70 else if i = 1 then 80 else 0
def k3 : Nat → Int := fun i => if i = 1 then 80 else 0
def k4 : Nat → Int := fun i => if i = 0 then 90 else if i = 1 then 80 else 0
theorem kU1 : upd k0 0 70 = k1 := rfl
theorem kU2 : upd k1 1 80 = k2 := by funext i; unfold upd k1 k2; by_cases h0 : i = 0 <;> by_cases h1 : i = 1 <;> simp_all
theorem kU3 : upd k2 0 0 = k3 := by funext i; unfold upd k2 k3; by_cases h0 : i = 0 <;> by_cases h1 : i = 1 <;> simp_all
theorem kU4 : upd k3 0 90 = k4 := by funext i; unfold upd k3 k4; by_cases h0 : i = 0 <;> by_cases h1 : i = 1 <;> simp_all
theorem two_all {P : Nat → Prop} (h0 : P 0) (h1 : P 1) : ∀ i, i < 2 → P i := fun i hi => by
  match i, hi with
  | 0, _ => exact h0
  | 1, _ => exact h1
theorem kB1 : BindIs 2 k0 70 1 0 k1 := .inr (.inr (.inr ⟨by omega, .inr ⟨rfl, two_all (by decide) (by decide)⟩, ⟨by omega, by omega, by decide, fun j hj => by omega⟩, rfl, kU1.symm⟩))
theorem kB2 : BindIs 2 k1 80 2 0 k2 := .inr (.inr (.inr ⟨by omega, .inr ⟨rfl, two_all (by decide) (by decide)⟩, ⟨by omega, by omega, by decide, fun j hj => by
  obtain rfl : j = 0 := by omega
  decide⟩, rfl, kU2.symm⟩))
theorem kB3 : BindIs 2 k2 70 1 0 k2 := .inr (.inl ⟨by omega, by omega, .inl ⟨by omega, by omega, by omega, by decide⟩, rfl, rfl⟩)
theorem kB4 : BindIs 2 k2 90 0 3 k2 := .inr (.inr (.inl ⟨by omega, .inr ⟨rfl, two_all (by decide) (by decide)⟩, two_all (by decide) (by decide), rfl, rfl, rfl⟩))
theorem kF5 : FreeIs 2 k2 [1] 0 k3 := by
  have := free_one_is (n := 2) (I := k2) (i := 0) (by omega) (by decide)
  rw [kU3] at this
  exact this
theorem kB6 : BindIs 2 k3 90 1 0 k4 := .inr (.inr (.inr ⟨by omega, .inr ⟨rfl, two_all (by decide) (by decide)⟩, ⟨by omega, by omega, by decide, fun j hj => by omega⟩, rfl, kU4.symm⟩))
set_option maxHeartbeats 4000000 in
theorem known_any (w : World) : Calls Try.prog 8 #[] w fun e w' => e = .returned (.bool true) ∧ Below w.heap.size w w' := by
  have HN : Hid (Calls Try.prog 9 #[.int .i64 2] w (NewPost 2 w)) := Lib.hid (new_yes 2 w (by omega))
  have HB : Hid (∀ (c : Tb) (w1 : World) (I I' : Nat → Int) (id : Int) (s : Nat) (t : Int), id ≤ 1000 → BindIs 2 I id s t I' → TabB w w1 c 2 I → Calls Try.prog 10 #[.pointer (some ⟨c.t, 0, none⟩), .int .i64 id] w1 (TabPost (.tuple #[.int .i64 s, .int .i64 t]) c 2 I' w1)) :=
    Lib.hid (fun c w1 I I' id s t hid hb h => bind_at id s t I' h.is (by omega) hb)
  have HF : Hid (∀ (c : Tb) (w1 : World), TabB w w1 c 2 k2 → Calls Try.prog 12 #[.pointer (some ⟨c.t, 0, none⟩), .slice (some ⟨w1.heap.size, 0, none⟩) 1 1] (w1.alloc (.cells #[.int .i64 1] 3)) (TabPost (.int .i64 0) c 2 k3 (w1.alloc (.cells #[.int .i64 1] 3)))) :=
    Lib.hid (fun c w1 h => free_one 1 0 h.is kF5)
  have HFN : Hid (∀ v w1, Calls Try.prog 12 #[.pointer none, v] w1 (Told (.int .i64 1) w1)) := Lib.hid (fun v w1 => free_nil v w1)
  go_enter Try.func8, Try.ntmps8
  go_wp2_with fail
  refine HN.out.mono ?_
  rintro e w1 p
  obtain ⟨c, rfl, h1⟩ := tabB_new p
  have H1 : Hid (TabB w w1 c 2 k0) := h1
  clear p h1
  go_wp2_with fail
  refine (HB.out c w1 _ _ 70 1 0 (by omega) kB1 H1.out).mono ?_
  rintro e w2 p
  obtain ⟨rfl, h2, _⟩ := H1.out.post p
  have H2 := Lib.hid h2
  clear p h2
  go_wp2_with fail
  refine (HB.out c w2 _ _ 80 2 0 (by omega) kB2 H2.out).mono ?_
  rintro e w3 p
  obtain ⟨rfl, h3, _⟩ := H2.out.post p
  have H3 := Lib.hid h3
  clear p h3
  go_wp2_with fail
  refine (HB.out c w3 _ _ 70 1 0 (by omega) kB3 H3.out).mono ?_
  rintro e w4 p
  obtain ⟨rfl, h4, _⟩ := H3.out.post p
  have H4 := Lib.hid h4
  clear p h4
  go_wp2_with fail
  refine (HB.out c w4 _ _ 90 0 3 (by omega) kB4 H4.out).mono ?_
  rintro e w5 p
  obtain ⟨rfl, h5, _⟩ := H4.out.post p
  have H5 := Lib.hid h5
  clear p h5
  go_wp2_with fail
  refine (HF.out c w5 H5.out).mono ?_
  rintro e w6 p
  obtain ⟨rfl, h6, _⟩ := (H5.out.fresh ((Below.refl _ _).alloc (Nat.le_refl _) _)).post p
  have H6 := Lib.hid h6
  clear p h6
  go_wp2_with fail
  refine (HB.out c w6 _ _ 90 1 0 (by omega) kB6 H6.out).mono ?_
  rintro e w7 p
  obtain ⟨rfl, h7, _⟩ := H6.out.post p
  have H7 := Lib.hid h7
  clear p h7
  go_wp2_with fail
  refine (HFN.out _ _).mono ?_
  rintro e w8 ⟨rfl, rfl⟩
  have H8 := Lib.hid (H7.out.fresh (w' := w7.alloc (.cells #[.int .i64 1] 3)) ((Below.refl _ _).alloc (Nat.le_refl _) _))
  go_wp2_with fail
  go_ret
  exact ⟨rfl, H8.out.bl⟩
end Go.Proofs.Ythooeehobhegbaa
