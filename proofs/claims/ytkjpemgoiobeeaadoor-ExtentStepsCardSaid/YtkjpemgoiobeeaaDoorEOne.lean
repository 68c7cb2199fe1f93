/- Free, called on one extent: what it does; and small facts on rows that the walks of the laws share. -/
import Derived.Test.YtkjpemgoiobeeaaDoorESet
namespace Go.Proofs.YtkjpemgoiobeeaaDoor
set_option maxRecDepth 1000000
open Go.ChangeShapes Go.WideShapes Go.ChangeAt Go.RowKit

theorem free_one_yes (s : Sp) (n u : Nat) (R : List Row) (x : Ext) (w : World) (h : SpaceAt w s n u R) (hx : x.wf) (hX : isX R x = true) :
    Calls Tryd.prog 18 #[.pointer (some ⟨s.sp, 0, none⟩), .slice (some ⟨w.heap.size, 0, none⟩) 1 1] (w.alloc (.cells #[.int .i64 x.f, .int .i64 x.n, .int .i64 x.s] 32)) (FrPost s n u (without R x) 0 w) :=
  (free_all (N := fun b => b = w.heap.size) s n u R _ [x] _ (h.fresh ((Below.refl _ _).alloc (Nat.le_refl _) _)) (one_ext w x rfl) (fun b hb hf => by have := hf.2; have := h.lt; omega) (fun y hy => by rw [List.mem_singleton.1 hy]; exact hx) (by simp) (ok_one hX)).mono
    fun e w' ⟨he, hs, ho⟩ => ⟨he, hs, (Only.of_below ((Below.refl _ _).alloc (Nat.le_refl _) _) : Only s.F w _).then_ ho (fun _ _ h => h)⟩
theorem free_one_no (s : Sp) (n u : Nat) (R : List Row) (x : Ext) (w : World) (h : SpaceAt w s n u R) (hx : x.wf) (hX : isX R x = false) :
    Calls Tryd.prog 18 #[.pointer (some ⟨s.sp, 0, none⟩), .slice (some ⟨w.heap.size, 0, none⟩) 1 1] (w.alloc (.cells #[.int .i64 x.f, .int .i64 x.n, .int .i64 x.s] 32)) (FrPost s n u R 4 w) :=
  (free_bad (N := fun b => b = w.heap.size) s n u R _ [x] _ (h.fresh ((Below.refl _ _).alloc (Nat.le_refl _) _)) (one_ext w x rfl) (fun y hy => by rw [List.mem_singleton.1 hy]; exact hx) (by simp) (bad_one hX)).mono
    fun e w' ⟨he, hs, ho⟩ => ⟨he, hs, (Only.of_below ((Below.refl _ _).alloc (Nat.le_refl _) _) : Only s.F w _).then_ ho (fun _ _ h => h)⟩
theorem ext_wf {n : Nat} {R : List Row} (h : Good n R) (hn : n ≤ 20000) {r : Row} (hr : r ∈ R) : (ext r).wf := by
  have h1 := h.room r hr
  have h2 := secs_le r.2.length
  have h3 : secs r.2.length = len r := rfl
  exact ⟨wf_of (by show (_ : Int) ≤ (r.1 : Int); omega) (by show (r.1 : Int) ≤ _; omega), wf_of (by show (_ : Int) ≤ (len r : Int); omega) (by show (len r : Int) ≤ _; omega), wf_of (by show (_ : Int) ≤ (r.2.length : Int); omega) (by show (r.2.length : Int) ≤ _; omega)⟩

theorem one_row (r : Row) (i : Nat) : tk [r] i = inR r.1 (len r) i := by simp [tk]
theorem fa1 (n q : Nat) (h : q ≤ n) : FirstIs (tk []) n q 0 true := .inl ⟨rfl, by omega, fun _ _ => rfl, fun b hb => by omega⟩
theorem fa2 (n qb : Nat) (a : List Int) (h1 : 1 ≤ qb) (h : secs a.length + qb ≤ n) : FirstIs (tk ([] ++ [(0, a)])) n qb (secs a.length) true := by
  have hl : len (0, a) = secs a.length := rfl
  refine .inl ⟨rfl, by omega, fun k hk => ?_, fun b hb => ⟨0, by omega, ?_⟩⟩
  · show tk [(0, a)] _ = _
    rw [one_row, ← Bool.not_eq_true, inR_iff, hl]; dsimp only; omega
  · show tk [(0, a)] _ = _
    rw [one_row, inR_iff, hl]; dsimp only; omega
end Go.Proofs.YtkjpemgoiobeeaaDoor
