/- Extents as values, and the set of live extents that a space keeps in a map: what a look-up, a store and a deletion do. No condition but those that each statement names. -/
import Derived.Test.YtkjpemgoiobeeaaDoorBFirst
import Derived.Test.YtkjpemgoiobeeaaDoorDMem
import Derived.Maps.OwnSet
import Derived.DeepKeys5
import Derived.StillTailTactics
import Derived.Deep.RegionHeld3
namespace Go.Proofs.YtkjpemgoiobeeaaDoor
set_option maxRecDepth 1000000
open Go.ChangeShapes Go.WideShapes Go.ChangeAt Go.RowKit

/-- An extent: its first sector, how many it has, how many bytes it holds. -/
structure Ext where
  f : Int
  n : Int
  s : Int
deriving DecidableEq

/-- Its value. -/
def xv (x : Ext) : Value := .agg #[.int .i64 x.f, .int .i64 x.n, .int .i64 x.s]
def Ext.wf (x : Ext) : Prop := (Lit.int .i64 x.f).wf = true ∧ (Lit.int .i64 x.n).wf = true ∧ (Lit.int .i64 x.s).wf = true

theorem Tryd.row32 : (32 : TypeId) < Tryd.prog.types.size := of_decide_eq_true (by kernel_rfl)
theorem Tryd.cells32 : Tryd.prog.cellsOf 32 = 3 := by kernel_rfl
theorem Tryd.wide32 : (match Tryd.prog.underlying 32 with | some (.array _ _) | some (.struct _) => true | _ => false) = true := by rw [Tryd.underlying32]
theorem keyLaw : Maps.Keyed Tryd.prog 32 := Maps.Keyed.of_law (deep_law_laid Tryd.laidOut (m := 2) (by omega) Tryd.row32 (by kernel_rfl) Tryd.wide32)
theorem Tryd.deep32 : Tryd.prog.keyType 32 = true := by kernel_rfl
theorem zero93 (w : World) : (zeroValue 93).run Tryd.prog w = .ok (.agg #[]) w := by kernel_rfl

theorem keyLits_int (d : Nat) (n : Int) (h : (Lit.int .i64 n).wf = true) : Tryd.prog.keyLits (d + 1) 3 [.int .i64 n] = some [.int .i64 n] := by
  simp [Program.keyLits, Tryd.underlying3, h]
theorem key_of (x : Ext) (h : x.wf) : ∃ kl, keyOf Tryd.prog 32 (xv x) = some kl := by
  obtain ⟨h1, h2, h3⟩ := h
  have hf : (xv x).formed Tryd.prog 32 = true := by simp [xv, Value.formed, Tryd.underlying32, Tryd.cells32]
  have hs : ∃ d, Tryd.prog.types.size = d + 1 := ⟨Tryd.prog.types.size - 1, by have : (32 : Nat) < Tryd.prog.types.size := Tryd.row32; omega⟩
  obtain ⟨d, hd⟩ := hs
  unfold keyOf
  rw [Tryd.underlying32]
  simp only [Tryd.deep32, hf, Bool.and_self, if_true, hd]
  simp [Program.keyLits, Tryd.underlying32, Tryd.underlying3, Tryd.cells32, Tryd.cells3, xv, Value.cells, h1, h2, h3]
theorem xv_inj {x y : Ext} (h : xv x = xv y) : x = y := by
  obtain ⟨a, b, c⟩ := x
  obtain ⟨a', b', c'⟩ := y
  simp [xv] at h
  simp [h]

/-- The map at block m holds the extents of which P says so, at most e of them. -/
def LiveAt (w : World) (m e : Nat) (P : Ext → Bool) : Prop :=
  ∃ D : DataW Unit, w.ownsMap Tryd.prog 32 unitElem m e D ∧ ∀ x kl, keyOf Tryd.prog 32 (xv x) = some kl → Maps.has D kl = P x

theorem LiveAt.only {w w' : World} {m e : Nat} {P : Ext → Bool} {F : Nat → Prop} (h : LiveAt w m e P) (o : Only F w w') (hF : ¬ F m) : LiveAt w' m e P := by
  obtain ⟨D, ⟨es, ck, hb, r⟩, h2⟩ := h
  exact ⟨D, ⟨es, ck, (o.block m (Array.getElem?_eq_some_iff.1 hb).1 hF).trans hb, r⟩, h2⟩
theorem LiveAt.fresh {w w' : World} {m e : Nat} {P : Ext → Bool} (h : LiveAt w m e P) (b : Below w.heap.size w w') : LiveAt w' m e P :=
  h.only (F := fun _ => False) (Only.of_below b) id
theorem LiveAt.heap {w w' : World} {m e : Nat} {P : Ext → Bool} (h : LiveAt w m e P) (hh : w'.heap = w.heap) : LiveAt w' m e P := by
  obtain ⟨D, ⟨es, ck, hb, r⟩, h2⟩ := h
  exact ⟨D, ⟨es, ck, by rw [hh]; exact hb, r⟩, h2⟩
theorem LiveAt.mono {w : World} {m e e' : Nat} {P : Ext → Bool} (h : LiveAt w m e P) (he : e ≤ e') : LiveAt w m e' P := by
  obtain ⟨D, h1, h2⟩ := h
  exact ⟨D, h1.mono he, h2⟩
theorem LiveAt.lt {w : World} {m e : Nat} {P : Ext → Bool} (h : LiveAt w m e P) : m < w.heap.size := by
  obtain ⟨D, h1, h2⟩ := h
  exact h1.lt
theorem LiveAt.congr {w : World} {m e : Nat} {P Q : Ext → Bool} (h : LiveAt w m e P) (he : ∀ x, P x = Q x) : LiveAt w m e Q := by
  have : P = Q := funext he
  rw [← this]; exact h
theorem live_made (w : World) : LiveAt (w.alloc (.map #[] 0)) w.heap.size 0 (fun _ => false) :=
  ⟨.map [], World.ownsMap_made _ _ _ _, fun _ _ _ => rfl⟩

/-- Is it there? -/
theorem LiveAt.look {w : World} {m e : Nat} {P : Ext → Bool} (h : LiveAt w m e P) (x : Ext) (hx : x.wf) :
    (Instr.lookup 66 (.map (some m)) (xv x) true).run Tryd.prog w = .ok (.tuple #[.agg #[], .bool (P x)]) w := by
  obtain ⟨D, h1, h2⟩ := h
  obtain ⟨kl, hk⟩ := key_of x hx
  obtain ⟨v, ps, hrun, hv⟩ := h1.look_ok keyLaw Tryd.underlying66 (zero93 w) unitElem_mk hk
  obtain ⟨rfl, _⟩ := unitElem_inv hv
  rw [hrun, h2 x kl hk]

theorem turned_only {w w' : World} {m : Nat} (h : w.mapTurned w' m) : Only (· = m) w w' := by
  have g := h.grown
  exact ⟨g.os, g.tape, g.output, g.size, fun k hk hne => g.block k hk (fun e => hne (Option.some.inj e))⟩

/-- One more. -/
theorem LiveAt.store {w : World} {m e : Nat} {P : Ext → Bool} (h : LiveAt w m e P) (x : Ext) (hx : x.wf) (he : e < 4000000000000000000) :
    ∃ w', (Instr.mapUpdate 66 (.map (some m)) (xv x) (.agg #[])).run Tryd.prog w = .ok () w' ∧ LiveAt w' m (e + 1) (fun y => decide (y = x) || P y) ∧ Only (· = m) w w' := by
  obtain ⟨D, h1, h2⟩ := h
  obtain ⟨kl, hk⟩ := key_of x hx
  obtain ⟨w', hrun, r1, r2⟩ := h1.store keyLaw Tryd.underlying66 (by unfold maxLen; omega) hk unitElem_mk
  refine ⟨w', hrun, ⟨_, r1, fun y kl' hk' => ?_⟩, turned_only r2⟩
  by_cases hy : y = x
  · subst hy
    rw [hk] at hk'
    cases hk'
    rw [Maps.has_put_same h1.isMap (keyLaw.key hk)]
    simp
  · rw [Maps.has_put_other (fun e => hy (xv_inj (keyLaw.inj hk' (by rw [e]; exact hk)))), h2 y kl' hk']
    simp [hy]

/-- One less. -/
theorem LiveAt.drop {w : World} {m e : Nat} {P : Ext → Bool} (h : LiveAt w m e P) (x : Ext) (hx : x.wf) (ty : TypeId) :
    ∃ w', (Builtin.delete_ #[66, 32] ty #[.map (some m), xv x]).run Tryd.prog w = .ok (.tuple #[]) w' ∧ LiveAt w' m e (fun y => !decide (y = x) && P y) ∧ Only (· = m) w w' := by
  obtain ⟨D, h1, h2⟩ := h
  obtain ⟨kl, hk⟩ := key_of x hx
  obtain ⟨w', hrun, r1, r2⟩ := h1.drop keyLaw Tryd.underlying66 hk ty
  refine ⟨w', hrun, ⟨_, r1, fun y kl' hk' => ?_⟩, turned_only r2⟩
  by_cases hy : y = x
  · subst hy
    rw [hk] at hk'
    cases hk'
    rw [Maps.has_del_same]
    simp
  · rw [Maps.has_del_other (fun e => hy (xv_inj (keyLaw.inj hk' (by rw [e]; exact hk)))), h2 y kl' hk']
    simp [hy]

/-! Sectors and places. -/
def secs (k : Nat) : Nat := (k - 1) / 64 + 1
theorem secs_pos (k : Nat) : 1 ≤ secs k := by unfold secs; omega
theorem secs_le (k : Nat) : k ≤ 64 * secs k := by unfold secs; omega
theorem secs_lt (k : Nat) : 64 * (secs k - 1) ≤ k := by unfold secs; omega

theorem ret_i {a b : Int} (h : a = b) : Ending.returned (.int .i64 a) = .returned (.int .i64 b) := by rw [h]
theorem sectors_neg (n : Int) (w : World) (h : n ≤ 1) (h1 : -9223372036854775808 ≤ n) :
    Calls Tryd.prog 23 #[.int .i64 n] w fun e w' => e = .returned (.int .i64 1) ∧ w = w' := by
  go_enter Tryd.func23, Tryd.ntmps23
  go_wp2
  go_ret
  exact ⟨ret_i (a := (max n 1 - 1) / 64 + 1) (by omega), rfl⟩
theorem sectors_any (k : Nat) (w : World) (h : k ≤ 9223372036854775807) :
    Calls Tryd.prog 23 #[.int .i64 k] w fun e w' => e = .returned (.int .i64 (secs k)) ∧ w = w' := by
  go_enter Tryd.func23, Tryd.ntmps23
  go_wp2
  go_ret
  exact ⟨ret_i (a := (max (k : Int) 1 - 1) / 64 + 1) (by unfold secs; omega), rfl⟩
end Go.Proofs.YtkjpemgoiobeeaaDoor
