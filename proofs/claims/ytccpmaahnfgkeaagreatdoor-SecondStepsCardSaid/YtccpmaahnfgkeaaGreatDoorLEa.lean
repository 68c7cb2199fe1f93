/- Texts of the layers below, one behind the other: EELive EEPl EESp. -/
import Derived.Test.YtccpmaahnfgkeaaGreatDoorBFirst
import Derived.Test.YtccpmaahnfgkeaaGreatDoorLD
import Derived.Maps.OwnSet
import Derived.DeepKeys5
import Derived.StillTailTactics
import Derived.Deep.RegionHeld3

/- Extents as values, and the set of live extents that a space keeps in a map: what a look-up, a store and a deletion do. No condition but those that each statement names. -/
namespace Go.Proofs.YtccpmaahnfgkeaaGreatDoor
set_option maxRecDepth 1000000
open Go.ChangeShapes Go.WideShapes Go.ChangeAt Go.RowKit

/-- An extent: its first sector, how many it has, how many bytes it holds. -/
structure Ext where
  f : Int
  n : Int
  s : Int
deriving DecidableEq

/-- Its value. -/
def xv (x : Ext) : Value := .agg #[.int .i64 x.f, .int .i64 x.n, .int .i64 x.s]
def Ext.wf (x : Ext) : Prop := (Lit.int .i64 x.f).wf = true ∧ (Lit.int .i64 x.n).wf = true ∧ (Lit.int .i64 x.s).wf = true

theorem Tryz.row47 : (47 : TypeId) < Tryz.prog.types.size := of_decide_eq_true (by kernel_rfl)
theorem Tryz.cells47 : Tryz.prog.cellsOf 47 = 3 := by kernel_rfl
theorem Tryz.wide47 : (match Tryz.prog.underlying 47 with | some (.array _ _) | some (.struct _) => true | _ => false) = true := by rw [Tryz.underlying47]
theorem keyLaw : Maps.Keyed Tryz.prog 47 := Maps.Keyed.of_law (deep_law_laid Tryz.laidOut (m := 2) (by omega) Tryz.row47 (by kernel_rfl) Tryz.wide47)
theorem Tryz.deep47 : Tryz.prog.keyType 47 = true := by kernel_rfl
theorem zero95 (w : World) : (zeroValue 95).run Tryz.prog w = .ok (.agg #[]) w := by kernel_rfl

theorem keyLits_int (d : Nat) (n : Int) (h : (Lit.int .i64 n).wf = true) : Tryz.prog.keyLits (d + 1) 3 [.int .i64 n] = some [.int .i64 n] := by
  simp [Program.keyLits, Tryz.underlying3, h]
theorem key_of (x : Ext) (h : x.wf) : ∃ kl, keyOf Tryz.prog 47 (xv x) = some kl := by
  obtain ⟨h1, h2, h3⟩ := h
  have hf : (xv x).formed Tryz.prog 47 = true := by simp [xv, Value.formed, Tryz.underlying47, Tryz.cells47]
  have hs : ∃ d, Tryz.prog.types.size = d + 1 := ⟨Tryz.prog.types.size - 1, by have : (47 : Nat) < Tryz.prog.types.size := Tryz.row47; omega⟩
  obtain ⟨d, hd⟩ := hs
  unfold keyOf
  rw [Tryz.underlying47]
  simp only [Tryz.deep47, hf, Bool.and_self, if_true, hd]
  simp [Program.keyLits, Tryz.underlying47, Tryz.underlying3, Tryz.cells47, Tryz.cells3, xv, Value.cells, h1, h2, h3]
theorem xv_inj {x y : Ext} (h : xv x = xv y) : x = y := by
  obtain ⟨a, b, c⟩ := x
  obtain ⟨a', b', c'⟩ := y
  simp [xv] at h
  simp [h]

/-- The map at block m holds the extents of which P says so, at most e of them. -/
def LiveAt (w : World) (m e : Nat) (P : Ext → Bool) : Prop :=
  ∃ D : DataW Unit, w.ownsMap Tryz.prog 47 unitElem m e D ∧ ∀ x kl, keyOf Tryz.prog 47 (xv x) = some kl → Maps.has D kl = P x

theorem LiveAt.only {w w' : World} {m e : Nat} {P : Ext → Bool} {F : Nat → Prop} (h : LiveAt w m e P) (o : Only F w w') (hF : ¬ F m) : LiveAt w' m e P := by
  obtain ⟨D, ⟨es, ck, hb, r⟩, h2⟩ := h
  exact ⟨D, ⟨es, ck, (o.block m (Array.getElem?_eq_some_iff.1 hb).1 hF).trans hb, r⟩, h2⟩
theorem LiveAt.fresh {w w' : World} {m e : Nat} {P : Ext → Bool} (h : LiveAt w m e P) (b : Below w.heap.size w w') : LiveAt w' m e P :=
  h.only (F := fun _ => False) (Only.of_below b) id
theorem LiveAt.heap {w w' : World} {m e : Nat} {P : Ext → Bool} (h : LiveAt w m e P) (hh : w'.heap = w.heap) : LiveAt w' m e P := by
  obtain ⟨D, ⟨es, ck, hb, r⟩, h2⟩ := h
  exact ⟨D, ⟨es, ck, by rw [hh]; exact hb, r⟩, h2⟩
theorem LiveAt.mono {w : World} {m e e' : Nat} {P : Ext → Bool} (h : LiveAt w m e P) (he : e ≤ e') : LiveAt w m e' P := by
  obtain ⟨D, h1, h2⟩ := h
  exact ⟨D, h1.mono he, h2⟩
theorem LiveAt.lt {w : World} {m e : Nat} {P : Ext → Bool} (h : LiveAt w m e P) : m < w.heap.size := by
  obtain ⟨D, h1, h2⟩ := h
  exact h1.lt
theorem LiveAt.congr {w : World} {m e : Nat} {P Q : Ext → Bool} (h : LiveAt w m e P) (he : ∀ x, P x = Q x) : LiveAt w m e Q := by
  have : P = Q := funext he
  rw [← this]; exact h
theorem live_made (w : World) : LiveAt (w.alloc (.map #[] 0)) w.heap.size 0 (fun _ => false) :=
  ⟨.map [], World.ownsMap_made _ _ _ _, fun _ _ _ => rfl⟩

/-- Is it there? -/
theorem LiveAt.look {w : World} {m e : Nat} {P : Ext → Bool} (h : LiveAt w m e P) (x : Ext) (hx : x.wf) :
    (Instr.lookup 106 (.map (some m)) (xv x) true).run Tryz.prog w = .ok (.tuple #[.agg #[], .bool (P x)]) w := by
  obtain ⟨D, h1, h2⟩ := h
  obtain ⟨kl, hk⟩ := key_of x hx
  obtain ⟨v, ps, hrun, hv⟩ := h1.look_ok keyLaw Tryz.underlying106 (zero95 w) unitElem_mk hk
  obtain ⟨rfl, _⟩ := unitElem_inv hv
  rw [hrun, h2 x kl hk]

theorem turned_only {w w' : World} {m : Nat} (h : w.mapTurned w' m) : Only (· = m) w w' := by
  have g := h.grown
  exact ⟨g.os, g.tape, g.output, g.size, fun k hk hne => g.block k hk (fun e => hne (Option.some.inj e))⟩

/-- One more. -/
theorem LiveAt.store {w : World} {m e : Nat} {P : Ext → Bool} (h : LiveAt w m e P) (x : Ext) (hx : x.wf) (he : e < 4000000000000000000) :
    ∃ w', (Instr.mapUpdate 106 (.map (some m)) (xv x) (.agg #[])).run Tryz.prog w = .ok () w' ∧ LiveAt w' m (e + 1) (fun y => decide (y = x) || P y) ∧ Only (· = m) w w' := by
  obtain ⟨D, h1, h2⟩ := h
  obtain ⟨kl, hk⟩ := key_of x hx
  obtain ⟨w', hrun, r1, r2⟩ := h1.store keyLaw Tryz.underlying106 (by unfold maxLen; omega) hk unitElem_mk
  refine ⟨w', hrun, ⟨_, r1, fun y kl' hk' => ?_⟩, turned_only r2⟩
  by_cases hy : y = x
  · subst hy
    rw [hk] at hk'
    cases hk'
    rw [Maps.has_put_same h1.isMap (keyLaw.key hk)]
    simp
  · rw [Maps.has_put_other (fun e => hy (xv_inj (keyLaw.inj hk' (by rw [e]; exact hk)))), h2 y kl' hk']
    simp [hy]

/-- One less. -/
theorem LiveAt.drop {w : World} {m e : Nat} {P : Ext → Bool} (h : LiveAt w m e P) (x : Ext) (hx : x.wf) (ty : TypeId) :
    ∃ w', (Builtin.delete_ #[106, 47] ty #[.map (some m), xv x]).run Tryz.prog w = .ok (.tuple #[]) w' ∧ LiveAt w' m e (fun y => !decide (y = x) && P y) ∧ Only (· = m) w w' := by
  obtain ⟨D, h1, h2⟩ := h
  obtain ⟨kl, hk⟩ := key_of x hx
  obtain ⟨w', hrun, r1, r2⟩ := h1.drop keyLaw Tryz.underlying106 hk ty
  refine ⟨w', hrun, ⟨_, r1, fun y kl' hk' => ?_⟩, turned_only r2⟩
  by_cases hy : y = x
  · subst hy
    rw [hk] at hk'
    cases hk'
    rw [Maps.has_del_same]
    simp
  · rw [Maps.has_del_other (fun e => hy (xv_inj (keyLaw.inj hk' (by rw [e]; exact hk)))), h2 y kl' hk']
    simp [hy]

/-! Sectors and places. -/
def secs (k : Nat) : Nat := (k - 1) / 64 + 1
theorem secs_pos (k : Nat) : 1 ≤ secs k := by unfold secs; omega
theorem secs_le (k : Nat) : k ≤ 64 * secs k := by unfold secs; omega
theorem secs_lt (k : Nat) : 64 * (secs k - 1) ≤ k := by unfold secs; omega

theorem ret_i {a b : Int} (h : a = b) : Ending.returned (.int .i64 a) = .returned (.int .i64 b) := by rw [h]
theorem sectors_neg (n : Int) (w : World) (h : n ≤ 1) (h1 : -9223372036854775808 ≤ n) :
    Calls Tryz.prog 53 #[.int .i64 n] w fun e w' => e = .returned (.int .i64 1) ∧ w = w' := by
  go_enter Tryz.func53, Tryz.ntmps53
  go_wp2
  go_ret
  exact ⟨ret_i (a := (max n 1 - 1) / 64 + 1) (by omega), rfl⟩
theorem sectors_any (k : Nat) (w : World) (h : k ≤ 9223372036854775807) :
    Calls Tryz.prog 53 #[.int .i64 k] w fun e w' => e = .returned (.int .i64 (secs k)) ∧ w = w' := by
  go_enter Tryz.func53, Tryz.ntmps53
  go_wp2
  go_ret
  exact ⟨ret_i (a := (max (k : Int) 1 - 1) / 64 + 1) (by unfold secs; omega), rfl⟩
end Go.Proofs.YtccpmaahnfgkeaaGreatDoor

/- What the function places of package extent does. No condition but those that each statement names. -/
namespace Go.Proofs.YtccpmaahnfgkeaaGreatDoor
set_option maxRecDepth 1000000
open Go.ChangeShapes Go.WideShapes Go.ChangeAt Go.RowKit

theorem Tryz.info3 : (Tryz.prog.info? 3).map (fun i => (i.zero, i.size, i.bytes)) = some (some (.int .i64 0), 1, 8) := by kernel_rfl
theorem mk_ints (w : World) (n : Nat) (hn : n ≤ 100000000) : (Instr.makeSlice 23 (.int .i64 (n : Int)) (.int .i64 (n : Int))).run Tryz.prog w = .ok (.slice (some ⟨w.heap.size, 0, none⟩) n n) (w.alloc (.cells (madeCells (Value.int .i64 0).cells n) 3)) := by
  obtain ⟨i0, hi, hz0, hz1, hz2⟩ := info_parts Tryz.info3
  have h := run_make (P := Tryz.prog) w 23 3 i0 (.int .i64 0) Tryz.underlying23 hi hz0 .i64 .i64 (n : Int) (n : Int) (by omega) (by omega) (by rw [hz2]; omega) (by omega)
  rw [hz1, Nat.mul_one, show ((n : Int)).toNat = n by omega] at h
  exact h
theorem made_int (w : World) (n j : Nat) (h : j < n) : (w.alloc (.cells (madeCells (Value.int .i64 0).cells n) 3)).cell? ⟨w.heap.size, j, none⟩ = some (.int .i64 0) := by
  rw [World.cell?_alloc_at _ _ _ _ rfl]
  show (madeCells #[Value.int .i64 0] n)[j]? = _
  rw [← Array.getElem?_toList, toList_madeCells_one, List.getElem?_replicate, if_pos h]

/-- The sectors of an extent. -/
def run (f n : Nat) : List Int := (List.range n).map fun j => ((f + j : Nat) : Int)
theorem run_len (f n : Nat) : (run f n).length = n := by simp [run]
theorem run_get (f n j : Nat) (h : j < n) : (run f n)[j]? = some ((f + j : Nat) : Int) := by simp [run, h]

def PlacesPost (f n : Nat) (w : World) (e : Ending) (w' : World) : Prop :=
  ∃ g, e = .returned (.slice (some ⟨g, 0, none⟩) n n) ∧ w.heap.size ≤ g ∧ g < w'.heap.size ∧ Ints (· = g) w' (.slice (some ⟨g, 0, none⟩) n n) (run f n) ∧ Below w.heap.size w w'

def PlInv (p f k n : Nat) (w wr : World) : Prop :=
  (∀ j, j < n → wr.cell? ⟨p + 1, j, none⟩ = some (.int .i64 (if j < k then ((f + j : Nat) : Int) else 0))) ∧ (∀ j, wr.frozen? ⟨p + 1, j, none⟩ = false) ∧ wr.cell? ⟨p, 0, none⟩ = some (.int .i64 f) ∧ Below p w wr ∧ p + 1 < wr.heap.size

theorem PlInv.step {p f k n : Nat} {w wr : World} (h : PlInv p f k n w wr) (hk : k < n) : PlInv p f (k + 1) n w (wr.setCell ⟨p + 1, k, none⟩ (.int .i64 ((f : Int) + k))) := by
  obtain ⟨h1, h2, h3, h4, h5⟩ := h
  refine ⟨fun j hj => ?_, fun j => by rw [World.frozen?_setCell]; exact h2 j, ?_, ?_, by simpa [World.setCell] using h5⟩
  · by_cases e : j = k
    · subst e
      rw [World.cell?_setCell_same _ _ _ (h1 j hj), if_pos (by omega)]
      rfl
    · rw [World.cell?_setCell_other _ _ _ _ (by intro e'; injection e'; omega), h1 j hj]
      by_cases e2 : j < k
      · rw [if_pos e2, if_pos (by omega)]
      · rw [if_neg e2, if_neg (by omega)]
  · rw [World.cell?_setCell_other _ _ _ _ (by intro e'; injection e'; omega)]; exact h3
  · exact h4.setCell (by show p ≤ p + 1; omega) _

set_option maxHeartbeats 1000000 in
theorem places_any (f n : Nat) (sz : Int) (w : World) (hn : n ≤ 100000) (hf : f ≤ 1000000) :
    Calls Tryz.prog 62 #[.agg #[.int .i64 f, .int .i64 n, .int .i64 sz]] w (PlacesPost f n w) := by
  have hm := mk_ints (w.alloc (.cells #[.int .i64 f, .int .i64 n, .int .i64 sz] 47)) n (by omega)
  have hI : PlInv w.heap.size f 0 n w ((w.alloc (.cells #[.int .i64 f, .int .i64 n, .int .i64 sz] 47)).alloc (.cells (madeCells (Value.int .i64 0).cells n) 3)) := by
    refine ⟨fun j hj => ?_, fun j => ?_, ?_, ((Below.refl _ _).alloc (Nat.le_refl _) _).alloc (by simp) _, by simp⟩
    · have := made_int (w.alloc (.cells #[.int .i64 f, .int .i64 n, .int .i64 sz] 47)) n j hj
      rw [World.size_alloc] at this
      rw [this, if_neg (by omega)]
    · have := frozen_top (w.alloc (.cells #[.int .i64 f, .int .i64 n, .int .i64 sz] 47)) (madeCells (Value.int .i64 0).cells n) 3 j
      rwa [World.size_alloc] at this
    · rw [World.cell?_alloc_lt _ _ _ (by simp), World.cell?_alloc_at _ _ _ _ rfl]; rfl
  rw [World.size_alloc] at hm
  obtain ⟨p, hp⟩ : ∃ p, w.heap.size = p := ⟨_, rfl⟩
  have HP := Lib.hid hp
  have c1 : (w.alloc (.cells #[.int .i64 f, .int .i64 n, .int .i64 sz] 47)).cell? ⟨w.heap.size, 1, none⟩ = some (.int .i64 n) := by rw [World.cell?_alloc_at _ _ _ _ rfl]; rfl
  rw [hp] at hI hm c1
  have HI := Lib.hid hI
  clear hI
  go_enter Tryz.func62, Tryz.ntmps62
  go_wp2
  go_loopw [10] (fun i wr => ∃ k : Nat, k ≤ n ∧ i = .int .i64 k ∧ PlInv p f k n w wr) (fun i _ => n - (intOf i).toNat)
  case atStart => exact ⟨0, Nat.zero_le _, rfl, HI.out⟩
  case round =>
    obtain ⟨k, hk, rfl, hinv⟩ := hrel
    by_cases hlt : k < n
    · have HS := Lib.hid (hinv.step hlt)
      obtain ⟨h1, h2, h3, _, _⟩ := hinv
      have h1 := h1 k hlt
      have h2 := h2 k
      rw [if_neg (Nat.lt_irrefl k)] at h1
      go_wp2
      go_roundw
      case rel => exact ⟨k + 1, by omega, by go_num, HS.out⟩
      case measure => simp [intOf]; omega
    · obtain rfl : k = n := by omega
      have HS := Lib.hid hinv
      clear hinv
      go_wp2
      go_ret
      obtain ⟨h1, h2, h3, h4, h5⟩ := HS.out
      have hp := HP.out
      refine ⟨p + 1, rfl, by omega, h5, ⟨_, k, by simp [run_len], by simp [run_len], .inr ⟨p + 1, 0, rfl, rfl, fun j u hu => ?_⟩⟩, by rw [hp]; exact h4⟩
      rw [List.getElem?_map] at hu
      by_cases hj : j < k
      · rw [run_get _ _ _ hj] at hu
        rw [Nat.zero_add, h1 j hj, if_pos hj]
        exact hu
      · rw [List.getElem?_eq_none (by rw [run_len]; omega)] at hu
        cases hu
end Go.Proofs.YtccpmaahnfgkeaaGreatDoor

/- What a space of package extent is in memory: its rows (first sector and bytes of each live extent), its disk, its bitmap, its map; and the plain facts on rows. -/
namespace Go.Proofs.YtccpmaahnfgkeaaGreatDoor
set_option maxRecDepth 1000000
open Go.ChangeShapes Go.WideShapes Go.ChangeAt Go.RowKit

/-- A live extent: its first sector, and its bytes. -/
abbrev Row := Nat × List Int
def len (r : Row) : Nat := secs r.2.length
def ext (r : Row) : Ext := ⟨r.1, len r, r.2.length⟩
/-- Is the sector i taken? -/
def tk (R : List Row) : Nat → Bool := fun i => R.any fun r => inR r.1 (len r) i
/-- Does x live? -/
def isX (R : List Row) (x : Ext) : Bool := R.any fun r => decide (ext r = x)
/-- Rows that have nothing in common. -/
def Off (a b : Row) : Prop := a.1 + len a ≤ b.1 ∨ b.1 + len b ≤ a.1
structure Good (n : Nat) (R : List Row) : Prop where
  room : ∀ r ∈ R, r.1 + len r ≤ n
  bytes : ∀ r ∈ R, Bytes r.2
  apart : R.Pairwise Off
/-- The disk's bytes hold the rows. -/
def Holds (D : Nat → Int) (R : List Row) : Prop := ∀ r ∈ R, ∀ j, j < r.2.length → D (64 * r.1 + j) = r.2.getD j 0
def total (R : List Row) : Nat := (R.map len).sum

theorem Off.symm {a b : Row} (h : Off a b) : Off b a := Or.symm h
theorem len_pos (r : Row) : 1 ≤ len r := secs_pos _
theorem ext_inj {a b : Row} (h : Off a b) : ext a ≠ ext b := by
  intro e
  have h1 := congrArg Ext.f e
  have h2 := len_pos a
  have h3 := len_pos b
  simp only [ext] at h1
  unfold Off at h
  omega
theorem inR_iff {f c i : Nat} : inR f c i = true ↔ f ≤ i ∧ i < f + c := by simp [inR]
theorem tk_iff {R : List Row} {i : Nat} : tk R i = true ↔ ∃ r ∈ R, r.1 ≤ i ∧ i < r.1 + len r := by
  simp only [tk, List.any_eq_true, inR_iff]
theorem tk_false {R : List Row} {i : Nat} : tk R i = false ↔ ∀ r ∈ R, ¬ (r.1 ≤ i ∧ i < r.1 + len r) := by
  rw [← Bool.not_eq_true, tk_iff]; simp
theorem isX_iff {R : List Row} {x : Ext} : isX R x = true ↔ ∃ r ∈ R, ext r = x := by simp [isX]
theorem tk_out {n : Nat} {R : List Row} (h : Good n R) (i : Nat) (hi : n ≤ i) : tk R i = false := by
  rw [tk_false]
  intro r hr
  have := h.room r hr
  omega

/-- A row more. -/
theorem tk_add {R : List Row} {r : Row} (h : cnt (tk R) r.1 (len r) = 0) : flipS (tk R) r.1 (len r) = tk (R ++ [r]) := by
  funext i
  have h1 := of_cnt_none h
  simp only [flipS]
  have e : tk (R ++ [r]) i = (tk R i || inR r.1 (len r) i) := by simp [tk]
  rw [e]
  by_cases hi : inR r.1 (len r) i = true
  · rw [inR_iff] at hi
    have := h1 (i - r.1) (by omega)
    rw [show r.1 + (i - r.1) = i by omega] at this
    simp [this]
  · simp only [Bool.not_eq_true] at hi
    simp [hi]
theorem off_free {R : List Row} {r : Row} (h : ∀ k, k < len r → tk R (r.1 + k) = false) : ∀ q ∈ R, Off q r := by
  intro q hq
  have hq0 := len_pos q
  have hr0 := len_pos r
  unfold Off
  rcases Nat.lt_or_ge r.1 (q.1 + len q) with h1 | h1
  · rcases Nat.lt_or_ge q.1 (r.1 + len r) with h2 | h2
    · exfalso
      rcases Nat.lt_or_ge q.1 r.1 with h3 | h3
      · have := tk_false.1 (h 0 (by omega)) q hq
        omega
      · have := tk_false.1 (h (q.1 - r.1) (by omega)) q hq
        omega
    · exact .inr h2
  · exact .inl h1
theorem Good.add {n : Nat} {R : List Row} {r : Row} (h : Good n R) (hr : r.1 + len r ≤ n) (hb : Bytes r.2) (hf : ∀ k, k < len r → tk R (r.1 + k) = false) : Good n (R ++ [r]) := by
  refine ⟨fun q hq => ?_, fun q hq => ?_, List.pairwise_append.2 ⟨h.apart, by simp, fun a ha b hb => ?_⟩⟩
  · rcases List.mem_append.1 hq with hq | hq
    · exact h.room q hq
    · rw [List.mem_singleton.1 hq]; exact hr
  · rcases List.mem_append.1 hq with hq | hq
    · exact h.bytes q hq
    · rw [List.mem_singleton.1 hq]; exact hb
  · rw [List.mem_singleton.1 hb]; exact off_free hf a ha

/-- A row less. -/
def without (R : List Row) (x : Ext) : List Row := R.filter fun r => !decide (ext r = x)
theorem mem_without {R : List Row} {x : Ext} {r : Row} : r ∈ without R x ↔ r ∈ R ∧ ext r ≠ x := by simp [without]
theorem Good.without {n : Nat} {R : List Row} (h : Good n R) (x : Ext) : Good n (without R x) :=
  ⟨fun r hr => h.room r (mem_without.1 hr).1, fun r hr => h.bytes r (mem_without.1 hr).1, h.apart.filter _⟩
theorem pw_off : ∀ {R : List Row}, R.Pairwise Off → ∀ {a b : Row}, a ∈ R → b ∈ R → a ≠ b → Off a b
  | [], _, _, _, ha, _, _ => by cases ha
  | q :: R, h, a, b, ha, hb, hne => by
    obtain ⟨h1, h2⟩ := List.pairwise_cons.1 h
    rcases List.mem_cons.1 ha with e1 | ha
    · rcases List.mem_cons.1 hb with e2 | hb
      · exact absurd (e1.trans e2.symm) hne
      · rw [e1]; exact h1 b hb
    · rcases List.mem_cons.1 hb with e2 | hb
      · rw [e2]; exact (h1 a ha).symm
      · exact pw_off h2 ha hb hne
theorem Good.off {n : Nat} {R : List Row} (h : Good n R) {a b : Row} (ha : a ∈ R) (hb : b ∈ R) (hne : a ≠ b) : Off a b := pw_off h.apart ha hb hne
theorem Good.inj {n : Nat} {R : List Row} (h : Good n R) {a b : Row} (ha : a ∈ R) (hb : b ∈ R) (he : ext a = ext b) : a = b := by
  by_cases hne : a = b
  · exact hne
  · exact absurd he (ext_inj (h.off ha hb hne))
theorem tk_rem {n : Nat} {R : List Row} (h : Good n R) {r : Row} (hr : r ∈ R) : flipS (tk R) r.1 (len r) = tk (without R (ext r)) := by
  funext i
  simp only [flipS]
  by_cases hi : r.1 ≤ i ∧ i < r.1 + len r
  · have e1 : tk R i = true := tk_iff.2 ⟨r, hr, hi⟩
    have e2 : inR r.1 (len r) i = true := inR_iff.2 hi
    have e3 : tk (without R (ext r)) i = false := by
      rw [tk_false]
      intro q hq
      obtain ⟨hq, hne⟩ := mem_without.1 hq
      have := h.off hq hr (fun e => hne (by rw [e]))
      unfold Off at this
      omega
    rw [e1, e2, e3]; rfl
  · have e2 : inR r.1 (len r) i = false := by rw [← Bool.not_eq_true, inR_iff]; exact hi
    rw [e2, Bool.xor_false, Bool.eq_iff_iff, tk_iff, tk_iff]
    constructor
    · rintro ⟨q, hq, h2⟩
      refine ⟨q, mem_without.2 ⟨hq, fun e => hi ?_⟩, h2⟩
      rw [← h.inj hq hr e]; exact h2
    · rintro ⟨q, hq, h2⟩
      exact ⟨q, (mem_without.1 hq).1, h2⟩
theorem cnt_row {R : List Row} {r : Row} (hr : r ∈ R) : cnt (tk R) r.1 (len r) = len r :=
  cnt_all fun k hk => tk_iff.2 ⟨r, hr, by omega⟩
theorem isX_add (R : List Row) (r : Row) (y : Ext) : (decide (y = ext r) || isX R y) = isX (R ++ [r]) y := by
  simp [isX, Bool.or_comm, eq_comm]
theorem isX_rem (R : List Row) (x y : Ext) : (!decide (y = x) && isX R y) = isX (without R x) y := by
  rw [Bool.eq_iff_iff, isX_iff]
  simp only [Bool.and_eq_true, Bool.not_eq_true', decide_eq_false_iff_not, isX_iff]
  constructor
  · rintro ⟨h1, r, hr, h2⟩
    exact ⟨r, mem_without.2 ⟨hr, by rw [h2]; exact h1⟩, h2⟩
  · rintro ⟨r, hr, h2⟩
    obtain ⟨h3, h4⟩ := mem_without.1 hr
    exact ⟨by rw [← h2]; exact h4, r, h3, h2⟩
theorem cnt_total {n : Nat} : ∀ {R : List Row}, Good n R → cnt (tk R) 0 n = total R
  | [], _ => cnt_none fun _ _ => rfl
  | r :: R, h => by
    obtain ⟨h1, h2⟩ := List.pairwise_cons.1 h.apart
    have hg : Good n R := ⟨fun q hq => h.room q (by simp [hq]), fun q hq => h.bytes q (by simp [hq]), h2⟩
    have hz : cnt (tk R) r.1 (len r) = 0 := cnt_none fun k hk => by
      rw [tk_false]
      intro q hq
      have := h1 q hq
      unfold Off at this
      omega
    have e : tk (r :: R) = flipS (tk R) r.1 (len r) := by
      rw [tk_add hz]
      funext i
      simp [tk, Bool.or_comm]
    rw [e, cnt_flip _ _ _ _ hz (h.room r (by simp)), cnt_total hg]
    simp [total]; omega
theorem total_add (R : List Row) (r : Row) : total (R ++ [r]) = total R + len r := by simp [total]

/-- There is a first place, or none. -/
theorem first_ex (S : Nat → Bool) (n c : Nat) : ∃ a ok, FirstIs S n c a ok := by
  have key : ∀ m, (∃ a, a < m ∧ (∀ k, k < c → S (a + k) = false) ∧ ∀ b, b < a → ∃ k, k < c ∧ S (b + k) = true) ∨ ∀ b, b < m → ∃ k, k < c ∧ S (b + k) = true := by
    intro m
    induction m with
    | zero => exact .inr fun b hb => by omega
    | succ m ih =>
      rcases ih with ⟨a, h1, h2⟩ | h
      · exact .inl ⟨a, by omega, h2⟩
      · by_cases hm : ∃ k, k < c ∧ S (m + k) = true
        · refine .inr fun b hb => ?_
          rcases Nat.lt_or_ge b m with h1 | h1
          · exact h b h1
          · rw [show b = m by omega]; exact hm
        · refine .inl ⟨m, by omega, fun k hk => ?_, h⟩
          cases e : S (m + k)
          · rfl
          · exact absurd ⟨k, hk, e⟩ hm
  rcases key (n + 1 - c) with ⟨a, h1, h2, h3⟩ | h
  · exact ⟨a, true, .inl ⟨rfl, by omega, h2, h3⟩⟩
  · exact ⟨0, false, .inr ⟨rfl, rfl, fun b hb => h b (by omega)⟩⟩

theorem firstIs_eq {S : Nat → Bool} {n c a a' : Nat} {ok ok' : Bool} (h : FirstIs S n c a ok) (h' : FirstIs S n c a' ok') : a = a' ∧ ok = ok' := by
  rcases h with ⟨rfl, h1, h2, h3⟩ | ⟨rfl, rfl, h1⟩ <;> rcases h' with ⟨rfl, k1, k2, k3⟩ | ⟨rfl, rfl, k1⟩
  · refine ⟨?_, rfl⟩
    rcases Nat.lt_trichotomy a a' with h | h | h
    · obtain ⟨k, hk, e⟩ := k3 a h; rw [h2 k hk] at e; cases e
    · exact h
    · obtain ⟨k, hk, e⟩ := h3 a' h; rw [k2 k hk] at e; cases e
  · obtain ⟨k, hk, e⟩ := k1 a h1; rw [h2 k hk] at e; cases e
  · obtain ⟨k, hk, e⟩ := h1 a' k1; rw [k2 k hk] at e; cases e
  · exact ⟨rfl, rfl⟩

/-- Where a space's blocks are: the disk's bytes, the disk, the bitmap's words, the bitmap, the map, the space. -/
structure Sp where
  lo : Nat
  dm : Nat
  bx : Nat
  bm : Nat
  lm : Nat
  sp : Nat
/-- The blocks that a space may change. -/
def Sp.F (s : Sp) : Nat → Prop := fun k => s.lo ≤ k ∧ k ≤ s.sp

/-- The space s in memory: n sectors, the rows R; u: how often it was used, at most. -/
structure SpaceAt (w : World) (s : Sp) (n u : Nat) (R : List Row) : Prop where
  c0 : w.cell? ⟨s.sp, 0, none⟩ = some (.pointer (some ⟨s.dm, 0, none⟩))
  c1 : w.cell? ⟨s.sp, 1, none⟩ = some (.pointer (some ⟨s.bm, 0, none⟩))
  c2 : w.cell? ⟨s.sp, 2, none⟩ = some (.map (some s.lm))
  disk : ∃ r c D, DiskAt w s.dm s.lo n r c D ∧ r ≤ 20000 * u ∧ c ≤ 20000 * u ∧ Holds D R
  map : MapAt w s.bm s.bx n (tk R)
  live : LiveAt w s.lm u (isX R)
  good : Good n R
  ord : 0 < s.lo ∧ s.lo < s.dm ∧ s.dm < s.bx ∧ s.bx < s.bm ∧ s.bm < s.lm ∧ s.lm < s.sp
  lt : s.sp < w.heap.size
  tab : Tab w
  small : n ≤ 20000

theorem MapAt.only {w w' : World} {m x n : Nat} {S : Nat → Bool} {F : Nat → Prop} (h : MapAt w m x n S) (b : Only F w w') (h1 : ¬ F m) (h2 : ¬ F x) : MapAt w' m x n S :=
  ⟨(b.cell (p := ⟨m, 0, none⟩) h.mlt h1).trans h.len, (b.cell (p := ⟨m, 1, none⟩) h.mlt h1).trans h.row, fun j hj => (b.cell (p := ⟨x, j, none⟩) h.xlt h2).trans (h.word j hj),
   fun j => (b.frozen (p := ⟨x, j, none⟩) h.xlt h2).trans (h.thaw j), h.apart, h.small, h.out, Nat.lt_of_lt_of_le h.mlt b.size, Nat.lt_of_lt_of_le h.xlt b.size⟩
theorem Tab.only {w w' : World} {F : Nat → Prop} (h : Tab w) (b : Only F w w') (h0 : 0 < w.heap.size) (hF : ¬ F 0) : Tab w' := fun j hj => (b.cell (p := ⟨0, j, none⟩) h0 hF).trans (h j hj)
theorem Tab.below {B : Nat} {w w' : World} (h : Tab w) (b : Below B w w') (hB : 0 < B) : Tab w' := fun j hj => (b.cell (p := ⟨0, j, none⟩) hB).trans (h j hj)
theorem Tab.heap {w w' : World} (h : Tab w) (e : w'.heap = w.heap) : Tab w' := fun j hj => (World.cell?_of_block (w := w) (by rw [e])).trans (h j hj)
theorem Only.of_but {x : Nat} {w w' : World} (h : But x w w') : Only (· = x) w w' := ⟨h.os, h.tape, h.output, h.size, h.block⟩

theorem SpaceAt.only {w w' : World} {s : Sp} {n u : Nat} {R : List Row} {F : Nat → Prop} (h : SpaceAt w s n u R) (b : Only F w w') (hF : ∀ k, s.F k → ¬ F k) (hF0 : ¬ F 0) : SpaceAt w' s n u R := by
  obtain ⟨r, c, D, hd, hr, hc, hh⟩ := h.disk
  obtain ⟨o0, o1, o2, o3, o4, o5⟩ := h.ord
  have hF : ∀ k, s.lo ≤ k → k ≤ s.sp → ¬ F k := fun k h1 h2 => hF k ⟨h1, h2⟩
  have h5 := hF s.sp (by omega) (by omega)
  exact ⟨(b.cell (p := ⟨s.sp, 0, none⟩) h.lt h5).trans h.c0, (b.cell (p := ⟨s.sp, 1, none⟩) h.lt h5).trans h.c1, (b.cell (p := ⟨s.sp, 2, none⟩) h.lt h5).trans h.c2,
    ⟨r, c, D, hd.only b (hF _ (by omega) (by omega)) (hF _ (by omega) (by omega)), hr, hc, hh⟩, h.map.only b (hF _ (by omega) (by omega)) (hF _ (by omega) (by omega)), h.live.only b (hF _ (by omega) (by omega)),
    h.good, h.ord, Nat.lt_of_lt_of_le h.lt b.size, h.tab.only b (by have := h.lt; omega) hF0, h.small⟩
theorem SpaceAt.fresh {w w' : World} {s : Sp} {n u : Nat} {R : List Row} (h : SpaceAt w s n u R) (b : Below w.heap.size w w') : SpaceAt w' s n u R :=
  h.only (F := fun _ => False) (Only.of_below b) (fun _ _ h => h) id
theorem SpaceAt.mono {w : World} {s : Sp} {n u u' : Nat} {R : List Row} (h : SpaceAt w s n u R) (hu : u ≤ u') : SpaceAt w s n u' R := by
  obtain ⟨r, c, D, hd, hr, hc, hh⟩ := h.disk
  exact ⟨h.c0, h.c1, h.c2, ⟨r, c, D, hd, by omega, by omega, hh⟩, h.map, h.live.mono hu, h.good, h.ord, h.lt, h.tab, h.small⟩
theorem below_heap {B : Nat} {w w' : World} (e : w'.heap = w.heap) (e1 : w'.os = w.os) (e2 : w'.tape = w.tape) (e3 : w'.output = w.output) : Below B w w' := ⟨e1, e2, e3, by rw [e]; exact Nat.le_refl _, fun k _ => by rw [e]⟩

/-! New, Used, Len. -/
def NewPost (n : Nat) (w : World) (e : Ending) (w' : World) : Prop :=
  ∃ s : Sp, e = .returned (.tuple #[.pointer (some ⟨s.sp, 0, none⟩), .int .i64 0]) ∧ SpaceAt w' s n 0 [] ∧ w.heap.size ≤ s.lo ∧ Below w.heap.size w w'

set_option maxHeartbeats 1000000 in
theorem enew_yes (n : Nat) (w : World) (hn : n ≤ 20000) (hT : Tab w) (h0 : 0 < w.heap.size) : Calls Tryz.prog 25 #[.int .i64 n] w (NewPost n w) := by
  have hmm := @run_makeMap Tryz.prog
  have HD := Lib.hid (dnew_yes n w hn)
  have HT := Lib.hid hT
  clear hT
  go_enter Tryz.func25, Tryz.ntmps25
  go_wp2_with fail
  refine HD.out.mono ?_
  rintro e w1 ⟨rfl, d1, b1⟩
  obtain ⟨p, hp⟩ : ∃ p, w.heap.size = p := ⟨_, rfl⟩
  have HP := Lib.hid hp
  rw [hp] at d1 b1 ⊢
  have D1 := Lib.hid d1
  have B1 := Lib.hid b1
  have HB := Lib.hid (new_yes n w1 (by omega))
  clear d1 b1 hp HD
  go_wp2_with fail
  refine HB.out.mono ?_
  rintro e w2 ⟨rfl, m2, b2⟩
  obtain ⟨q, hq⟩ : ∃ q, w1.heap.size = q := ⟨_, rfl⟩
  have HQ := Lib.hid hq
  rw [hq] at m2 b2 ⊢
  have M2 := Lib.hid m2
  have B2 := Lib.hid b2
  clear m2 b2 hq HB
  go_wp2_with fail
  go_ret2
  have hp := HP.out
  have hq := HQ.out
  have d1 := D1.out
  have b1 := B1.out
  have m2 := M2.out
  have b2 := B2.out
  have hd := d1.mlt
  have hm := m2.mlt
  rw [hq] at hd
  have hb2 : Below w1.heap.size w1 w2 := by rw [hq]; exact b2
  have d2 := d1.fresh hb2
  have a1 : Below w2.heap.size w2 (w2.alloc (.map #[] 0)) := (Below.refl _ _).alloc (Nat.le_refl _) _
  obtain ⟨v, hv⟩ : ∃ v, w2.heap.size = v := ⟨_, rfl⟩
  have a2 : ∀ o, Below w2.heap.size w2 ((w2.alloc (.map #[] 0)).alloc o) := fun o => a1.alloc a1.size _
  have hlt : p ≤ w1.heap.size := by have := b1.size; omega
  refine ⟨⟨p, p + 1, q, q + 1, w2.heap.size, w2.heap.size + 1⟩, rfl, ⟨?_, ?_, ?_, ⟨0, 0, _, d2.fresh (a2 _), by omega, by omega, fun r hr => (by cases hr)⟩, m2.below (a2 _), ?_, ⟨fun r hr => (by cases hr), fun r hr => (by cases hr), List.Pairwise.nil⟩, ?_, by simp, ?_, hn⟩, by dsimp only; omega, ?_⟩
  · rw [World.cell?_alloc_at _ _ _ _ (by simp)]; rfl
  · rw [World.cell?_alloc_at _ _ _ _ (by simp)]; rfl
  · rw [World.cell?_alloc_at _ _ _ _ (by simp)]; rfl
  · exact (live_made w2).fresh ((Below.refl _ _).alloc (Nat.le_refl _) _)
  · refine ⟨?_, ?_, ?_, ?_, ?_, ?_⟩ <;> dsimp only <;> omega
  · have h3 : Below w.heap.size w w1 := by rw [hp]; exact b1
    have h4 := h3.trans (hb2.mono h3.size)
    exact HT.out.below (h4.trans ((a2 _).mono h4.size)) h0
  · have h3 : Below w.heap.size w w1 := by rw [hp]; exact b1
    have h4 := h3.trans (hb2.mono h3.size)
    have h5 := h4.trans ((a2 (.cells #[.pointer (some ⟨p + 1, 0, none⟩), .pointer (some ⟨q + 1, 0, none⟩), .map (some w2.heap.size)] 108)).mono h4.size)
    exact h5

theorem enew_no (n : Int) (w : World) (hn : n < 0 ∨ 20000 < n) : Calls Tryz.prog 25 #[.int .i64 n] w fun e w' => e = .returned (.tuple #[.pointer none, .int .i64 2]) ∧ w = w' := by
  have HD := Lib.hid (dnew_no n w hn)
  clear hn
  go_enter Tryz.func25, Tryz.ntmps25
  go_wp2_with (go_at_call 47; refine HD.out.mono ?_; rintro e w1 ⟨rfl, rfl⟩)
  go_ret2
  exact ⟨rfl, rfl⟩

theorem eused_any (s : Sp) (n u : Nat) (R : List Row) (w : World) (h : SpaceAt w s n u R) :
    Calls Tryz.prog 39 #[.pointer (some ⟨s.sp, 0, none⟩)] w fun e w' => e = .returned (.int .i64 (total R)) ∧ SpaceAt w' s n u R ∧ Below w.heap.size w w' := by
  have c1 := h.c1
  have HS := Lib.hid h
  have ht := taken_any s.bm s.bx n (tk R) w h.map
  rw [cnt_total h.good] at ht
  have HT := Lib.hid ht
  clear h ht
  go_enter Tryz.func39, Tryz.ntmps39
  go_wp2_with (go_at_call 71; refine HT.out.mono ?_; rintro e w1 ⟨rfl, d, rfl⟩)
  go_ret
  exact ⟨rfl, HS.out.fresh (below_drewN _ _ _), below_drewN _ _ _⟩

end Go.Proofs.YtccpmaahnfgkeaaGreatDoor
