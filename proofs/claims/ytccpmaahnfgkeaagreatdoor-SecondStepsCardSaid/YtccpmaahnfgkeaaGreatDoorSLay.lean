/- What the rows' condition on math/bits' table gives; that the program's own start meets it; how arguments that are objects, rows of objects, numbers or things to do are read; what the chapter's function Sectors tells. -/
import Derived.Test.YtccpmaahnfgkeaaGreatDoorSMa
import Derived.Test.YtccpmaahnfgkeaaGreatDoorTie
import Derived.Test.YtccpmaahnfgkeaaGreatDoorCards
import Derived.LaidMore
import Derived.Stop.Joined
import Derived.Lib.LaidTab
import Derived.SevenTiedAt
namespace Go.Proofs.YtccpmaahnfgkeaaGreatDoor
set_option maxRecDepth 1000000
open Go.ChangeShapes Go.WideShapes Go.ChangeAt Go.RowKit
open Wd (Ob okO encO refsO ObjAt In64 I64)

/-- The table's name, as the rows have it. -/
def tabName : String := Rows.secondStepsRow.named.headD ""
theorem gTab : Tryz.prog.globalNamed tabName = some 0 := by kernel_rfl
theorem tTab : (Tryz.prog.globals[0]?).map (·.type) = some 170 := by kernel_rfl
theorem Tryz.cells170 : Tryz.prog.cellsOf 170 = 64 := by kernel_rfl
def theLaid : List (String × DataW Unit) := Rows.secondStepsRow.laid

theorem door_met (os : Os) (args : Array Value) : laidMetH Tryz.prog theLaid ((World.doorLaid Tryz.prog 400 os).forCall (fun _ _ => 0) ⟨#[], args, []⟩).memory :=
  laidMetH_of_parts3 (fuel := 8) (laidMet_of_run' 8 (by kernel_rfl) (by kernel_rfl)) (by kernel_rfl) (by kernel_rfl)

theorem tab_of_laid {W : World} (h : laidMetH Tryz.prog theLaid W) : Tab W ∧ 0 < W.heap.size := by
  rw [MakeChecks.laidMetH_plain _ _ _ (by kernel_rfl)] at h
  have h1 : Lib.TabIs Tryz.prog W tabName .u8 (Lib.deBruijn64tab.map fun n : Nat => (n : Int)) :=
    Lib.tabIs_of_head (rest := []) (n := 64) gTab tTab Tryz.underlying170 Tryz.underlying5 Tryz.cells5 Tryz.cells170 h
  have h2 : Tab W := fun j hj => by
    have := h1.cell gTab j (by simpa [Lib.deBruijn64tab] using hj)
    rw [this]
    simp only [List.getD, List.getElem?_map]
    cases e : Lib.deBruijn64tab[j]? <;> simp
  exact ⟨h2, World.block_lt_of_cell? _ _ (h2 0 (by decide))⟩

theorem far_of {o : Ob} (h : o.w.length ≤ maxLen ∧ o.b.length ≤ maxLen) : o.w.length ≤ 9223372036854775807 ∧ o.b.length ≤ 9223372036854775807 := h

/-! Objects in a row: four cells each. -/
/-- The four cells at p read as the object o. -/
def ObjCells (w : World) (b p : Nat) (o : Ob) : Prop :=
  ∃ wv bv, w.cell? ⟨b, p, none⟩ = some (.int .i64 o.c) ∧ w.cell? ⟨b, p + 1, none⟩ = some (.int .i64 o.k) ∧ w.cell? ⟨b, p + 2, none⟩ = some wv ∧ w.cell? ⟨b, p + 3, none⟩ = some bv ∧
    ObjAt w (.agg #[.int .i64 o.c, .int .i64 o.k, wv, bv]) o ∧ o.w.length ≤ maxLen ∧ o.b.length ≤ maxLen
theorem ints_field {H : Type} {enc : TypeId × Value → H} {W : World} {fuel : Nat} {cs : List Value} {x : DataW H × List MemPlace} {j : Nat} (hl : j < cs.length)
    (h : DataW.trod enc Tryz.prog W 0 (fun _ => true) true fuel 23 ((cs.drop j).take (Tryz.prog.cellsOf 23)) = some x) : ∃ v xs, cs[j]? = some v ∧ Wd.RowI W v xs ∧ xs.length ≤ maxLen := by
  have e : Tryz.prog.cellsOf 23 = 1 := by kernel_rfl
  rw [e, List.drop_eq_getElem_cons hl, List.take_succ_cons, List.take_zero] at h
  obtain ⟨xs, h1, h2⟩ := Wd.rowI_of h
  exact ⟨_, xs, List.getElem?_eq_getElem hl, h1, h2⟩
theorem bytes_field4 {H : Type} {enc : TypeId × Value → H} {W : World} {fuel : Nat} {cs : List Value} {x : DataW H × List MemPlace} {j : Nat} (hl : j < cs.length)
    (h : DataW.trod enc Tryz.prog W 0 (fun _ => true) true fuel 33 ((cs.drop j).take (Tryz.prog.cellsOf 33)) = some x) : ∃ v xs, cs[j]? = some v ∧ Wd.RowB W v xs ∧ xs.length ≤ maxLen := by
  rw [Tryz.cells33, List.drop_eq_getElem_cons hl, List.take_succ_cons, List.take_zero] at h
  obtain ⟨xs, h1, h2⟩ := Wd.rowB_of h
  exact ⟨_, xs, List.getElem?_eq_getElem hl, h1, h2⟩
theorem wf_in {n : Int} (h : (Lit.int .i64 n).wf = true) : In64 n := wf_i64 h
/-- What four cells that read as an object are. -/
theorem obj_of_trod {H : Type} {enc : TypeId × Value → H} {W : World} {fuel : Nat} {cs : List Value} {x : DataW H × List MemPlace} (hcl : 4 ≤ cs.length)
    (ht : DataW.trod enc Tryz.prog W 0 (fun _ => true) true fuel 35 (cs.take 4) = some x) :
    ∃ (o : Ob) (wv bv : Value), cs[0]? = some (.int .i64 o.c) ∧ cs[1]? = some (.int .i64 o.k) ∧ cs[2]? = some wv ∧ cs[3]? = some bv ∧ ObjAt W (.agg #[.int .i64 o.c, .int .i64 o.k, wv, bv]) o ∧ o.w.length ≤ maxLen ∧ o.b.length ≤ maxLen := by
  obtain ⟨xs, n', _, _, _, hxl, hfs⟩ := DataW.trod_struct Tryz.underlying35 ht
  have hxl4 : xs.length = 4 := hxl
  have g0 := hfs 0 _ rfl
  have g1 := hfs 1 _ rfl
  have g2 := hfs 2 _ rfl
  have g3 := hfs 3 _ rfl
  rw [List.getElem?_eq_getElem (by omega)] at g0 g1 g2 g3
  have hl4 : (cs.take 4).length = 4 := by rw [List.length_take]; omega
  obtain ⟨c, c1, c2⟩ := int_field (j := 0) (by omega) g0
  obtain ⟨k, k1, k2⟩ := int_field (j := 1) (by omega) g1
  obtain ⟨wv, ws, n1, n2, n3⟩ := ints_field (j := 2) (by omega) g2
  obtain ⟨bv, bs, m1, m2, m3⟩ := bytes_field4 (j := 3) (by omega) g3
  rw [List.getElem?_take_of_lt (by omega)] at c1 k1 n1 m1
  exact ⟨⟨c, k, ws, bs⟩, wv, bv, c1, k1, n1, m1, ⟨wv, bv, rfl, n2, m2, wf_in c2, wf_in k2⟩, n3, m3⟩

/-- The slice value v has objects, as the list os tells. -/
def Objs (w : World) (v : Value) (os : List Ob) : Prop :=
  ∃ a c, v = .slice a os.length c ∧ os.length ≤ maxLen ∧ (os = [] ∨ ∃ b off, a = some ⟨b, off, none⟩ ∧ ∀ i (hi : i < os.length), ObjCells w b (off + i * 4) os[i])
theorem Objs.at_ {w : World} {v : Value} {os : List Ob} {k : Nat} (h : Objs w v os) (hk : k < os.length) :
    ∃ b off c, v = .slice (some ⟨b, off, none⟩) os.length c ∧ ∃ a1 c1 a2 c2, (∀ w', Below w.heap.size w w' → w'.cell? ⟨b, off + k * 4, none⟩ = some (.int .i64 os[k].c) ∧ w'.cell? ⟨b, off + k * 4 + 1, none⟩ = some (.int .i64 os[k].k) ∧
      w'.cell? ⟨b, off + k * 4 + 2, none⟩ = some (.slice a1 os[k].w.length c1) ∧ w'.cell? ⟨b, off + k * 4 + 3, none⟩ = some (.slice a2 os[k].b.length c2) ∧
      ObjAt w' (.agg #[.int .i64 os[k].c, .int .i64 os[k].k, .slice a1 os[k].w.length c1, .slice a2 os[k].b.length c2]) os[k]) ∧ os[k].w.length ≤ maxLen ∧ os[k].b.length ≤ maxLen := by
  obtain ⟨a, c, rfl, _, h⟩ := h
  obtain ⟨b, off, rfl, h'⟩ := h.resolve_left (fun e => by subst e; simp at hk)
  obtain ⟨wv, bv, c0, c1, c2, c3, ho, h1, h2⟩ := h' k hk
  have hl : b < w.heap.size := World.block_lt_of_cell? _ _ c0
  have ho2 := ho
  obtain ⟨_, _, e, ⟨_, _, a1, d1, e1, _⟩, ⟨_, _, a2, d2, e2, _⟩, _⟩ := ho2
  simp only [Value.agg.injEq, Array.mk.injEq, List.cons.injEq, true_and, and_true] at e
  obtain ⟨e3, e4⟩ := e
  subst e1 e2 e3 e4
  exact ⟨b, off, c, rfl, a1, d1, a2, d2, fun w' hb => ⟨(hb.cell (p := ⟨b, _, none⟩) hl).trans c0, (hb.cell (p := ⟨b, _, none⟩) hl).trans c1, (hb.cell (p := ⟨b, _, none⟩) hl).trans c2, (hb.cell (p := ⟨b, _, none⟩) hl).trans c3, ho.kept hb⟩, h1, h2⟩

/-- The chapter's function. -/
theorem refsec_any (k : Nat) (w : World) (h : k ≤ 1000000000000000000) :
    Calls Tryz.prog 58 #[.int .i64 k] w fun e w' => e = .returned (.int .i64 (secs k)) ∧ w = w' := by
  go_enter Tryz.func58, Tryz.ntmps58
  go_wp2
  go_loop [3] (fun i => ∃ j : Nat, 1 ≤ j ∧ j ≤ secs k ∧ i = .int .i64 j) (fun i => secs k - (RowKit.intOf i).toNat)
  case atStart => exact ⟨1, by omega, secs_pos k, rfl⟩
  case round =>
    obtain ⟨j, h1, h2, rfl⟩ := hrel
    have hs : secs k ≤ 15625000000000001 := by unfold secs; omega
    by_cases hlt : j * 64 < k
    · have hlt' : (j : Int) * 64 < k := by omega
      have h3 : j < secs k := by unfold secs; omega
      go_wp2
      go_round
      case rel => exact ⟨j + 1, by omega, by omega, by go_num⟩
      case measure => simp [RowKit.intOf]; omega
    · have hlt' : ¬ (j : Int) * 64 < k := by omega
      have h3 : j = secs k := by unfold secs at h2 ⊢; omega
      go_wp2
      go_ret
      exact ⟨rfl, rfl⟩
end Go.Proofs.YtccpmaahnfgkeaaGreatDoor
