/- The package's three tables in memory, and what the row says of them. -/
import Derived.Test.YtmcikjihkgplaaaDoorKBox
import Derived.Test.YtmcikjihkgplaaaDoorCards
import Derived.Test.YtmcikjihkgplaaaDoorTie
import Derived.Lib.LaidTab
import Derived.MakeChecks
import Derived.LaidMore
import Derived.Stop.Joined
import Derived.SevenTiedAt
namespace Go.Proofs.YtmcikjihkgplaaaDoor
set_option maxRecDepth 1000000
open Go.ChangeShapes Go.WideShapes Go.ChangeAt Go.RowKit

def oopL : List Int := [4, 6, 2, -1, 1, 3, 5]
def quL : List Int := [1, 2, 3, 4, 5, 6, 0, 7, 8, 9, 0, 10]
/-- The four numbers of a kind, by the kind. -/
def headL : List (Int × Int × Int × Int) := [(0, 0, 0, 0), (0, 128, 0, 0), (16, 128, 64, 0), (32, 128, 128, 0), (64, 128, 192, 0), (0, 129, 0, 0), (0, 129, 64, 0), (0, 129, 192, 0), (96, 130, 0, 0), (104, 130, 64, 0), (0, 130, 192, 0), (112, 0, 0, 0), (113, 0, 0, 0), (120, 0, 0, 0), (121, 0, 0, 0), (124, 0, 0, 0), (125, 0, 0, 0), (208, 131, 0, 132), (0, 133, 0, 134), (135, 0, 0, 0), (136, 0, 0, 0), (137, 0, 0, 0), (144, 164, 0, 0), (0, 168, 0, 0), (152, 172, 0, 0), (176, 0, 0, 0), (192, 0, 0, 0)]
def headAt (k : Nat) : Int × Int × Int × Int := headL.getD k (0, 0, 0, 0)
/-- The tables lie in memory. -/
structure Tabs (w : World) : Prop where
  oop : ∀ j, j < 7 → w.cell? ⟨0, j, none⟩ = some (.int .i64 (oopL.getD j 0))
  qu : ∀ j, j < 12 → w.cell? ⟨1, j, none⟩ = some (.int .i64 (quL.getD j 0))
  he : ∀ j, j < 27 → w.cell? ⟨2, j * 4, none⟩ = some (.int .i64 (headAt j).1) ∧ w.cell? ⟨2, j * 4 + 1, none⟩ = some (.int .i64 (headAt j).2.1) ∧ w.cell? ⟨2, j * 4 + 2, none⟩ = some (.int .i64 (headAt j).2.2.1) ∧ w.cell? ⟨2, j * 4 + 3, none⟩ = some (.int .i64 (headAt j).2.2.2)
theorem Tabs.next {w w' : World} (h : Tabs w) (hb : Below w.heap.size w w') : Tabs w' := by
  have c : ∀ (b j : Nat) (u : Value), w.cell? ⟨b, j, none⟩ = some u → w'.cell? ⟨b, j, none⟩ = some u := fun b j u hu => (hb.cell (p := ⟨b, j, none⟩) (World.block_lt_of_cell? _ _ hu)).trans hu
  exact ⟨fun j hj => c _ _ _ (h.oop j hj), fun j hj => c _ _ _ (h.qu j hj), fun j hj => ⟨c _ _ _ (h.he j hj).1, c _ _ _ (h.he j hj).2.1, c _ _ _ (h.he j hj).2.2.1, c _ _ _ (h.he j hj).2.2.2⟩⟩
theorem Tabs.three {w : World} (h : Tabs w) : 2 < w.heap.size := World.block_lt_of_cell? _ _ (h.he 0 (by decide)).1

theorem gOop : Tryd.prog.globalNamed "webster/code.oops" = some 0 := by kernel_rfl
theorem gQu : Tryd.prog.globalNamed "webster/code.quarters" = some 1 := by kernel_rfl
theorem gHe : Tryd.prog.globalNamed "webster/code.heads" = some 2 := by kernel_rfl
theorem tOop : (Tryd.prog.globals[0]?).map (·.type) = some 62 := by kernel_rfl
theorem tQu : (Tryd.prog.globals[1]?).map (·.type) = some 64 := by kernel_rfl
theorem tHe : (Tryd.prog.globals[2]?).map (·.type) = some 67 := by kernel_rfl
theorem Tryd.cells3 : Tryd.prog.cellsOf 3 = 1 := by kernel_rfl
theorem Tryd.cells62 : Tryd.prog.cellsOf 62 = 7 := by kernel_rfl
theorem Tryd.cells63 : Tryd.prog.cellsOf 63 = 4 := by kernel_rfl
theorem Tryd.cells64 : Tryd.prog.cellsOf 64 = 12 := by kernel_rfl
theorem Tryd.cells66 : Tryd.prog.cellsOf 66 = 4 := by kernel_rfl
theorem Tryd.cells67 : Tryd.prog.cellsOf 67 = 108 := by kernel_rfl
theorem Tryd.u66 : Tryd.prog.underlying 66 = some (.struct (Tryd.prog.fieldsOf 66)) := by kernel_rfl
theorem Tryd.fs66 : ((Tryd.prog.fieldsOf 66).toList.map fun f => (f.name, f.type, f.offset)) = [("one", 3, 0), ("two", 3, 1), ("second", 3, 2), ("three", 3, 3)] := by kernel_rfl
def theLaid : List (String × DataW Unit) := Rows.codeReadsRow.laid
theorem door_met (os : Os) (args : Array Value) : laidMetH Tryd.prog theLaid ((World.doorLaid Tryd.prog 400 os).forCall (fun _ _ => 0) ⟨#[], args, []⟩).memory :=
  laidMetH_of_parts3 (fuel := 8) (laidMet_of_run' 8 (by kernel_rfl) (by kernel_rfl)) (by kernel_rfl) (by kernel_rfl)

section
variable {w : World} {base : Nat} {sp : Nat → Bool} {held : Bool} {fuel : Nat} {t : TypeId} {cs : List Value} {p : List MemPlace} {enc : TypeId × Value → Unit}
theorem arr_int {n e : Nat} {zs : List Int} (ht : Tryd.prog.underlying t = some (.array n e)) (he : Tryd.prog.underlying e = some (.int .i64)) (hc : Tryd.prog.cellsOf e = 1) (hct : Tryd.prog.cellsOf t = n)
    (h : DataW.trod enc Tryd.prog w base sp held fuel t cs = some (Lib.tabData .i64 zs, p)) : cs = zs.map fun z => Value.int .i64 z := Lib.cells_of_tab ht he hc hct h
theorem arr_at {n e : Nat} {ds : List (DataW Unit)} (ht : Tryd.prog.underlying t = some (.array n e)) (h : DataW.trod enc Tryd.prog w base sp held fuel t cs = some (.agg ds, p)) (i : Nat) (d : DataW Unit) (hd : ds[i]? = some d) (hi : i < n) :
    ∃ m q, DataW.trod enc Tryd.prog w base sp held m e ((cs.drop (i * Tryd.prog.cellsOf e)).take (Tryd.prog.cellsOf e)) = some (d, q) := by
  obtain ⟨xs, m, rfl, hx, _, hl, hf⟩ := DataW.trod_array ht h
  injection hx with hx _
  injection hx with hx
  subst hx
  rw [List.getElem?_map] at hd
  obtain ⟨⟨d', q⟩, hq, rfl⟩ := Option.map_eq_some_iff.1 hd
  exact ⟨m, q, by rw [hf i hi, hq]⟩
theorem head_at {a b c d : Int} (h : DataW.trod enc Tryd.prog w base sp held fuel 66 cs = some (.agg [.lit (.int .i64 a), .lit (.int .i64 b), .lit (.int .i64 c), .lit (.int .i64 d)], p)) : cs = [.int .i64 a, .int .i64 b, .int .i64 c, .int .i64 d] := by
  obtain ⟨xs, m, rfl, hx, hl, hxl, hf⟩ := DataW.trod_struct Tryd.u66 h
  injection hx with hx _
  injection hx with hx
  have hfs := Tryd.fs66
  rw [Tryd.cells66] at hl
  match cs, hl with
  | [c0, c1, c2, c3], _ =>
    have fld : ∀ (i : Nat) (nm : String) (z : Int), ((Tryd.prog.fieldsOf 66).toList.map fun f => (f.name, f.type, f.offset))[i]? = some (nm, 3, i) → [(.lit (.int .i64 a) : DataW Unit), .lit (.int .i64 b), .lit (.int .i64 c), .lit (.int .i64 d)][i]? = some (.lit (.int .i64 z)) → ([c0, c1, c2, c3].drop i).take 1 = [.int .i64 z] := by
      intro i nm z h1 h2
      rw [List.getElem?_map] at h1
      obtain ⟨f, hf1, hf2⟩ := Option.map_eq_some_iff.1 h1
      simp only [Prod.mk.injEq] at hf2
      have h3 := hf i f (by simpa using hf1)
      rw [hf2.2.1, hf2.2.2, Tryd.cells3] at h3
      rw [hx, List.getElem?_map] at h2
      obtain ⟨⟨y, q⟩, hy, hy2⟩ := Option.map_eq_some_iff.1 h2
      rw [hy] at h3
      obtain ⟨n, hn, hn2, _⟩ := DataW.trod_int Tryd.underlying3 h3
      injection hn2 with hn2 _
      simp only at hy2
      rw [hn2] at hy2
      injection hy2 with hy2
      injection hy2 with _ hy2
      rw [hn, hy2]
    rw [hfs] at fld
    have e0 := fld 0 "one" a rfl rfl
    have e1 := fld 1 "two" b rfl rfl
    have e2 := fld 2 "second" c rfl rfl
    have e3 := fld 3 "three" d rfl rfl
    simp at e0 e1 e2 e3
    rw [e0, e1, e2, e3]
end
theorem laid_three {W : World} (h : laidMetH Tryd.prog theLaid W) : ∃ (cq co ch : Array Value) (fq fo fh : Nat) (pq po ph : List MemPlace), W.var? Tryd.prog "webster/code.quarters" = some cq ∧ W.var? Tryd.prog "webster/code.oops" = some co ∧ W.var? Tryd.prog "webster/code.heads" = some ch ∧
    DataW.trod (fun _ => ()) Tryd.prog W 0 (fun _ => true) false fq 64 cq.toList = some (Rows.laid_webster_code_quarters, pq) ∧ DataW.trod (fun _ => ()) Tryd.prog W 0 (fun _ => true) false fo 62 co.toList = some (Rows.laid_webster_code_oops, po) ∧ DataW.trod (fun _ => ()) Tryd.prog W 0 (fun _ => true) false fh 67 ch.toList = some (Rows.laid_webster_code_heads, ph) := by
  rw [MakeChecks.laidMetH_plain _ _ _ (by kernel_rfl)] at h
  obtain ⟨ps, h, _⟩ := h
  obtain ⟨g1, t1, c1, f1, p1, q1, a1, b1, d1, e1, h, _⟩ := h
  obtain ⟨g2, t2, c2, f2, p2, q2, a2, b2, d2, e2, h, _⟩ := h
  obtain ⟨g3, t3, c3, f3, p3, q3, a3, b3, d3, e3, _, _⟩ := h
  obtain rfl := Option.some.inj (gQu.symm.trans a1)
  obtain rfl := Option.some.inj (tQu.symm.trans b1)
  obtain rfl := Option.some.inj (gOop.symm.trans a2)
  obtain rfl := Option.some.inj (tOop.symm.trans b2)
  obtain rfl := Option.some.inj (gHe.symm.trans a3)
  obtain rfl := Option.some.inj (tHe.symm.trans b3)
  exact ⟨c1, c2, c3, f1, f2, f3, p1, p2, p3, d1, d2, d3, e1, e2, e3⟩
def headD (x : Int × Int × Int × Int) : DataW Unit := .agg [.lit (.int .i64 x.1), .lit (.int .i64 x.2.1), .lit (.int .i64 x.2.2.1), .lit (.int .i64 x.2.2.2)]
theorem tabs_of_laid {W : World} (h : laidMetH Tryd.prog theLaid W) : Tabs W := by
  obtain ⟨cq, co, ch, fq, fo, fh, pq, po, ph, vq, vo, vh, tq, to, th⟩ := laid_three h
  refine ⟨fun j hj => ?_, fun j hj => ?_, fun j hj => ?_⟩
  · have e := arr_int (zs := oopL) Tryd.underlying62 Tryd.underlying3 Tryd.cells3 Tryd.cells62 to
    rw [World.var?_cell gOop vo j, ← Array.getElem?_toList, e, List.getElem?_map, List.getD]
    have hl : j < oopL.length := hj
    rw [List.getElem?_eq_getElem hl]; rfl
  · have hd : ∃ d : DataW Unit, ([Lib.tabData .i64 [1, 2, 3, 4], Lib.tabData .i64 [5, 6, 0, 7], Lib.tabData .i64 [8, 9, 0, 10]] : List (DataW Unit))[j / 4]? = some d ∧ d = Lib.tabData .i64 ((quL.drop (j / 4 * 4)).take 4) := by
      have : j / 4 = 0 ∨ j / 4 = 1 ∨ j / 4 = 2 := by omega
      rcases this with e | e | e <;> rw [e] <;> exact ⟨_, rfl, rfl⟩
    obtain ⟨d, hd1, hd2⟩ := hd
    obtain ⟨m, q, e⟩ := arr_at Tryd.underlying64 (ds := [Lib.tabData .i64 [1, 2, 3, 4], Lib.tabData .i64 [5, 6, 0, 7], Lib.tabData .i64 [8, 9, 0, 10]]) tq (j / 4) d hd1 (by omega)
    rw [hd2] at e
    have e2 := arr_int Tryd.underlying63 Tryd.underlying3 Tryd.cells3 Tryd.cells63 e
    rw [Tryd.cells63] at e2
    rw [World.var?_cell gQu vq j, ← Array.getElem?_toList]
    have e3 := congrArg (·[j % 4]?) e2
    simp only [List.getElem?_take, List.getElem?_drop, List.getElem?_map] at e3
    rw [if_pos (by omega), if_pos (by omega), show j / 4 * 4 + j % 4 = j by omega] at e3
    rw [e3, List.getD]
    have hl : j < quL.length := hj
    rw [List.getElem?_eq_getElem hl]; rfl
  · have hd : (headL.map headD)[j]? = some (headD (headAt j)) := by
      have hl : j < headL.length := hj
      rw [List.getElem?_map, List.getElem?_eq_getElem hl, headAt, List.getD, List.getElem?_eq_getElem hl]; rfl
    obtain ⟨m, q, e⟩ := arr_at Tryd.underlying67 (ds := headL.map headD) th j _ hd hj
    have e2 := head_at e
    rw [Tryd.cells66] at e2
    have key : ∀ i u, i < 4 → [Value.int .i64 (headAt j).1, .int .i64 (headAt j).2.1, .int .i64 (headAt j).2.2.1, .int .i64 (headAt j).2.2.2][i]? = some u → W.cell? ⟨2, j * 4 + i, none⟩ = some u := by
      intro i u hi hu
      rw [World.var?_cell gHe vh (j * 4 + i), ← Array.getElem?_toList]
      have e3 := congrArg (·[i]?) e2
      simp only [List.getElem?_take, List.getElem?_drop] at e3
      rw [if_pos hi] at e3
      rw [e3, hu]
    exact ⟨key 0 _ (by decide) rfl, key 1 _ (by decide) rfl, key 2 _ (by decide) rfl, key 3 _ (by decide) rfl⟩
end Go.Proofs.YtmcikjihkgplaaaDoor
