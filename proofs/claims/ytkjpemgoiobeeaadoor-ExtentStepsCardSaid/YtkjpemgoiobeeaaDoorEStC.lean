/- ExtentSteps: Set, both ways told as one; what holds between the program's Set and the chapter's; which row is meant. -/
import Derived.Test.YtkjpemgoiobeeaaDoorEStB
namespace Go.Proofs.YtkjpemgoiobeeaaDoor.extentSteps
set_option maxRecDepth 1000000
open Go.ChangeShapes Go.WideShapes Go.ChangeAt Go.RowKit

/-- What the program's Set tells and leaves. -/
def SetAny (s : Sp) (n u : Nat) (R : List Row) (zf zn zz t : Int) (w : World) (e : Ending) (w' : World) : Prop :=
  e = .returned (.tuple #[.agg #[.int .i64 zf, .int .i64 zn, .int .i64 zz], .int .i64 t]) ∧ SpaceAt w' s n u R ∧ Only s.F w w'
/-- What the chapter's Set tells. -/
def RSetAny (N : Nat → Prop) (R : List Row) (zf zn zz t : Int) (w : World) (e : Ending) (w' : World) : Prop :=
  ∃ v' L', e = .returned (.tuple #[v', .agg #[.int .i64 zf, .int .i64 zn, .int .i64 zz], .int .i64 t]) ∧ RowsV (fun b => N b ∨ w.heap.size ≤ b) w' v' L' ∧ rowsOf L' = R ∧ Below w.heap.size w w'

theorem set_both {N : Nat → Prop} (s : Sp) (n k : Nat) (L : List RV) (xf xn xz : Int) (rows vb : Value) (bs : List Int) (w : World) (hS : SpaceAt w s n k (rowsOf L)) (hv : Bts N w vb bs) (hN : ∀ b, N b → ¬ s.F b) (hy : Bytes bs) (hk : k ≤ 100000000000000) (hl : bs.length ≤ 140737488351232) (hn : n ≤ 300) (hx : Ext.wf ⟨xf, xn, xz⟩) :
    ∃ (u : Nat) (R : List Row) (zf zn zz t : Int), u ≤ k + 1 ∧ (0 < zn → ∃ r ∈ R, ext r = ⟨zf, zn, zz⟩) ∧
      Calls Tryd.prog 16 #[.pointer (some ⟨s.sp, 0, none⟩), .agg #[.int .i64 xf, .int .i64 xn, .int .i64 xz], vb] w (SetAny s n u R zf zn zz t w) ∧
      ∀ w', RowsV N w' rows L → Bts N w' vb bs → Calls Tryd.prog 17 #[rows, .int .i64 n, .agg #[.int .i64 xf, .int .i64 xn, .int .i64 xz], vb] w' (RSetAny N R zf zn zz t w') := by
  have hg := hS.good
  rcases set_ways s n k L xf xn xz rows vb bs w hS hv hN hy hk hl hn hx with ⟨a, hst, hrs⟩ | ⟨t, hst, hrs⟩
  · refine ⟨k + 1, without (rowsOf L) ⟨xf, xn, xz⟩ ++ [(a, bs)], a, secs bs.length, bs.length, 0, Nat.le_refl _, fun _ => ⟨(a, bs), by simp, rfl⟩, hst.mono fun _ _ h => h, fun w' hr hb => (hrs w' hr hb).mono fun _ _ ⟨v', bv, i, hi, hx, he, r6, b6⟩ => ⟨v', L.eraseIdx i ++ [((a, bs), bv)], he, r6, ?_, b6⟩⟩
    rw [← rows_less hg hi hx]
    simp [rowsOf]
  · exact ⟨k, rowsOf L, 0, 0, 0, t, Nat.le_succ k, fun h => absurd h (by decide), hst.mono fun _ _ h => h, fun w' hr hb => (hrs w' hr hb).mono fun _ _ ⟨he, b6⟩ => ⟨rows, L, he, (hr.fresh b6).kind (fun b _ h => .inl h), rfl, b6⟩⟩

/-- What holds between the program's Set and the chapter's. -/
def SetRel (s : Sp) (n B u : Nat) (R : List Row) (L : List RV) (X : List Ext) (p10 p12 p13 : Nat) (w : World) (rows told : Value) (xf xn xz zf zn zz t : Int) (s14 : Value) (wx : World) : Prop :=
  s14 = .int .i64 t ∧ SpaceAt wx s n u R ∧ RowsV (fun b => NR s told b ∧ b < p10) wx rows L ∧ OwnX B wx told X ∧ Box3 wx p12 zf zn zz ∧ Box3 wx p13 0 0 0 ∧ Box3 wx p10 xf xn xz ∧ Below w.heap.size w wx ∧ B ≤ wx.heap.size
theorem set_rel {s : Sp} {n u B : Nat} {R : List Row} {X : List Ext} {L : List RV} {p10 p12 p13 : Nat} {w w4 : World} {told rows : Value} {xf xn xz zf zn zz t : Int} (hP : s.sp < p10 ∧ p10 < p12 ∧ p13 = p12 + 1 ∧ B ≤ p10) (hTB : ∀ b, told.ownBlock = some b → B ≤ b ∧ b < p10) (hw : w.heap.size ≤ B)
    (S4 : SpaceAt w4 s n u R) (R4 : RowsV (fun b => NR s told b ∧ b < p10) w4 rows L) (T4 : OwnX B w4 told X) (X12 : Box3 w4 p12 0 0 0) (X13 : Box3 w4 p13 0 0 0) (X10 : Box3 w4 p10 xf xn xz) (BE4 : Below w.heap.size w w4) (hB4 : B ≤ w4.heap.size) :
    SetRel s n B u R L X p10 p12 p13 w rows told xf xn xz zf zn zz t (.int .i64 t) (((w4.setCell ⟨p12, 0, none⟩ (.int .i64 zf)).setCell ⟨p12, 1, none⟩ (.int .i64 zn)).setCell ⟨p12, 2, none⟩ (.int .i64 zz)) := by
  have o5 : Only (· = p12) w4 (((w4.setCell ⟨p12, 0, none⟩ (.int .i64 zf)).setCell ⟨p12, 1, none⟩ (.int .i64 zn)).setCell ⟨p12, 2, none⟩ (.int .i64 zz)) := put3_only (Only.refl _ w4) (.inl rfl)
  obtain ⟨s5, r5, t5, y13, be5, hb5⟩ := sw_set hP hTB hw S4 R4 T4 X12 X13 BE4 hB4 o5
  exact ⟨rfl, s5, r5, t5, X12.put zf zn zz, y13, X10.only o5 (by omega), be5, hb5⟩

theorem same_row {R : List Row} (hp : R.Pairwise Off) {i : Nat} (h : i < R.length) {r : Row} (hr : r ∈ R) (e : ext R[i] = ext r) : R[i] = r := by
  obtain ⟨j, hj, rfl⟩ := List.getElem_of_mem hr
  by_cases hij : i = j
  · subst hij; rfl
  · rcases Nat.lt_or_gt_of_ne hij with hl | hl
    · exact absurd e (ext_inj (List.pairwise_iff_getElem.1 hp i j h hj hl))
    · exact absurd e.symm (ext_inj (List.pairwise_iff_getElem.1 hp j i hj h hl))
theorem isX_of {R : List Row} {i : Nat} (h : i < R.length) {x : Ext} (e : ext R[i] = x) : isX R x = true := isX_iff.2 ⟨R[i], List.getElem_mem h, e⟩
end Go.Proofs.YtkjpemgoiobeeaaDoor.extentSteps
