/- ExtentSteps: what two regions read; Set's end, told as one. -/
import Derived.Test.YtkjpemgoiobeeaaDoorEStC
namespace Go.Proofs.YtkjpemgoiobeeaaDoor.extentSteps
set_option maxRecDepth 1000000
open Go.ChangeShapes Go.WideShapes Go.ChangeAt Go.RowKit

theorem ld_at {w : World} {p : Nat} {a b c : Int} {g o : Nat} {v : Value} (h : Box3 w p a b c) (hv : w.cell? ⟨g, o, none⟩ = some v) :
    w.cell? ⟨p, 0, none⟩ = some (.int .i64 a) ∧ w.cell? ⟨p, 1, none⟩ = some (.int .i64 b) ∧ w.cell? ⟨p, 2, none⟩ = some (.int .i64 c) ∧ w.cell? ⟨g, o, none⟩ = some v := ⟨h.1, h.2.1, h.2.2.1, hv⟩
theorem cell_kept {F : Nat → Prop} {w w' : World} (o : Only F w w') {p : Addr} {v : Value} (h : w.cell? p = some v) (hF : ¬ F p.block) : w'.cell? p = some v :=
  (o.cell (World.block_lt_of_cell? w p h) hF).trans h
theorem ld_put3 {w : World} {p10 p12 b o : Nat} {v0 v1 v2 v3 : Value} {a' b' c' : Int} (h : w.cell? ⟨p10, 0, none⟩ = some v0 ∧ w.cell? ⟨p10, 1, none⟩ = some v1 ∧ w.cell? ⟨p10, 2, none⟩ = some v2 ∧ w.cell? ⟨b, o, none⟩ = some v3) (h1 : p10 ≠ p12) (h2 : b ≠ p12) :
    (((w.setCell ⟨p12, 0, none⟩ (.int .i64 a')).setCell ⟨p12, 1, none⟩ (.int .i64 b')).setCell ⟨p12, 2, none⟩ (.int .i64 c')).cell? ⟨p10, 0, none⟩ = some v0 ∧
    (((w.setCell ⟨p12, 0, none⟩ (.int .i64 a')).setCell ⟨p12, 1, none⟩ (.int .i64 b')).setCell ⟨p12, 2, none⟩ (.int .i64 c')).cell? ⟨p10, 1, none⟩ = some v1 ∧
    (((w.setCell ⟨p12, 0, none⟩ (.int .i64 a')).setCell ⟨p12, 1, none⟩ (.int .i64 b')).setCell ⟨p12, 2, none⟩ (.int .i64 c')).cell? ⟨p10, 2, none⟩ = some v2 ∧
    (((w.setCell ⟨p12, 0, none⟩ (.int .i64 a')).setCell ⟨p12, 1, none⟩ (.int .i64 b')).setCell ⟨p12, 2, none⟩ (.int .i64 c')).cell? ⟨b, o, none⟩ = some v3 := by
  have o5 : Only (· = p12) w (((w.setCell ⟨p12, 0, none⟩ (.int .i64 a')).setCell ⟨p12, 1, none⟩ (.int .i64 b')).setCell ⟨p12, 2, none⟩ (.int .i64 c')) := put3_only (Only.refl _ w) (.inl rfl)
  obtain ⟨e0, e1, e2, e3⟩ := h
  exact ⟨cell_kept o5 e0 h1, cell_kept o5 e1 h1, cell_kept o5 e2 h1, cell_kept o5 e3 h2⟩
theorem set_end {s : Sp} {n B k u : Nat} {X : List Ext} {R : List Row} {p10 p12 p13 : Nat} {w : World} {told : Value} {w5 w6 : World} {L' : List RV} {zf zn zz t a b c : Int} {v' : Value} (hP : s.sp < p10 ∧ p10 < p12 ∧ p13 = p12 + 1 ∧ B ≤ p10) (hTB : ∀ b, told.ownBlock = some b → B ≤ b ∧ b < p10) (hw : w.heap.size ≤ B)
    (S5 : SpaceAt w5 s n u R) (HU : u ≤ k + 1) (HZR : 0 < zn → ∃ r ∈ R, ext r = ⟨zf, zn, zz⟩) (e6 : rowsOf L' = R) (T5 : OwnX B w5 told X) (X12 : Box3 w5 p12 zf zn zz) (X13 : Box3 w5 p13 a b c) (BE5 : Below w.heap.size w w5) (hB5 : B ≤ w5.heap.size) (b6 : Below w5.heap.size w5 w6)
    (R6 : RowsV (fun b => (NR s told b ∧ b < p10) ∨ w5.heap.size ≤ b) w6 v' L') (hn : n ≤ 300) :
    SwRel s n B k X p12 p13 w told v' (.int .i64 t) (.int .i64 t) (((w6.setCell ⟨p13, 0, none⟩ (.int .i64 zf)).setCell ⟨p13, 1, none⟩ (.int .i64 zn)).setCell ⟨p13, 2, none⟩ (.int .i64 zz)) := by
  subst e6
  refine sw_end hP hTB hw (S5.mono HU) T5 X12 X13 BE5 hB5 b6 R6 (fun hz => ?_)
  obtain ⟨r, hr, he⟩ := HZR hz
  have h := ext_wf S5.good (by omega) hr
  rw [← he]
  exact h
end Go.Proofs.YtkjpemgoiobeeaaDoor.extentSteps
