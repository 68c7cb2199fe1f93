/- ExtentSteps: how the ways through the switch meet. -/
import Derived.Test.YtkjpemgoiobeeaaDoorEStA
import Derived.Test.YtkjpemgoiobeeaaDoorESw
namespace Go.Proofs.YtkjpemgoiobeeaaDoor.extentSteps
set_option maxRecDepth 1000000
open Go.ChangeShapes Go.WideShapes Go.ChangeAt Go.RowKit

theorem ownX_kept {B : Nat} {w w' : World} {v : Value} {xs : List Ext} {F : Nat → Prop} (h : OwnX B w v xs) (o : Only F w w') (hF : ∀ b, v.ownBlock = some b → ¬ F b) : OwnX B w' v xs :=
  ⟨h.1, h.2.imp id fun ⟨g, cap, cur, h1, h2, h3, h4⟩ => ⟨g, cap, cur, h1, h2, (o.block g (Array.getElem?_eq_some_iff.1 h3).1 (hF g (by rw [h1]; rfl))).trans h3, h4⟩⟩
/-- How the ways through the switch meet. -/
def SwRel (s : Sp) (n B k : Nat) (X : List Ext) (p12 p13 : Nat) (w : World) (told s11 s14 s15 : Value) (wx : World) : Prop :=
  ∃ (L' : List RV) (zf zn zz t : Int), s14 = .int .i64 t ∧ s15 = .int .i64 t ∧ SpaceAt wx s n (k + 1) (rowsOf L') ∧ RowsV (fun b => NR s told b ∧ b ≠ p12 ∧ b ≠ p13) wx s11 L' ∧ OwnX B wx told X ∧
    Box3 wx p12 zf zn zz ∧ Box3 wx p13 zf zn zz ∧ (0 < zn → Ext.wf ⟨zf, zn, zz⟩) ∧ Below w.heap.size w wx ∧ B ≤ wx.heap.size

theorem sw_mid {s : Sp} {B : Nat} {X : List Ext} {L : List RV} {p10 p12 p13 : Nat} {w w3 w4 : World} {told rows : Value} {a b c a' b' c' : Int} (hP : s.sp < p10 ∧ p10 < p12 ∧ p13 = p12 + 1 ∧ B ≤ p10) (hTB : ∀ b, told.ownBlock = some b → B ≤ b ∧ b < p10) (_hw : w.heap.size ≤ B) (hFw : ∀ i, i < w.heap.size → ¬ s.F i) (hFB : ∀ b, B ≤ b → ¬ s.F b)
    (R3 : RowsV (fun b => NR s told b ∧ b < p10) w3 rows L) (T3 : OwnX B w3 told X) (X12 : Box3 w3 p12 a b c) (X13 : Box3 w3 p13 a' b' c') (BE3 : Below w.heap.size w w3) (hB3 : B ≤ w3.heap.size) (o4 : Only s.F w3 w4) :
    RowsV (fun b => NR s told b ∧ b < p10) w4 rows L ∧ OwnX B w4 told X ∧ Box3 w4 p12 a b c ∧ Box3 w4 p13 a' b' c' ∧ Below w.heap.size w w4 ∧ B ≤ w4.heap.size :=
  ⟨R3.only o4 (fun b hb => hb.1.1), ownX_kept T3 o4 (fun b e => hFB b (hTB b e).1), X12.only o4 (hFB _ (by omega)), X13.only o4 (hFB _ (by omega)), BE3.trans (o4.below hFw BE3.size), Nat.le_trans hB3 o4.size⟩
theorem sw_set {s : Sp} {n u B : Nat} {R : List Row} {X : List Ext} {L : List RV} {p10 p12 p13 : Nat} {w w4 : World} {told rows : Value} {a b c a' b' c' : Int} (hP : s.sp < p10 ∧ p10 < p12 ∧ p13 = p12 + 1 ∧ B ≤ p10) (hTB : ∀ b, told.ownBlock = some b → B ≤ b ∧ b < p10) (hw : w.heap.size ≤ B)
    (S4 : SpaceAt w4 s n u R) (R4 : RowsV (fun b => NR s told b ∧ b < p10) w4 rows L) (T4 : OwnX B w4 told X) (_X12 : Box3 w4 p12 a b c) (X13 : Box3 w4 p13 a' b' c') (BE4 : Below w.heap.size w w4) (hB4 : B ≤ w4.heap.size) {w5 : World} (o : Only (· = p12) w4 w5) :
    SpaceAt w5 s n u R ∧ RowsV (fun b => NR s told b ∧ b < p10) w5 rows L ∧ OwnX B w5 told X ∧ Box3 w5 p13 a' b' c' ∧ Below w.heap.size w w5 ∧ B ≤ w5.heap.size :=
  ⟨S4.only o (fun j hj e => by have := hj.2; omega) (by omega), R4.only o (fun b hb e => by have := hb.2; omega), ownX_kept T4 o (fun b e h => by have := hTB b e; omega), X13.only o (by omega), BE4.trans (o.below (fun i hi e => by omega) BE4.size), Nat.le_trans hB4 o.size⟩
theorem sw_end {s : Sp} {n B k : Nat} {X : List Ext} {p10 p12 p13 : Nat} {w : World} {told : Value} {w5 w6 : World} {L' : List RV} {zf zn zz t a b c : Int} {v' : Value} (hP : s.sp < p10 ∧ p10 < p12 ∧ p13 = p12 + 1 ∧ B ≤ p10) (hTB : ∀ b, told.ownBlock = some b → B ≤ b ∧ b < p10) (hw : w.heap.size ≤ B)
    (S5 : SpaceAt w5 s n (k + 1) (rowsOf L')) (T5 : OwnX B w5 told X) (X12 : Box3 w5 p12 zf zn zz) (X13 : Box3 w5 p13 a b c) (BE5 : Below w.heap.size w w5) (hB5 : B ≤ w5.heap.size) (b6 : Below w5.heap.size w5 w6)
    (R6 : RowsV (fun b => (NR s told b ∧ b < p10) ∨ w5.heap.size ≤ b) w6 v' L') (hz : 0 < zn → Ext.wf ⟨zf, zn, zz⟩) :
    SwRel s n B k X p12 p13 w told v' (.int .i64 t) (.int .i64 t) (((w6.setCell ⟨p13, 0, none⟩ (.int .i64 zf)).setCell ⟨p13, 1, none⟩ (.int .i64 zn)).setCell ⟨p13, 2, none⟩ (.int .i64 zz)) := by
  have o : Only (· = p13) w6 (((w6.setCell ⟨p13, 0, none⟩ (.int .i64 zf)).setCell ⟨p13, 1, none⟩ (.int .i64 zn)).setCell ⟨p13, 2, none⟩ (.int .i64 zz)) := put3_only (Only.refl _ _) (.inl rfl)
  have hlt := X13.2.2.2.2
  have hsp := S5.lt
  refine ⟨L', zf, zn, zz, t, rfl, rfl, (S5.fresh b6).only o (fun j hj e => by have := hj.2; omega) (by omega), ?_, ownX_kept (T5.fresh b6) o (fun b e h => by have := hTB b e; omega), (X12.fresh b6).only o (by omega), (X13.fresh b6).put zf zn zz, hz, ?_, Nat.le_trans (Nat.le_trans hB5 b6.size) o.size⟩
  · refine (R6.kind (M := fun b => NR s told b ∧ b ≠ p12 ∧ b ≠ p13) (fun b _ h => ?_)).only o (fun b hb e => hb.2.2 e)
    rcases h with h | h
    · exact ⟨h.1, by omega, by omega⟩
    · exact ⟨⟨fun hf => by have := hf.2; omega, fun e => by have := hTB b e; omega⟩, by omega, by omega⟩
  · have b7 := BE5.trans (b6.mono BE5.size)
    exact b7.trans (o.below (fun i hi e => by omega) b7.size)

theorem sw_zero {s : Sp} {n B k : Nat} {X : List Ext} {p10 p12 p13 : Nat} {w : World} {told : Value} {w5 w6 : World} {L' : List RV} {t : Int} {v' : Value} (hP : s.sp < p10 ∧ p10 < p12 ∧ p13 = p12 + 1 ∧ B ≤ p10) (hTB : ∀ b, told.ownBlock = some b → B ≤ b ∧ b < p10) (_hw : w.heap.size ≤ B)
    (S5 : SpaceAt w5 s n (k + 1) (rowsOf L')) (T5 : OwnX B w5 told X) (X12 : Box3 w5 p12 0 0 0) (X13 : Box3 w5 p13 0 0 0) (BE5 : Below w.heap.size w w5) (hB5 : B ≤ w5.heap.size) (b6 : Below w5.heap.size w5 w6)
    (R6 : RowsV (fun b => (NR s told b ∧ b < p10) ∨ w5.heap.size ≤ b) w6 v' L') :
    SwRel s n B k X p12 p13 w told v' (.int .i64 t) (.int .i64 t) w6 := by
  have hlt := X13.2.2.2.2
  have hsp := S5.lt
  refine ⟨L', 0, 0, 0, t, rfl, rfl, S5.fresh b6, ?_, T5.fresh b6, X12.fresh b6, X13.fresh b6, fun h => absurd h (by decide), BE5.trans (b6.mono BE5.size), Nat.le_trans hB5 b6.size⟩
  refine R6.kind (fun b _ h => ?_)
  rcases h with h | h
  · exact ⟨h.1, by omega, by omega⟩
  · exact ⟨⟨fun hf => by have := hf.2; omega, fun e => by have := hTB b e; omega⟩, by omega, by omega⟩

theorem set_ways {N : Nat → Prop} (s : Sp) (n k : Nat) (L : List RV) (xf xn xz : Int) (rows vb : Value) (bs : List Int) (w : World) (hS : SpaceAt w s n k (rowsOf L)) (hv : Bts N w vb bs) (hN : ∀ b, N b → ¬ s.F b) (hy : Bytes bs) (hk : k ≤ 100000000000000) (hl : bs.length ≤ 140737488351232) (hn : n ≤ 300) (hx : Ext.wf ⟨xf, xn, xz⟩) :
    (∃ a : Nat, Calls Tryd.prog 16 #[.pointer (some ⟨s.sp, 0, none⟩), .agg #[.int .i64 xf, .int .i64 xn, .int .i64 xz], vb] w (SetPost s n k (without (rowsOf L) ⟨xf, xn, xz⟩) a bs w) ∧
      ∀ w', RowsV N w' rows L → Bts N w' vb bs → Calls Tryd.prog 17 #[rows, .int .i64 n, .agg #[.int .i64 xf, .int .i64 xn, .int .i64 xz], vb] w' (RSet N L ⟨xf, xn, xz⟩ a bs w')) ∨
    ∃ t : Int, Calls Tryd.prog 16 #[.pointer (some ⟨s.sp, 0, none⟩), .agg #[.int .i64 xf, .int .i64 xn, .int .i64 xz], vb] w (FullPost s n k (rowsOf L) t w) ∧
      ∀ w', RowsV N w' rows L → Bts N w' vb bs → Calls Tryd.prog 17 #[rows, .int .i64 n, .agg #[.int .i64 xf, .int .i64 xn, .int .i64 xz], vb] w' (RPutNo rows t w') := by
  have hg := hS.good
  have hfew := rows_few hg (by omega)
  have hrr := rows_room hg (by omega)
  cases hX : isX (rowsOf L) ⟨xf, xn, xz⟩
  · exact .inr ⟨4, set_none s n k _ xf xn xz vb bs w hS hv hx hX, fun w' hr hb => refset_none rows L n xf xn xz vb bs w' hr hb hfew hX⟩
  · obtain ⟨r, hr, he⟩ := live_row hX
    obtain ⟨a, ok, hR⟩ := extentSet.room_ex n (rowsOf L) r (secs bs.length)
    have hsa := set_any s n k _ r a ok vb bs w hS hr hv hN hy hk (by omega) hR
    have hroom := hg.room r hr
    have hse := secs_le bs.length
    have he' : ext r = ⟨xf, xn, xz⟩ := he.symm
    rw [he'] at hsa
    injection he with h1 h2 h3
    rw [← h1, ← h2, ← h3] at hsa
    rcases hR with ⟨p1, p2, p3⟩ | ⟨p1, p2⟩
    · subst p3
      rw [if_pos rfl] at hsa
      refine .inl ⟨a, hsa, fun w' hrv hb => ?_⟩
      have e1 : xf = (a : Int) := by rw [h1, p2]
      have e2 : xn = (secs bs.length : Nat) := by rw [h2, p1]
      rw [e1, e2] at hX ⊢
      exact refset_same rows L n a xz vb bs w' hrv hb hfew (by omega) hX
    · have hm : ((secs bs.length : Nat) : Int) ≠ xn := by rw [h2]; omega
      rw [he'] at p2
      have hE : ∀ i (h : i < (rowsOf L).length), ext (rowsOf L)[i] = ⟨xf, xn, xz⟩ → FirstIs (tk (rowsOf (L.eraseIdx i))) n (secs bs.length) a ok := fun i h hi => by rw [rows_less hg h hi]; exact p2
      cases ok
      · rw [if_neg (by decide)] at hsa
        exact .inr ⟨3, hsa, fun w' hrv hb => refset_full rows L n xf xn xz a vb bs w' hrv hb hfew (by omega) (by omega) hrr hX hm hE⟩
      · rw [if_pos rfl] at hsa
        have hq : a + secs bs.length ≤ n := by
          rcases p2 with ⟨_, h, _⟩ | ⟨h, _⟩
          · exact h
          · cases h
        exact .inl ⟨a, hsa, fun w' hrv hb => refset_move rows L n xf xn xz a vb bs w' hrv hb hfew (by omega) (by omega) hrr hX hm hE⟩
end Go.Proofs.YtkjpemgoiobeeaaDoor.extentSteps
