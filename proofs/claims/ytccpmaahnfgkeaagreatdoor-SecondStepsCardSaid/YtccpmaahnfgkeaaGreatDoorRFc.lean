/- The chapter's Set of layer 4; rows less one. -/
import Derived.Test.YtccpmaahnfgkeaaGreatDoorRFb
namespace Go.Proofs.YtccpmaahnfgkeaaGreatDoor.R4
set_option maxRecDepth 1000000
open Go.ChangeShapes Go.WideShapes Go.ChangeAt Go.RowKit

set_option maxHeartbeats 2000000 in
theorem refset_none {N : Nat → Prop} (v : Value) (L : List RV) (n f q z : Int) (vb : Value) (xs : List Int) (w : World) (h : RowsV N w v L) (hv : Bts N w vb xs) (hl : L.length ≤ 1000000) (hX : isX (rowsOf L) ⟨f, q, z⟩ = false) :
    Calls Tryz.prog 37 #[v, .int .i64 n, .agg #[.int .i64 f, .int .i64 q, .int .i64 z], vb] w (RPutNo v 4 w) := by
  have BW : Below w.heap.size w ((w.alloc (.cells #[.int .i64 f, .int .i64 q, .int .i64 z] 47)).alloc (.cells #[.int .i64 0, .int .i64 0, .int .i64 0] 47)) := ((Below.refl _ _).alloc (Nat.le_refl _) _).alloc (by simp) _
  have HF : Hid (Calls Tryz.prog 69 #[v, .agg #[.int .i64 f, .int .i64 q, .int .i64 z]] ((w.alloc (.cells #[.int .i64 f, .int .i64 q, .int .i64 z] 47)).alloc (.cells #[.int .i64 0, .int .i64 0, .int .i64 0] 47)) fun e w' => e = .returned (.int .i64 (-1)) ∧ Below ((w.alloc (.cells #[.int .i64 f, .int .i64 q, .int .i64 z] 47)).alloc (.cells #[.int .i64 0, .int .i64 0, .int .i64 0] 47)).heap.size _ w') :=
    (find_any v L f q z _ (h.fresh BW) hl).mono fun e w' ⟨k, he, hk, hb⟩ => by
      rcases hk with ⟨rfl, _⟩ | ⟨i, rfl, hi, hx⟩
      · exact ⟨he, hb⟩
      · rw [isX_iff.2 ⟨_, List.getElem_mem hi, hx⟩] at hX; cases hX
  have X9 := box3_new (w.alloc (.cells #[.int .i64 f, .int .i64 q, .int .i64 z] 47)) 0 0 0 47
  rw [World.size_alloc] at X9
  have HX := Lib.hid X9
  have HB := Lib.hid BW
  obtain ⟨a1, c1, rfl⟩ := h.form
  obtain ⟨a2, c2, rfl, _⟩ := hv.form
  obtain ⟨p9, hp9⟩ : ∃ p, w.heap.size + 1 = p := ⟨_, rfl⟩
  have HP := Lib.hid hp9
  rw [hp9] at HX
  clear h hv BW hX X9
  go_enter Tryz.func37, Tryz.ntmps37
  go_wp2_with fail
  (try rw [hp9])
  clear hp9
  generalize (w.alloc (.cells #[.int .i64 f, .int .i64 q, .int .i64 z] 47)).alloc (.cells #[.int .i64 0, .int .i64 0, .int .i64 0] 47) = w0 at HX HB HF ⊢
  refine HF.out.mono ?_
  rintro e w1 ⟨rfl, b1⟩
  have x7 := HX.out.fresh b1
  have X7 := Lib.hid x7
  have B1 : Hid (Below w.heap.size w w1) := HB.out.trans (b1.mono HB.out.size)
  obtain ⟨y1, y2, y3, yf, _⟩ := x7
  have yf0 := yf 0
  have yf1 := yf 1
  have yf2 := yf 2
  clear b1 yf
  go_wp2_with fail
  have hb6 := X7.out.put 0 0 0
  have ho6 : Only (· = p9) w1 (((w1.setCell ⟨p9, 0, none⟩ (.int .i64 0)).setCell ⟨p9, 1, none⟩ (.int .i64 0)).setCell ⟨p9, 2, none⟩ (.int .i64 0)) := put3_only (Only.refl _ _) (.inl rfl)
  generalize ((w1.setCell ⟨p9, 0, none⟩ (.int .i64 0)).setCell ⟨p9, 1, none⟩ (.int .i64 0)).setCell ⟨p9, 2, none⟩ (.int .i64 0) = w3 at hb6 ho6 ⊢
  (try simp only [Exit.inBlock, Exit.then])
  have hp := HP.out
  refine bodyPost_ret (res_3 rfl rfl hb6) rfl ⟨rfl, B1.out.trans (ho6.below (fun i hi e => by omega) B1.out.size)⟩

/-- Free of one extent. -/
def RSet (N : Nat → Prop) (L : List RV) (x : Ext) (a : Nat) (xs : List Int) (w : World) (e : Ending) (w' : World) : Prop :=
  ∃ v' bv i, ∃ h : i < (rowsOf L).length, ext (rowsOf L)[i] = x ∧ e = .returned (.tuple #[v', .agg #[.int .i64 a, .int .i64 (secs xs.length), .int .i64 xs.length], .int .i64 0]) ∧
    RowsV (fun b => N b ∨ w.heap.size ≤ b) w' v' (L.eraseIdx i ++ [((a, xs), bv)]) ∧ Below w.heap.size w w'

set_option maxHeartbeats 4000000 in
theorem refset_same {N : Nat → Prop} (v : Value) (L : List RV) (n : Int) (a : Nat) (z : Int) (vb : Value) (xs : List Int) (w : World) (h : RowsV N w v L) (hv : Bts N w vb xs) (hl : L.length ≤ 1000000) (hx : xs.length ≤ 1000000)
    (hX : isX (rowsOf L) ⟨a, secs xs.length, z⟩ = true) :
    Calls Tryz.prog 37 #[v, .int .i64 n, .agg #[.int .i64 a, .int .i64 (secs xs.length), .int .i64 z], vb] w (RSet N L ⟨a, secs xs.length, z⟩ a xs w) := by
  obtain ⟨q, hq⟩ : ∃ q, secs xs.length = q := ⟨_, rfl⟩
  have HQQ := Lib.hid hq
  have hs2 : q ≤ 1000000 := by rw [← hq]; unfold secs; omega
  have HQ := Lib.hid (fun w' => refsec_any xs.length w' (by omega))
  rw [hq] at HQ hX
  rw [hq]
  have BW : Below w.heap.size w ((w.alloc (.cells #[.int .i64 a, .int .i64 q, .int .i64 z] 47)).alloc (.cells #[.int .i64 0, .int .i64 0, .int .i64 0] 47)) := ((Below.refl _ _).alloc (Nat.le_refl _) _).alloc (by simp) _
  have HF : Hid (Calls Tryz.prog 69 #[v, .agg #[.int .i64 a, .int .i64 q, .int .i64 z]] ((w.alloc (.cells #[.int .i64 a, .int .i64 q, .int .i64 z] 47)).alloc (.cells #[.int .i64 0, .int .i64 0, .int .i64 0] 47)) fun e w' => ∃ i : Nat, e = .returned (.int .i64 i) ∧ (∃ h : i < (rowsOf L).length, ext (rowsOf L)[i] = ⟨a, q, z⟩) ∧ Below ((w.alloc (.cells #[.int .i64 a, .int .i64 q, .int .i64 z] 47)).alloc (.cells #[.int .i64 0, .int .i64 0, .int .i64 0] 47)).heap.size _ w') :=
    (find_any v L a q z _ (h.fresh BW) hl).mono fun e w' ⟨k, he, hk, hb⟩ => by
      rcases hk with ⟨_, h1⟩ | ⟨i, rfl, hi⟩
      · rw [hX] at h1; cases h1
      · exact ⟨i, he, hi, hb⟩
  have X6 := (box3_new w a q z 47).fresh ((Below.refl _ _).alloc (Nat.le_refl _) (.cells #[.int .i64 0, .int .i64 0, .int .i64 0] 47))
  have X9 := box3_new (w.alloc (.cells #[.int .i64 a, .int .i64 q, .int .i64 z] 47)) 0 0 0 47
  rw [World.size_alloc] at X9
  have HX6 := Lib.hid X6
  have HX := Lib.hid X9
  have HB := Lib.hid BW
  have HV := Lib.hid (h.kind (M := fun b => N b ∧ b < w.heap.size) (fun b hb hN => ⟨hN, hb⟩))
  have HVB := Lib.hid hv
  obtain ⟨a1, c1, rfl⟩ := h.form
  obtain ⟨a2, c2, rfl, _⟩ := hv.form
  obtain ⟨p6, hp6⟩ : ∃ p, w.heap.size = p := ⟨_, rfl⟩
  obtain ⟨p9, hp9⟩ : ∃ p, p6 + 1 = p := ⟨_, rfl⟩
  have HP := Lib.hid (And.intro hp6 hp9)
  rw [hp6] at HX HX6
  rw [hp9] at HX
  obtain ⟨u1, u2, u3, _, _⟩ := HX6.out
  clear h hv BW hX X9 X6 hq
  go_enter Tryz.func37, Tryz.ntmps37
  go_wp2_with fail
  (try rw [hp9])
  clear hp9 hp6 u1 u2 u3
  generalize (w.alloc (.cells #[.int .i64 a, .int .i64 q, .int .i64 z] 47)).alloc (.cells #[.int .i64 0, .int .i64 0, .int .i64 0] 47) = w0 at HX HX6 HB HF ⊢
  refine HF.out.mono ?_
  rintro e w1 ⟨i, rfl, hi, b1⟩
  have HI := Lib.hid hi
  have hil : i < L.length := by obtain ⟨h, _⟩ := hi; simpa [rowsOf] using h
  have B1 : Below w.heap.size w w1 := HB.out.trans (b1.mono HB.out.size)
  have HB1 := Lib.hid B1
  have HX9 := Lib.hid (HX.out.fresh b1)
  have HX6 := Lib.hid (HX6.out.fresh b1)
  have HWO := Lib.hid (without_any _ L i w1 (HV.out.fresh B1) hl (by omega))
  clear b1 hi B1
  go_wp2_with fail
  refine HWO.out.mono ?_
  rintro e w2 ⟨v2, rfl, ho2, b2⟩
  have x6 := HX6.out.fresh b2
  have HX6 := Lib.hid x6
  have hp9lt := HX9.out.2.2.2.2
  have HX9 := Lib.hid (HX9.out.fresh b2)
  have HB2 : Hid (Below w.heap.size w w2) := HB1.out.trans (b2.mono HB1.out.size)
  obtain ⟨B, hBe⟩ : ∃ B, w1.heap.size = B := ⟨_, rfl⟩
  rw [hBe] at ho2
  have HBB : Hid (w.heap.size < B ∧ p9 < B ∧ B ≤ w2.heap.size) := ⟨by have := HP.out; omega, by omega, by rw [← hBe]; exact b2.size⟩
  have HO2 := Lib.hid ho2
  obtain ⟨y1, y2, y3, _, _⟩ := x6
  have HQ2 : Hid (∀ w', Calls Tryz.prog 58 #[.int .i64 xs.length] w' fun e w'' => e = .returned (.int .i64 q) ∧ ∃ d, w'' = w'.drewN d) := fun w' => (HQ.out w').mono fun _ _ ⟨he, hw⟩ => ⟨he, 0, hw.symm⟩
  clear ho2 b2 hBe hp9lt
  go_wp2_with fail
  go_quiet (first | (go_at_call 58; exact Calls.quiet_of (HQ2.out _)))
  have hbd : Below w2.heap.size w2 (w2.drewN nq) := below_drewN _ _ _
  have x6 := HX6.out.fresh hbd
  have HX9 := Lib.hid (HX9.out.fresh hbd)
  have HB3 : Hid (Below w.heap.size w (w2.drewN nq)) := HB2.out.trans (hbd.mono HB2.out.size)
  have HO3 : Hid (OwnR (fun b => (N b ∧ b < w.heap.size) ∧ b < B) B (w2.drewN nq) v2 (L.eraseIdx i)) := ⟨HO2.out.1, fun p hp => (HO2.out.2 p hp).heap rfl⟩
  have HBB : Hid (w.heap.size < B ∧ p9 < B ∧ B ≤ (w2.drewN nq).heap.size) := HBB.out
  obtain ⟨y1, y2, y3, _, _⟩ := x6
  clear hbd
  generalize w2.drewN nq = w3 at y1 y2 y3 HX9 HB3 HO3 HBB ⊢
  have hba : Below w3.heap.size w3 (w3.alloc (.cells #[.int .i64 a, .int .i64 q, .int .i64 xs.length] 47)) := (Below.refl _ _).alloc (Nat.le_refl _) _
  have X13 := box3_new w3 a q xs.length 47
  have HX9 := Lib.hid (HX9.out.fresh hba)
  have HB4 := Lib.hid (HB3.out.trans (hba.mono HB3.out.size))
  have hown4 : OwnR (fun b => (N b ∧ b < w.heap.size) ∧ b < B) B (w3.alloc (.cells #[.int .i64 a, .int .i64 q, .int .i64 xs.length] 47)) v2 (L.eraseIdx i) :=
    ⟨⟨HO3.out.1.1, HO3.out.1.2.imp id fun ⟨g, cap, cur, e1, e2, e3, e4⟩ => ⟨g, cap, cur, e1, e2, (hba.block g (Array.getElem?_eq_some_iff.1 e3).1).trans e3, e4⟩⟩, fun p hp => (HO3.out.2 p hp).only (Only.of_below (F := fun _ => False) hba) (fun _ _ h => h)⟩
  have hsz4 : B ≤ (w3.alloc (.cells #[.int .i64 a, .int .i64 q, .int .i64 xs.length] 47)).heap.size := by have := HBB.out.2.2; simp; omega
  have hlE : (L.eraseIdx i).length ≤ 1000000 := by have := List.length_eraseIdx_le L i; omega
  obtain ⟨p13, hp13⟩ : ∃ p, w3.heap.size = p := ⟨_, rfl⟩
  have HP13 : Hid (B ≤ p13) := by have := HBB.out.2.2; show B ≤ p13; omega
  rw [hp13] at X13
  have HPR := Lib.hid (fun w5 v5 ho hb => put_row_at _ _ v2 _ hown4 (fun b hb => hb.2) hsz4 (a, xs) hlE w5 v5 ho hb)
  have HOB : Hid (∀ b, v2.ownBlock = some b → B ≤ b ∧ b < p13) := fun b e => by
    have := HO3.out.1.lt b e
    exact ⟨this.1, by omega⟩
  obtain ⟨x1, x2, x3, _, _⟩ := X13
  clear hown4 hsz4 hba
  go_wp2_with fail
  (try rw [hp13])
  clear hp13
  generalize w3.alloc (.cells #[.int .i64 a, .int .i64 q, .int .i64 xs.length] 47) = w4 at x1 x2 x3 HX9 HB4 HPR ⊢
  have HVB4 : Hid (Bts N w4.drew (.slice a2 xs.length c2) xs) := (HVB.out.only (Only.of_below (F := fun _ => False) HB4.out) (fun _ _ h => h)).heap rfl
  have HCP := Lib.hid (copy_any (.slice a2 xs.length c2) xs w4.drew HVB4.out hx)
  have HK : Hid (∀ (w5 w6 : World), Only (fun b => v2.ownBlock = some b) w5 w6 → (w5.cell? ⟨p13, 0, none⟩ = some (.int .i64 a) ∧ w5.cell? ⟨p13, 1, none⟩ = some (.int .i64 q) ∧ w5.cell? ⟨p13, 2, none⟩ = some (.int .i64 xs.length)) →
      (w6.cell? ⟨p13, 0, none⟩ = some (.int .i64 a) ∧ w6.cell? ⟨p13, 1, none⟩ = some (.int .i64 q) ∧ w6.cell? ⟨p13, 2, none⟩ = some (.int .i64 xs.length))) := fun w5 w6 o ⟨h2, h3, h4⟩ => by
    have e2 : ∀ (j : Nat) (v : Value), w5.cell? ⟨p13, j, none⟩ = some v → w6.cell? ⟨p13, j, none⟩ = some v := fun j v hv => (o.cell (p := ⟨p13, j, none⟩) (World.block_lt_of_cell? _ _ hv) (fun e => by have := HOB.out p13 e; omega)).trans hv
    exact ⟨e2 _ _ h2, e2 _ _ h3, e2 _ _ h4⟩
  have HKB : Hid (∀ (w5 w6 : World), Below w5.heap.size w5 w6 → (w5.cell? ⟨p13, 0, none⟩ = some (.int .i64 a) ∧ w5.cell? ⟨p13, 1, none⟩ = some (.int .i64 q) ∧ w5.cell? ⟨p13, 2, none⟩ = some (.int .i64 xs.length)) →
      (w6.cell? ⟨p13, 0, none⟩ = some (.int .i64 a) ∧ w6.cell? ⟨p13, 1, none⟩ = some (.int .i64 q) ∧ w6.cell? ⟨p13, 2, none⟩ = some (.int .i64 xs.length))) := fun w5 w6 o h => HK.out w5 w6 (Only.of_below o) h
  have HCP2 : Hid (Calls Tryz.prog 60 #[.slice a2 xs.length c2] w4.drew fun e w5 => ∃ a5 c5 v6 w6, e = .returned (.slice a5 xs.length c5) ∧ Below w4.drew.heap.size w4.drew w5 ∧
      (Builtin.append_ #[76, 76] 76 #[v2, .slice (some ⟨w5.heap.size, 0, none⟩) 1 1]).run Tryz.prog (w5.alloc (.cells #[.int .i64 a, .int .i64 q, .int .i64 xs.length, .slice a5 xs.length c5] 121)) = .ok v6 w6 ∧
      RowsV (fun b => ((N b ∧ b < w.heap.size) ∧ b < B) ∨ B ≤ b) w6 v6 (L.eraseIdx i ++ [((a, xs), .slice a5 xs.length c5)]) ∧ Only (fun b => v2.ownBlock = some b) w5 w6 ∧
      (w6.cell? ⟨p13, 0, none⟩ = some (.int .i64 a) ∧ w6.cell? ⟨p13, 1, none⟩ = some (.int .i64 q) ∧ w6.cell? ⟨p13, 2, none⟩ = some (.int .i64 xs.length))) := HCP.out.mono fun e w5 ⟨v5, he, ho, hb⟩ => by
    obtain ⟨v6, w6, h1, h2, h3⟩ := HPR.out w5 v5 ho ⟨hb.os, hb.tape, hb.output, hb.size, hb.block⟩
    have e : len (a, xs) = q := HQQ.out
    rw [e] at h1
    obtain ⟨a5, c5, rfl⟩ : ∃ a c, v5 = .slice a xs.length c := by
      rcases ho.2 with ⟨rfl, h0⟩ | ⟨g, cap, cur, rfl, _⟩
      · exact ⟨none, 0, by rw [h0]⟩
      · exact ⟨_, _, rfl⟩
    exact ⟨a5, c5, v6, w6, he, hb, h1, h2, h3, HK.out _ _ h3 (HKB.out _ _ hb ⟨x1, x2, x3⟩)⟩
  clear HPR HCP y1 y2 y3
  go_region_held3 (fun w' => w'.cell? ⟨p13, 0, none⟩ = some (.int .i64 a) ∧ w'.cell? ⟨p13, 1, none⟩ = some (.int .i64 q) ∧ w'.cell? ⟨p13, 2, none⟩ = some (.int .i64 xs.length)) (first | exact hS6 | go_keep | (exact HKB.out _ _ hb5 (by assumption)) | (exact HKB.out _ _ ((Below.refl _ _).alloc (Nat.le_refl _) _) (by assumption))) (first | (go_at_call 60; refine HCP2.out.mono ?_; rintro e w5 ⟨a5, c5, v6, w6, rfl, hb5, happ6, hr6, o6, hS6⟩) | (refine step_append_eq rfl _ _ 76 rfl _ _ _ _ rfl rfl happ6 ?_))
  have hPP := HP.out
  have hBB := HBB.out
  have hb5' : Below w4.heap.size w4 w5 := ⟨hb5.os, hb5.tape, hb5.output, hb5.size, hb5.block⟩
  have O6 : Hid (Only (fun b => v2.ownBlock = some b) w4 w6) := (Only.of_below hb5' : Only (fun b => v2.ownBlock = some b) w4 w5).then_ o6 (fun _ _ h => h)
  have B6 : Hid (Below w.heap.size w w6) := HB4.out.trans (O6.out.below (fun i hi e => by have := HOB.out i e; omega) HB4.out.size)
  have x7 := HX9.out.only O6.out (fun e => by have := HOB.out p9 e; omega)
  have X7' := Lib.hid x7
  obtain ⟨y1, y2, y3, yf, _⟩ := x7
  have yf0 := yf 0
  have yf1 := yf 1
  have yf2 := yf 2
  obtain ⟨s1, s2, s3⟩ := hS6
  have HR6 := Lib.hid hr6
  have hne : ¬ p13 = p9 := by have := HP13.out; omega
  clear yf hb5 hb5' o6 happ6 hr6 x1 x2 x3
  go_wp2_with fail
  go_region
  go_wp2_with fail
  have hb9 := (X7'.out.put a q xs.length).fresh (below_drewN _ _ 1)
  have ho9 : Only (· = p9) w6 ((((w6.setCell ⟨p9, 0, none⟩ (.int .i64 a)).setCell ⟨p9, 1, none⟩ (.int .i64 q)).setCell ⟨p9, 2, none⟩ (.int .i64 xs.length)).drewN 1) := (put3_only (F := (· = p9)) (Only.refl _ _) (.inl rfl)).drewN 1
  have e9 : (((w6.setCell ⟨p9, 0, none⟩ (.int .i64 a)).setCell ⟨p9, 1, none⟩ (.int .i64 q)).setCell ⟨p9, 2, none⟩ (.int .i64 xs.length)).drewN 1 = (((w6.setCell ⟨p9, 0, none⟩ (.int .i64 a)).setCell ⟨p9, 1, none⟩ (.int .i64 q)).setCell ⟨p9, 2, none⟩ (.int .i64 xs.length)).drew := rfl
  rw [e9] at hb9 ho9
  generalize (((w6.setCell ⟨p9, 0, none⟩ (.int .i64 a)).setCell ⟨p9, 1, none⟩ (.int .i64 q)).setCell ⟨p9, 2, none⟩ (.int .i64 xs.length)).drew = w9 at hb9 ho9 ⊢
  (try simp only [Exit.inBlock, Exit.then])
  have hRV : RowsV (fun b => ((N b ∧ b < w.heap.size) ∧ b < B) ∨ B ≤ b) w9 v6 (L.eraseIdx i ++ [((a, xs), .slice a5 xs.length c5)]) := HR6.out.only ho9 (fun b hb e => by
    rcases hb with hb | hb
    · have := hb.1.2; omega
    · omega)
  obtain ⟨h1, h2⟩ := HI.out
  refine bodyPost_ret (res_3 rfl rfl hb9) rfl ⟨v6, _, i, h1, h2, by rw [HQQ.out]; rfl, hRV.kind (fun b _ hb => by
    rcases hb with hb | hb
    · exact .inl hb.1.1
    · exact .inr (by omega)), B6.out.trans (ho9.below (fun i hi e => by omega) B6.out.size)⟩

set_option maxHeartbeats 4000000 in
theorem refset_full {N : Nat → Prop} (v : Value) (L : List RV) (n : Nat) (f m z : Int) (a : Nat) (vb : Value) (xs : List Int) (w : World) (h : RowsV N w v L) (hv : Bts N w vb xs) (hl : L.length ≤ 1000000) (hn : n ≤ 1000000) (hx : xs.length ≤ 1000000000000000000) (hr : ∀ p ∈ L, p.1.1 + len p.1 ≤ 1000000)
    (hX : isX (rowsOf L) ⟨f, m, z⟩ = true) (hm : (secs xs.length : Int) ≠ m) (hE : ∀ i (h : i < (rowsOf L).length), ext (rowsOf L)[i] = ⟨f, m, z⟩ → FirstIs (tk (rowsOf (L.eraseIdx i))) n (secs xs.length) a false) :
    Calls Tryz.prog 37 #[v, .int .i64 n, .agg #[.int .i64 f, .int .i64 m, .int .i64 z], vb] w (RPutNo v 3 w) := by
  obtain ⟨q, hq⟩ : ∃ q, secs xs.length = q := ⟨_, rfl⟩
  have HQQ := Lib.hid hq
  have HQ := Lib.hid (fun w' => refsec_any xs.length w' (by omega))
  rw [hq] at HQ hm
  have hmq : ((q : Int) == m) = false := by simpa using hm
  have HE := Lib.hid hE
  have HRR := Lib.hid hr
  have BW : Below w.heap.size w ((w.alloc (.cells #[.int .i64 f, .int .i64 m, .int .i64 z] 47)).alloc (.cells #[.int .i64 0, .int .i64 0, .int .i64 0] 47)) := ((Below.refl _ _).alloc (Nat.le_refl _) _).alloc (by simp) _
  have HF : Hid (Calls Tryz.prog 69 #[v, .agg #[.int .i64 f, .int .i64 m, .int .i64 z]] ((w.alloc (.cells #[.int .i64 f, .int .i64 m, .int .i64 z] 47)).alloc (.cells #[.int .i64 0, .int .i64 0, .int .i64 0] 47)) fun e w' => ∃ i : Nat, e = .returned (.int .i64 i) ∧ (∃ h : i < (rowsOf L).length, ext (rowsOf L)[i] = ⟨f, m, z⟩) ∧ Below ((w.alloc (.cells #[.int .i64 f, .int .i64 m, .int .i64 z] 47)).alloc (.cells #[.int .i64 0, .int .i64 0, .int .i64 0] 47)).heap.size _ w') :=
    (find_any v L f m z _ (h.fresh BW) hl).mono fun e w' ⟨k, he, hk, hb⟩ => by
      rcases hk with ⟨_, h1⟩ | ⟨i, rfl, hi⟩
      · rw [hX] at h1; cases h1
      · exact ⟨i, he, hi, hb⟩
  have X6 := (box3_new w f m z 47).fresh ((Below.refl _ _).alloc (Nat.le_refl _) (.cells #[.int .i64 0, .int .i64 0, .int .i64 0] 47))
  have X9 := box3_new (w.alloc (.cells #[.int .i64 f, .int .i64 m, .int .i64 z] 47)) 0 0 0 47
  rw [World.size_alloc] at X9
  have HX6 := Lib.hid X6
  have HX := Lib.hid X9
  have HB := Lib.hid BW
  have HV := Lib.hid (h.kind (M := fun b => N b ∧ b < w.heap.size) (fun b hb hN => ⟨hN, hb⟩))
  have HVB := Lib.hid (hv.kind (M := fun b => N b ∧ b < w.heap.size) (fun b hb hN => ⟨hN, hb⟩))
  obtain ⟨a1, c1, rfl⟩ := h.form
  obtain ⟨a2, c2, rfl, _⟩ := hv.form
  obtain ⟨p6, hp6⟩ : ∃ p, w.heap.size = p := ⟨_, rfl⟩
  obtain ⟨p9, hp9⟩ : ∃ p, p6 + 1 = p := ⟨_, rfl⟩
  have HP := Lib.hid (And.intro hp6 hp9)
  rw [hp6] at HX HX6
  rw [hp9] at HX
  obtain ⟨u1, u2, u3, _, _⟩ := HX6.out
  clear h hv BW hX X9 X6 hq hE hr hm
  go_enter Tryz.func37, Tryz.ntmps37
  go_wp2_with fail
  (try rw [hp9])
  clear hp9 hp6 u1 u2 u3
  generalize (w.alloc (.cells #[.int .i64 f, .int .i64 m, .int .i64 z] 47)).alloc (.cells #[.int .i64 0, .int .i64 0, .int .i64 0] 47) = w0 at HX HX6 HB HF ⊢
  refine HF.out.mono ?_
  rintro e w1 ⟨i, rfl, hi, b1⟩
  have HI := Lib.hid hi
  have hil : i < L.length := by obtain ⟨h, _⟩ := hi; simpa [rowsOf] using h
  have B1 : Below w.heap.size w w1 := HB.out.trans (b1.mono HB.out.size)
  have HB1 := Lib.hid B1
  have HX9 := Lib.hid (HX.out.fresh b1)
  have HX6 := Lib.hid (HX6.out.fresh b1)
  have HWO := Lib.hid (without_any _ L i w1 (HV.out.fresh B1) hl (by omega))
  clear b1 hi B1
  go_wp2_with fail
  refine HWO.out.mono ?_
  rintro e w2 ⟨v2, rfl, ho2, b2⟩
  have HX9p := HX9
  have x6 := HX6.out.fresh b2
  have HX6 := Lib.hid x6
  have HX9 := Lib.hid (HX9.out.fresh b2)
  have hp9l := Nat.lt_of_lt_of_le HX9p.out.2.2.2.2 (Nat.le_refl _)
  obtain ⟨B, hBe⟩ : ∃ B, w1.heap.size = B := ⟨_, rfl⟩
  have HBB : Hid (w.heap.size < B ∧ p9 < B) := ⟨by have := HP.out; omega, by omega⟩
  have hrows := ho2.rows.kind (M := fun b => (N b ∧ b < w.heap.size) ∨ B ≤ b) (fun b _ hb => by
    rcases hb with hb | hb
    · exact .inl hb.1
    · exact .inr (by omega))
  have HROWS := Lib.hid hrows
  have HB2 : Hid (Below w.heap.size w w2) := HB1.out.trans (b2.mono HB1.out.size)
  obtain ⟨y1, y2, y3, _, _⟩ := x6
  have HQ2 : Hid (∀ w', Calls Tryz.prog 58 #[.int .i64 xs.length] w' fun e w'' => e = .returned (.int .i64 q) ∧ ∃ d, w'' = w'.drewN d) := fun w' => (HQ.out w').mono fun _ _ ⟨he, hw⟩ => ⟨he, 0, hw.symm⟩
  obtain ⟨a3, c3, rfl⟩ := hrows.form
  clear ho2 b2 hrows hBe hp9l HX9p
  go_wp2_with fail
  go_quiet (first | (go_at_call 58; exact Calls.quiet_of (HQ2.out _)))
  have hbd : Below w2.heap.size w2 (w2.drewN nq) := below_drewN _ _ _
  have HX9 := Lib.hid (HX9.out.fresh hbd)
  have HB3 : Hid (Below w.heap.size w (w2.drewN nq)) := HB2.out.trans (hbd.mono HB2.out.size)
  have HROWS3 := Lib.hid (HROWS.out.fresh hbd)
  clear hbd y1 y2 y3
  generalize w2.drewN nq = w3 at HX9 HB3 HROWS3 ⊢
  have hlE : (L.eraseIdx i).length ≤ 1000000 := by have := List.length_eraseIdx_le L i; omega
  have HPT := Lib.hid (refput_no (N := fun b => (N b ∧ b < w.heap.size) ∨ B ≤ b) _ (L.eraseIdx i) n a (.slice a2 xs.length c2) xs w3 HROWS3.out ((HVB.out.kind (fun _ _ h => .inl h)).only (Only.of_below (F := fun _ => False) HB3.out) (fun _ _ h => h)) hlE hn hx (fun p hp => HRR.out p (List.mem_of_mem_eraseIdx hp)) (by obtain ⟨h1, h2⟩ := HI.out; exact HE.out i h1 h2))
  go_wp2_with fail
  refine HPT.out.mono ?_
  rintro e w4 ⟨rfl, b4⟩
  have hba : Below w4.heap.size w4 (w4.alloc (.cells #[.int .i64 0, .int .i64 0, .int .i64 0] 47)) := (Below.refl _ _).alloc (Nat.le_refl _) _
  have x9 := (HX9.out.fresh b4).fresh hba
  have HX9 := Lib.hid x9
  have HB4 := Lib.hid (HB3.out.trans (b4.mono HB3.out.size))
  have HB5 := Lib.hid (HB4.out.trans (hba.mono HB4.out.size))
  obtain ⟨y1, y2, y3, yf, _⟩ := x9
  have yf0 := yf 0
  have yf1 := yf 1
  have yf2 := yf 2
  clear yf b4 hba
  go_wp2_with fail
  generalize w4.alloc (.cells #[.int .i64 0, .int .i64 0, .int .i64 0] 47) = w5 at HX9 HB5 ⊢
  have hb6 := HX9.out.put 0 0 0
  have ho6 : Only (· = p9) w5 (((w5.setCell ⟨p9, 0, none⟩ (.int .i64 0)).setCell ⟨p9, 1, none⟩ (.int .i64 0)).setCell ⟨p9, 2, none⟩ (.int .i64 0)) := put3_only (Only.refl _ _) (.inl rfl)
  generalize ((w5.setCell ⟨p9, 0, none⟩ (.int .i64 0)).setCell ⟨p9, 1, none⟩ (.int .i64 0)).setCell ⟨p9, 2, none⟩ (.int .i64 0) = w6 at hb6 ho6 ⊢
  (try simp only [Exit.inBlock, Exit.then])
  have hp := HP.out
  refine bodyPost_ret (res_3 rfl rfl hb6) rfl ⟨rfl, HB5.out.trans (ho6.below (fun i hi e => by omega) HB5.out.size)⟩

set_option maxHeartbeats 4000000 in
theorem refset_move {N : Nat → Prop} (v : Value) (L : List RV) (n : Nat) (f m z : Int) (a : Nat) (vb : Value) (xs : List Int) (w : World) (h : RowsV N w v L) (hv : Bts N w vb xs) (hl : L.length ≤ 1000000) (hn : n ≤ 1000000) (hx : xs.length ≤ 1000000) (hr : ∀ p ∈ L, p.1.1 + len p.1 ≤ 1000000)
    (hX : isX (rowsOf L) ⟨f, m, z⟩ = true) (hm : (secs xs.length : Int) ≠ m) (hE : ∀ i (h : i < (rowsOf L).length), ext (rowsOf L)[i] = ⟨f, m, z⟩ → FirstIs (tk (rowsOf (L.eraseIdx i))) n (secs xs.length) a true) :
    Calls Tryz.prog 37 #[v, .int .i64 n, .agg #[.int .i64 f, .int .i64 m, .int .i64 z], vb] w (RSet N L ⟨f, m, z⟩ a xs w) := by
  obtain ⟨q, hq⟩ : ∃ q, secs xs.length = q := ⟨_, rfl⟩
  have HQQ := Lib.hid hq
  have HQ := Lib.hid (fun w' => refsec_any xs.length w' (by omega))
  rw [hq] at HQ hm
  have hmq : ((q : Int) == m) = false := by simpa using hm
  have HE := Lib.hid hE
  have HRR := Lib.hid hr
  have BW : Below w.heap.size w ((w.alloc (.cells #[.int .i64 f, .int .i64 m, .int .i64 z] 47)).alloc (.cells #[.int .i64 0, .int .i64 0, .int .i64 0] 47)) := ((Below.refl _ _).alloc (Nat.le_refl _) _).alloc (by simp) _
  have HF : Hid (Calls Tryz.prog 69 #[v, .agg #[.int .i64 f, .int .i64 m, .int .i64 z]] ((w.alloc (.cells #[.int .i64 f, .int .i64 m, .int .i64 z] 47)).alloc (.cells #[.int .i64 0, .int .i64 0, .int .i64 0] 47)) fun e w' => ∃ i : Nat, e = .returned (.int .i64 i) ∧ (∃ h : i < (rowsOf L).length, ext (rowsOf L)[i] = ⟨f, m, z⟩) ∧ Below ((w.alloc (.cells #[.int .i64 f, .int .i64 m, .int .i64 z] 47)).alloc (.cells #[.int .i64 0, .int .i64 0, .int .i64 0] 47)).heap.size _ w') :=
    (find_any v L f m z _ (h.fresh BW) hl).mono fun e w' ⟨k, he, hk, hb⟩ => by
      rcases hk with ⟨_, h1⟩ | ⟨i, rfl, hi⟩
      · rw [hX] at h1; cases h1
      · exact ⟨i, he, hi, hb⟩
  have X6 := (box3_new w f m z 47).fresh ((Below.refl _ _).alloc (Nat.le_refl _) (.cells #[.int .i64 0, .int .i64 0, .int .i64 0] 47))
  have X9 := box3_new (w.alloc (.cells #[.int .i64 f, .int .i64 m, .int .i64 z] 47)) 0 0 0 47
  rw [World.size_alloc] at X9
  have HX6 := Lib.hid X6
  have HX := Lib.hid X9
  have HB := Lib.hid BW
  have HV := Lib.hid (h.kind (M := fun b => N b ∧ b < w.heap.size) (fun b hb hN => ⟨hN, hb⟩))
  have HVB := Lib.hid (hv.kind (M := fun b => N b ∧ b < w.heap.size) (fun b hb hN => ⟨hN, hb⟩))
  obtain ⟨a1, c1, rfl⟩ := h.form
  obtain ⟨a2, c2, rfl, _⟩ := hv.form
  obtain ⟨p6, hp6⟩ : ∃ p, w.heap.size = p := ⟨_, rfl⟩
  obtain ⟨p9, hp9⟩ : ∃ p, p6 + 1 = p := ⟨_, rfl⟩
  have HP := Lib.hid (And.intro hp6 hp9)
  rw [hp6] at HX HX6
  rw [hp9] at HX
  obtain ⟨u1, u2, u3, _, _⟩ := HX6.out
  clear h hv BW hX X9 X6 hq hE hr hm
  go_enter Tryz.func37, Tryz.ntmps37
  go_wp2_with fail
  (try rw [hp9])
  clear hp9 hp6 u1 u2 u3
  generalize (w.alloc (.cells #[.int .i64 f, .int .i64 m, .int .i64 z] 47)).alloc (.cells #[.int .i64 0, .int .i64 0, .int .i64 0] 47) = w0 at HX HX6 HB HF ⊢
  refine HF.out.mono ?_
  rintro e w1 ⟨i, rfl, hi, b1⟩
  have HI := Lib.hid hi
  have hil : i < L.length := by obtain ⟨h, _⟩ := hi; simpa [rowsOf] using h
  have B1 : Below w.heap.size w w1 := HB.out.trans (b1.mono HB.out.size)
  have HB1 := Lib.hid B1
  have HX9 := Lib.hid (HX.out.fresh b1)
  have HX6 := Lib.hid (HX6.out.fresh b1)
  have HWO := Lib.hid (without_any _ L i w1 (HV.out.fresh B1) hl (by omega))
  clear b1 hi B1
  go_wp2_with fail
  refine HWO.out.mono ?_
  rintro e w2 ⟨v2, rfl, ho2, b2⟩
  have HX9p := HX9
  have x6 := HX6.out.fresh b2
  have HX6 := Lib.hid x6
  have HX9 := Lib.hid (HX9.out.fresh b2)
  have hp9l := Nat.lt_of_lt_of_le HX9p.out.2.2.2.2 (Nat.le_refl _)
  obtain ⟨B, hBe⟩ : ∃ B, w1.heap.size = B := ⟨_, rfl⟩
  have HBB : Hid (w.heap.size < B ∧ p9 < B) := ⟨by have := HP.out; omega, by omega⟩
  have hrows := ho2.rows.kind (M := fun b => (N b ∧ b < w.heap.size) ∨ B ≤ b) (fun b _ hb => by
    rcases hb with hb | hb
    · exact .inl hb.1
    · exact .inr (by omega))
  have HROWS := Lib.hid hrows
  have HB2 : Hid (Below w.heap.size w w2) := HB1.out.trans (b2.mono HB1.out.size)
  obtain ⟨y1, y2, y3, _, _⟩ := x6
  have HQ2 : Hid (∀ w', Calls Tryz.prog 58 #[.int .i64 xs.length] w' fun e w'' => e = .returned (.int .i64 q) ∧ ∃ d, w'' = w'.drewN d) := fun w' => (HQ.out w').mono fun _ _ ⟨he, hw⟩ => ⟨he, 0, hw.symm⟩
  obtain ⟨a3, c3, rfl⟩ := hrows.form
  clear ho2 b2 hrows hBe hp9l HX9p
  go_wp2_with fail
  go_quiet (first | (go_at_call 58; exact Calls.quiet_of (HQ2.out _)))
  have hbd : Below w2.heap.size w2 (w2.drewN nq) := below_drewN _ _ _
  have HX9 := Lib.hid (HX9.out.fresh hbd)
  have HB3 : Hid (Below w.heap.size w (w2.drewN nq)) := HB2.out.trans (hbd.mono HB2.out.size)
  have HROWS3 := Lib.hid (HROWS.out.fresh hbd)
  clear hbd y1 y2 y3
  generalize w2.drewN nq = w3 at HX9 HB3 HROWS3 ⊢
  have hlE : (L.eraseIdx i).length ≤ 1000000 := by have := List.length_eraseIdx_le L i; omega
  have HPT := Lib.hid (refput_yes (N := fun b => (N b ∧ b < w.heap.size) ∨ B ≤ b) _ (L.eraseIdx i) n a (.slice a2 xs.length c2) xs w3 HROWS3.out ((HVB.out.kind (fun _ _ h => .inl h)).only (Only.of_below (F := fun _ => False) HB3.out) (fun _ _ h => h)) hlE hn hx (fun p hp => HRR.out p (List.mem_of_mem_eraseIdx hp)) (by obtain ⟨h1, h2⟩ := HI.out; exact HE.out i h1 h2))
  go_wp2_with fail
  refine HPT.out.mono ?_
  rintro e w4 ⟨v4, bv, rfl, hr4, b4⟩
  have HX93 := HX9
  rw [HQQ.out]
  have hba : Below w4.heap.size w4 (w4.alloc (.cells #[.int .i64 a, .int .i64 q, .int .i64 xs.length] 47)) := (Below.refl _ _).alloc (Nat.le_refl _) _
  have X15 := box3_new w4 a q xs.length 47
  have hp9w : p9 < w4.heap.size := Nat.lt_of_lt_of_le HX9.out.2.2.2.2 b4.size
  have x9 := (HX9.out.fresh b4).fresh hba
  have HX9 := Lib.hid x9
  have HB4 := Lib.hid (HB3.out.trans (b4.mono HB3.out.size))
  have HB5 := Lib.hid (HB4.out.trans (hba.mono HB4.out.size))
  have hw3s := HB3.out.size
  have hp := HP.out
  have hBB := HBB.out
  have hp9w3 := HX93.out.2.2.2.2
  have HR5 := Lib.hid ((hr4.fresh hba).kind (M := fun b => (N b ∨ w.heap.size ≤ b) ∧ b ≠ p9) (fun b _ hb => by
    rcases hb with (hb | hb) | hb
    · exact ⟨.inl hb.1, by have := hb.2; omega⟩
    · exact ⟨.inr (by omega), by omega⟩
    · exact ⟨.inr (by omega), by omega⟩))
  obtain ⟨p15, hp15⟩ : ∃ p, w4.heap.size = p := ⟨_, rfl⟩
  rw [hp15] at X15 hp9w
  obtain ⟨x1, x2, x3, _, _⟩ := X15
  obtain ⟨y1, y2, y3, yf, _⟩ := x9
  have yf0 := yf 0
  have yf1 := yf 1
  have yf2 := yf 2
  have hne : ¬ p15 = p9 := by omega
  clear yf b4 hba hr4 hw3s hp hBB hp9w3
  go_wp2_with fail
  (try rw [hp15])
  clear hp15
  generalize w4.alloc (.cells #[.int .i64 a, .int .i64 q, .int .i64 xs.length] 47) = w5 at x1 x2 x3 y1 y2 y3 yf0 yf1 yf2 HX9 HB5 HR5 ⊢
  go_region
  go_wp2_with fail
  have hb9 := (HX9.out.put a q xs.length).fresh (below_drewN _ _ 1)
  have ho9 : Only (· = p9) w5 ((((w5.setCell ⟨p9, 0, none⟩ (.int .i64 a)).setCell ⟨p9, 1, none⟩ (.int .i64 q)).setCell ⟨p9, 2, none⟩ (.int .i64 xs.length)).drewN 1) := (put3_only (F := (· = p9)) (Only.refl _ _) (.inl rfl)).drewN 1
  have e9 : (((w5.setCell ⟨p9, 0, none⟩ (.int .i64 a)).setCell ⟨p9, 1, none⟩ (.int .i64 q)).setCell ⟨p9, 2, none⟩ (.int .i64 xs.length)).drewN 1 = (((w5.setCell ⟨p9, 0, none⟩ (.int .i64 a)).setCell ⟨p9, 1, none⟩ (.int .i64 q)).setCell ⟨p9, 2, none⟩ (.int .i64 xs.length)).drew := rfl
  rw [e9] at hb9 ho9
  generalize (((w5.setCell ⟨p9, 0, none⟩ (.int .i64 a)).setCell ⟨p9, 1, none⟩ (.int .i64 q)).setCell ⟨p9, 2, none⟩ (.int .i64 xs.length)).drew = w9 at hb9 ho9 ⊢
  (try simp only [Exit.inBlock, Exit.then])
  have hp := HP.out
  obtain ⟨h1, h2⟩ := HI.out
  refine bodyPost_ret (res_3 rfl rfl hb9) rfl ⟨_, _, i, h1, h2, by rw [HQQ.out]; rfl, (HR5.out.only ho9 (fun b hb e => hb.2 e)).kind (fun b _ hb => hb.1), HB5.out.trans (ho9.below (fun i hi e => by omega) HB5.out.size)⟩

theorem rowsOf_append (L M : List RV) : rowsOf (L ++ M) = rowsOf L ++ rowsOf M := by simp [rowsOf]
theorem rowsOf_erase (L : List RV) (i : Nat) : rowsOf (L.eraseIdx i) = (rowsOf L).eraseIdx i := by
  unfold rowsOf
  induction L generalizing i with
  | nil => rfl
  | cons p L ih =>
    cases i with
    | zero => rfl
    | succ i => simp [ih i]
theorem erase_without : ∀ {R : List Row}, R.Pairwise Off → ∀ {i : Nat} (h : i < R.length), R.eraseIdx i = without R (ext R[i])
  | [], _, i, h => by simp at h
  | r :: R, hp, 0, _ => by
    obtain ⟨h1, _⟩ := List.pairwise_cons.1 hp
    have e : R.filter (fun q => !decide (ext q = ext r)) = R := List.filter_eq_self.2 fun q hq => by
      have := ext_inj (h1 q hq)
      simpa using fun e => this e.symm
    simp [without, e]
  | r :: R, hp, i + 1, h => by
    obtain ⟨h1, h2⟩ := List.pairwise_cons.1 hp
    have hi : i < R.length := by simpa using h
    have ih := erase_without h2 hi
    have hne : ext r ≠ ext R[i] := ext_inj (h1 _ (List.getElem_mem hi))
    simp only [List.eraseIdx_cons_succ, List.getElem_cons_succ]
    rw [ih]
    unfold without
    rw [List.filter_cons_of_pos (by simpa using hne)]
theorem rows_less {n : Nat} {L : List RV} (g : Good n (rowsOf L)) {i : Nat} (h : i < (rowsOf L).length) {x : Ext} (hx : ext (rowsOf L)[i] = x) : rowsOf (L.eraseIdx i) = without (rowsOf L) x := by
  rw [rowsOf_erase, erase_without g.apart h, hx]
/-- Is it among those that were told, and which? -/
def pickX (X : List Ext) (i : Int) : Ext := if h : 0 ≤ i ∧ i.toNat < X.length then X[i.toNat]'h.2 else ⟨-1, 0, 0⟩
theorem pickX_in {X : List Ext} {k : Nat} (h : k < X.length) : pickX X k = X[k] := by
  unfold pickX
  rw [dif_pos ⟨by omega, by simpa using h⟩]
  simp
theorem pickX_low {X : List Ext} {i : Int} (h : i < 0) : pickX X i = ⟨-1, 0, 0⟩ := by
  unfold pickX
  rw [dif_neg (by omega)]
theorem pickX_high {X : List Ext} {i : Int} (h : (X.length : Int) ≤ i) : pickX X i = ⟨-1, 0, 0⟩ := by
  unfold pickX
  rw [dif_neg (by omega)]
theorem pickX_wf {X : List Ext} (h : ∀ x ∈ X, x.wf) (i : Int) : (pickX X i).wf := by
  unfold pickX
  split
  · exact h _ (List.getElem_mem _)
  · exact ⟨by decide, by decide, by decide⟩
/-- What lives was put so: its numbers. -/
theorem live_row {R : List Row} {x : Ext} (h : isX R x = true) : ∃ r ∈ R, x = ⟨r.1, len r, r.2.length⟩ := by
  obtain ⟨r, hr, he⟩ := isX_iff.1 h
  exact ⟨r, hr, he.symm⟩
theorem rows_room {n : Nat} {L : List RV} (g : Good n (rowsOf L)) (hn : n ≤ 1000000) : ∀ p ∈ L, p.1.1 + len p.1 ≤ 1000000 := fun p hp => by
  have := g.room p.1 (List.mem_map.2 ⟨p, hp, rfl⟩)
  omega
theorem rows_few {n : Nat} {L : List RV} (g : Good n (rowsOf L)) (hn : n ≤ 1000000) : L.length ≤ 1000000 := by
  have h1 := len_total (rowsOf L)
  have h2 := total_le g
  simp [rowsOf] at h1
  simp [rowsOf] at h2
  omega
end Go.Proofs.YtccpmaahnfgkeaaGreatDoor.R4
