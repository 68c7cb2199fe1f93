/- What the chapter's functions rows and Used tell. -/
import Derived.Test.YtccpmaahnfgkeaaGreatDoorGFb
namespace Go.Proofs.YtccpmaahnfgkeaaGreatDoor
set_option maxRecDepth 1000000
open Go.ChangeShapes Go.WideShapes Go.ChangeAt Go.RowKit
open Wd (Ob okO encO refsO ObjAt In64 I64)
open R4 (RV cells4 flat4 rowsOf RowsV OwnR)

/-- Rows of layer 4 that grow. -/
structure RwK (w : World) (B : Nat) (v : Value) (L : List RV) : Prop where
  own : w.ownsRow B 121 4 v L.length (flat4 L)
  each : ∀ p ∈ L, Bts (fun b => B ≤ b ∧ v.ownBlock ≠ some b) w p.2 p.1.2
section
variable {w w' : World} {B : Nat} {v : Value} {L : List RV}
theorem rwk_nil (w : World) (B : Nat) : RwK w B (.slice none 0 0) [] := ⟨World.ownsRow_nil _ _ _ _, fun p hp => by cases hp⟩
theorem RwK.fresh (h : RwK w B v L) (b : Below w.heap.size w w') : RwK w' B v L :=
  ⟨own_kept h.own b, fun p hp => Vals.only (h.each p hp) (Only.of_below (F := fun _ => False) b) (fun _ _ h => h)⟩
theorem RwK.push {v' : Value} {r : RV} (h : RwK w B v L) (hr : Bts (fun b => B ≤ b ∧ v.ownBlock ≠ some b) w r.2 r.1.2) (own : w'.ownsRow B 121 4 v' (L.length + 1) (flat4 L ++ cells4 r)) (hg : w.grownBy w' v.ownBlock)
    (hat : v'.ownBlock = v.ownBlock ∨ v'.ownBlock = some w.heap.size) : RwK w' B v' (L ++ [r]) := by
  have on : Only (fun b => v.ownBlock = some b) w w' := Only.grown (Only.refl _ _) hg (fun k hk => .inl hk)
  have key : ∀ {p : RV}, Bts (fun b => B ≤ b ∧ v.ownBlock ≠ some b) w p.2 p.1.2 → Bts (fun b => B ≤ b ∧ v'.ownBlock ≠ some b) w' p.2 p.1.2 := fun {p} hx => by
    refine Vals.kind (Vals.only (Vals.kind hx (M := fun b => (B ≤ b ∧ v.ownBlock ≠ some b) ∧ b < w.heap.size) (fun b hb h => ⟨h, hb⟩)) on (fun b hb e => hb.1.2 e)) (fun b _ hb => ⟨hb.1.1, fun e => ?_⟩)
    rcases hat with h | h
    · rw [h] at e; exact hb.1.2 e
    · rw [h] at e; injection e with e; have := hb.2; omega
  refine ⟨?_, fun p hp => ?_⟩
  · rw [List.length_append, R4.flat4_append]
    have e : flat4 [r] = cells4 r := by simp [flat4]
    rw [e]; exact own
  · rcases List.mem_append.1 hp with h1 | h1
    · exact key (h.each p h1)
    · rw [List.mem_singleton.1 h1]; exact key hr
theorem RwK.rows (h : RwK w B v L) : RowsV (B ≤ ·) w v L := by
  have : OwnR (fun b => B ≤ b ∧ v.ownBlock ≠ some b) B w v L := ⟨h.own, h.each⟩
  exact (this.rows).kind fun b _ hb => hb.elim (fun h => h.1) id
end
theorem rows_len {L : List RV} {R : List Row} (h : rowsOf L = R) : L.length = R.length := by rw [← h, rowsOf, List.length_map]

def RowsP (L : List RE) (w : World) (e : Ending) (w' : World) : Prop := ∃ v' LR, e = .returned v' ∧ RowsV (w.heap.size ≤ ·) w' v' LR ∧ rowsOf LR = rowsE (entsOf L) ∧ Below w.heap.size w w'
set_option maxHeartbeats 2000000 in
theorem rows6_any {N : Nat → Prop} (v : Value) (n m : Nat) (L : List RE) (w : World) (h : SpV N w v L) (hl : L.length ≤ 1000000) (hok : ∀ p ∈ L, okO p.1.o = true) :
    Calls Tryz.prog 30 #[.agg #[v, .int .i64 n, .int .i64 m]] w (RowsP L w) := by
  obtain ⟨i1, hi1, hz0, hz1, hz2⟩ := info_parts R4.Tryz.info121
  have BW : Below w.heap.size w (w.alloc (.cells #[v, .int .i64 n, .int .i64 m] 32)) := (Below.refl _ _).alloc (Nat.le_refl _) _
  have HV := Lib.hid (h.fresh BW)
  have HB := Lib.hid BW
  obtain ⟨a, c, rfl⟩ := h.form
  have hx : (w.alloc (.cells #[.slice a L.length c, .int .i64 n, .int .i64 m] 32)).cell? ⟨w.heap.size, 0, none⟩ = some (.slice a L.length c) := by rw [World.cell?_alloc_at _ _ _ _ rfl]; rfl
  obtain ⟨p, hp⟩ : ∃ p, w.heap.size = p := ⟨_, rfl⟩
  have HS : Hid (p < (w.alloc (.cells #[.slice a L.length c, .int .i64 n, .int .i64 m] 32)).heap.size) := Lib.hid (by rw [World.size_alloc]; omega)
  rw [hp] at hx
  have HP := Lib.hid hp
  have HX := Lib.hid hx
  have HOK := Lib.hid hok
  clear h BW hok
  go_enter Tryz.func30, Tryz.ntmps30
  go_wp2
  clear hp hx
  generalize w.alloc (.cells #[.slice a L.length c, .int .i64 n, .int .i64 m] 32) = w0 at HV HX HB HS ⊢
  have HI := Lib.hid (And.intro hi1 (And.intro hz0 (And.intro hz1 hz2)))
  clear hi1 hz0 hz1 hz2
  go_loopg [3, 4] L.length (fun g s3 s4 wr => ∃ (u : Value) (k : Nat) (LR : List RV), u = s3 ∧ s4 = .int .i64 k ∧ k ≤ L.length ∧ L.length - k ≤ g ∧ LR.length = k ∧ Hid (RwK wr w0.heap.size u LR ∧ rowsOf LR = rowsE ((entsOf L).take k)) ∧ Hid (Below w0.heap.size w0 wr))
  case atStart => exact ⟨_, 0, [], rfl, rfl, Nat.zero_le _, by omega, rfl, Lib.hid ⟨rwk_nil _ _, rfl⟩, Lib.hid (Below.refl _ _)⟩
  case round =>
    obtain ⟨u, k, LR, rfl, rfl, hk, hg, hLR, RW, BL⟩ := hrel
    have hx : wr.cell? ⟨p, 0, none⟩ = some (.slice a L.length c) := (BL.out.cell (p := ⟨p, 0, none⟩) HS.out).trans HX.out
    by_cases hlt : k < L.length
    · obtain ⟨b, off, c', he, _, hr⟩ := (HV.out.fresh BL.out).at_ k hlt
      injection he with e1 e2 e3
      subst e1 e3
      obtain ⟨_, c1, c2, c3, c4, c5, c6, c7, ho⟩ := hr
      have HRW : Hid (∀ w', Below w0.heap.size w0 w' → RowAt N w' b off k L[k]) := Lib.hid (fun w' hb => by
        obtain ⟨b', off', c', he, _, hr⟩ := (HV.out.fresh hb).at_ k hlt
        injection he with e1 _ _
        injection e1 with e1
        injection e1 with e1 e4
        subst e1 e4
        exact hr)
      have HE := Lib.hid (Wd.refencode_yes _ L[k].1.o wr ho.at_ (HOK.out _ (List.getElem_mem hlt)))
      have HLK : Hid (rowsE ((entsOf L).take (k + 1)) = rowsE ((entsOf L).take k) ++ [erow L[k].1]) := Lib.hid (by
        have hk2 : k < (entsOf L).length := by rw [ents_len]; exact hlt
        rw [List.take_succ_eq_append_getElem hk2, rowsE, List.map_append]
        simp [entsOf, rowsE])
      have HER : Hid ((erow L[k].1).1 = L[k].1.f ∧ (erow L[k].1).2 = encO L[k].1.o) := Lib.hid ⟨rfl, rfl⟩
      unfold objV at HE
      generalize L[k] = q at *
      obtain ⟨⟨id, o, f⟩, wv, bv⟩ := q
      dsimp only at *
      clear ho e2
      go_wp2_with fail
      refine HE.out.mono ?_
      rintro e w1 ⟨ve, rfl, own1, b1⟩
      have B1 : Hid (Below w0.heap.size w0 w1) := Lib.hid (BL.out.trans (b1.mono BL.out.size))
      have R1 := Lib.hid (RW.out.1.fresh b1)
      have V1 : Hid (Bts (fun b => w0.heap.size ≤ b ∧ u.ownBlock ≠ some b) w1 ve (encO o)) := Lib.hid (by
        refine Vals.kind (Vals.of_own (base := wr.heap.size) (e := 5) (by rw [List.length_map]; exact own1)) (fun b _ hN => ⟨Nat.le_trans BL.out.size hN, fun e => ?_⟩)
        have := (RW.out.1.own.lt b e).2
        omega)
      obtain ⟨ae, ce, rfl, _⟩ := Wd.own_room own1
      have hx1 : w1.cell? ⟨p, 0, none⟩ = some (.slice (some ⟨b, off, none⟩) L.length c) := (B1.out.cell (p := ⟨p, 0, none⟩) HS.out).trans HX.out
      obtain ⟨_, _, _, _, _, d5, d6, d7, _⟩ := HRW.out w1 B1.out
      clear own1 b1 c1 c2 c3 c4 c5 c6 c7 hx HE
      obtain ⟨z, hz⟩ : ∃ z, len (erow ⟨id, o, f⟩) = z := ⟨_, rfl⟩
      obtain ⟨y, hy⟩ : ∃ y, (encO o).length = y := ⟨_, rfl⟩
      have HZ := Lib.hid hz
      have HY := Lib.hid hy
      dsimp only at d5 d6 d7
      rw [hz] at d6
      rw [hy] at d7 ⊢
      obtain ⟨hi1, hz0, hz1, hz2⟩ := HI.out
      clear hz hy
      go_wp2_with (at_builtin; refine wpList_append_own_at _ rfl _ _ 76 rfl w0.heap.size 121 i1 (.agg #[.int .i64 0, .int .i64 0, .int .i64 0, .slice none 0 0]) 4 48 Tryz.underlying76 hi1 hz0 hz1 hz2 rfl (by decide) _ _ _ rfl (R1.out.own.alloc _) ⟨w1.heap.size, 0, none⟩ 1 1 [.int .i64 f, .int .i64 z, .int .i64 y, .slice ae y ce] rfl rfl ?c1 ?c2 ?c3 ?c4 ?c5 ?_)
      case c1 =>
        intro j u hj
        match j, hj with
        | 0, hj => simp at hj; subst hj; simp [Addr.add]
        | 1, hj => simp at hj; subst hj; simp [Addr.add]
        | 2, hj => simp at hj; subst hj; simp [Addr.add]
        | 3, hj => simp at hj; subst hj; simp [Addr.add]
      case c2 => intro u hu; simp at hu; rcases hu with rfl | rfl | rfl | rfl <;> rfl
      case c3 => rw [hLR]; unfold maxLen; omega
      case c4 => rw [hLR]; omega
      case c5 => simp; have := B1.out.size; omega
      intro v' w3 own3 hg3 _ hat3
      have B3 : Hid (Below w0.heap.size w0 w3) := Lib.hid ((B1.out.alloc B1.out.size _).grown hg3 (by simp; have := B1.out.size; omega) (fun j hj => (R1.out.own.lt j hj).1))
      have R3 : Hid (RwK w3 w0.heap.size v' (LR ++ [((f, encO o), .slice ae y ce)]) ∧ rowsOf (LR ++ [((f, encO o), .slice ae y ce)]) = rowsE ((entsOf L).take (k + 1))) := Lib.hid (by
        refine ⟨(R1.out.fresh ((Below.refl _ _).alloc (Nat.le_refl _) _)).push (r := ((f, encO o), .slice ae y ce)) ?_ ?_ hg3 (by rw [World.size_alloc]; exact hat3), ?_⟩
        · refine Vals.only ?_ (Only.of_below (F := fun _ => False) ((Below.refl _ _).alloc (Nat.le_refl _) _)) (fun _ _ h => h)
          have := V1.out
          rw [HY.out] at this
          exact this
        · have e1 : cells4 ((f, encO o), .slice ae y ce) = [.int .i64 f, .int .i64 z, .int .i64 y, .slice ae y ce] := by
            have e2 : len (f, encO o) = z := HZ.out
            simp only [cells4, e2, HY.out]
          rw [e1, hLR]
          exact own3
        · rw [HLK.out, R4.rowsOf_append, RW.out.2]
          rfl)
      clear own3 hg3 hat3 hi1 hz0 hz1 hz2 d5 d6 d7 hx1
      go_wp2_with fail
      go_roundg (L.length - (k + 1))
      case measure => omega
      case rel => exact ⟨v', k + 1, LR ++ [((f, encO o), .slice ae y ce)], rfl, by go_num, by omega, Nat.le_refl _, by rw [List.length_append, hLR]; rfl, R3, B3⟩
    · obtain rfl : L.length = k := by omega
      have BR : Hid (Below w.heap.size w wr) := Lib.hid (HB.out.trans (BL.out.mono HB.out.size))
      have HR : Hid (RowsV (w.heap.size ≤ ·) wr u LR ∧ rowsOf LR = rowsE (entsOf L)) := Lib.hid (by
        refine ⟨RW.out.1.rows.kind fun b _ hN => ?_, by rw [RW.out.2, ← ents_len, List.take_length]⟩
        have := HS.out
        have := HP.out
        omega)
      go_wp2_with fail
      go_ret
      exact ⟨_, _, rfl, HR.out.1, HR.out.2, BR.out⟩
theorem used6_any {N : Nat → Prop} (v : Value) (n m : Nat) (L : List RE) (w : World) (h : SpV N w v L) (hl : L.length ≤ 1000000) (hok : ∀ p ∈ L, okO p.1.o = true) (ht : total (rowsE (entsOf L)) ≤ 1000000) :
    Calls Tryz.prog 17 #[.agg #[v, .int .i64 n, .int .i64 m]] w fun e w' => e = .returned (.int .i64 (total (rowsE (entsOf L)))) ∧ Below w.heap.size w w' := by
  have BW : Below w.heap.size w (w.alloc (.cells #[v, .int .i64 n, .int .i64 m] 32)) := (Below.refl _ _).alloc (Nat.le_refl _) _
  have HB := Lib.hid BW
  have HR := Lib.hid (rows6_any v n m L _ (h.fresh BW) hl hok)
  obtain ⟨a, c, rfl⟩ := h.form
  have hl2 : (rowsE (entsOf L)).length ≤ 1000000 := by rw [rowsE, List.length_map, ents_len]; exact hl
  have HL2 := Lib.hid hl2
  have HT := Lib.hid ht
  clear h BW hl2 ht
  go_enter Tryz.func17, Tryz.ntmps17
  go_wp2_with fail
  refine HR.out.mono ?_
  rintro e w1 ⟨u, LR, rfl, hrow, hro, b1⟩
  have HU := Lib.hid (R4.refused_any u LR w1 hrow (by rw [hro]; exact HT.out) (by rw [rows_len hro]; exact HL2.out))
  have HRO := Lib.hid hro
  have B1 : Hid (Below w.heap.size w w1) := Lib.hid (HB.out.trans (b1.mono HB.out.size))
  clear hrow hro b1 HR
  go_wp2_with fail
  refine HU.out.mono ?_
  rintro e w2 ⟨rfl, rfl⟩
  rw [HRO.out]
  go_wp2_with fail
  go_ret
  exact ⟨rfl, B1.out⟩
end Go.Proofs.YtccpmaahnfgkeaaGreatDoor
