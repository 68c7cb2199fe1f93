/- What the function enter of package heap does. No condition but those that each statement names. -/
import Derived.Test.YtgfjfpfhalblgaaHRd
import Derived.Deep.AppendLies
import Derived.Deep.RegionLaw
import Derived.Deep.DeepCutAuto
import Derived.BigRegion
namespace Go.Proofs.Ytgfjfpfhalblgaa
set_option maxRecDepth 1000000
open Go.ChangeShapes Go.WideShapes Go.ChangeAt Go.RowKit

section
variable {w w' : World} {c : Hp} {v v' : Value} {n nx : Nat} {B : List (Option Bk)} {V : Nat → Int}
theorem HeapM.next_set (h : HeapM w c v n B nx V) (m : Nat) : HeapM (w.setCell ⟨c.h, 2, none⟩ (.int .i64 m)) c v n B m V := by
  have o := h.ord
  have hf : ∀ k, k ≠ c.h → ∀ i, (w.setCell ⟨c.h, 2, none⟩ (.int .i64 m)).cell? ⟨k, i, none⟩ = w.cell? ⟨k, i, none⟩ := fun k hk i => World.cell?_setCell_other _ _ _ _ (by intro e; injection e with e1; exact hk e1.symm)
  refine ⟨?_, ?_, World.cell?_setCell_same _ _ _ h.c2, fun j => by rw [World.frozen?_setCell]; exact h.fz j, ?_, fun j hj => ⟨?_, by rw [World.frozen?_setCell]; exact (h.row j hj).2⟩, h.ord, by simpa [World.setCell] using h.lt, h.small, h.few⟩
  · rw [World.cell?_setCell_other _ _ _ _ (by simp)]; exact h.c0
  · rw [World.cell?_setCell_other _ _ _ _ (by simp)]; exact h.c1
  · exact own_only2 h.own ((Only.refl (· = c.h) w).setCell ⟨c.h, 2, none⟩ (.inl rfl) _) (fun b hb e => by have := (h.own.lt b hb).1; omega)
  · rw [hf c.x (by omega)]; exact (h.row j hj).1
theorem HeapM.row_set {g cap k : Nat} {o : Option Bk} (h : HeapM w c (.slice (some ⟨g, 0, none⟩) B.length cap) n B nx V) (hk : k < B.length) :
    HeapM ((w.setCell ⟨g, k * 2, none⟩ (.int .i64 (spA o))).setCell ⟨g, k * 2 + 1, none⟩ (.int .i64 (spL o))) c (.slice (some ⟨g, 0, none⟩) B.length cap) n (B.set k o) nx V := by
  have hg := h.own.lt g rfl
  have hord := h.ord
  have on : Only (· = g) w ((w.setCell ⟨g, k * 2, none⟩ (.int .i64 (spA o))).setCell ⟨g, k * 2 + 1, none⟩ (.int .i64 (spL o))) := ((Only.refl (· = g) w).setCell ⟨g, k * 2, none⟩ (.inl rfl) _).setCell ⟨g, k * 2 + 1, none⟩ (.inl rfl) _
  have h1 := (h.own.stored (k * 2) (.int .i64 (spA o))).1
  have h2 := (h1.stored (k * 2 + 1) (.int .i64 (spL o))).1
  rw [← cellsB_set hk] at h2
  have hl := h.lt
  exact ⟨(on.cell (p := ⟨c.h, 0, none⟩) hl (by show ¬ c.h = g; omega)).trans h.c0, (on.cell (p := ⟨c.h, 1, none⟩) hl (by show ¬ c.h = g; omega)).trans h.c1, (on.cell (p := ⟨c.h, 2, none⟩) hl (by show ¬ c.h = g; omega)).trans h.c2,
    fun j => (on.frozen (p := ⟨c.h, j, none⟩) hl (by show ¬ c.h = g; omega)).trans (h.fz j), by rw [List.length_set]; exact h2, h.row.only on (by show ¬ c.x = g; omega), h.ord, Nat.lt_of_lt_of_le hl on.size, h.small, by rw [List.length_set]; exact h.few⟩
theorem HeapM.grow {w1 w2 : World} {o : Option Bk} (h : HeapM w c v n B nx V) (hb : Below w.heap.size w w1) (hg : w1.grownBy w2 v.ownBlock) (hown : w2.ownsRow (c.h + 1) 58 2 v' (B.length + 1) (cellsB B ++ [.int .i64 (spA o), .int .i64 (spL o)])) (hf : B.length < 3000000000000) :
    HeapM (w2.setCell ⟨c.h, 1, none⟩ v') c v' n (B ++ [o]) nx V := by
  have hord := h.ord
  have h1 := h.fresh hb
  have on : Only (fun b => v.ownBlock = some b) w1 w2 := Only.grown (Only.refl _ _) hg (fun k hk => .inl hk)
  have nb : ∀ b, b ≤ c.h → ¬ v.ownBlock = some b := fun b hb e => by have := (h.own.lt b e).1; omega
  have c2 : ∀ i, w2.cell? ⟨c.h, i, none⟩ = w1.cell? ⟨c.h, i, none⟩ := fun i => on.cell (p := ⟨c.h, i, none⟩) h1.lt (nb _ (Nat.le_refl _))
  have f2 : ∀ i, w2.frozen? ⟨c.h, i, none⟩ = w1.frozen? ⟨c.h, i, none⟩ := fun i => on.frozen (p := ⟨c.h, i, none⟩) h1.lt (nb _ (Nat.le_refl _))
  have os : Only (· = c.h) w2 (w2.setCell ⟨c.h, 1, none⟩ v') := (Only.refl (· = c.h) _).setCell ⟨c.h, 1, none⟩ (.inl rfl) _
  refine ⟨?_, World.cell?_setCell_same _ _ _ ((c2 1).trans h1.c1), ?_, fun j => by rw [World.frozen?_setCell, f2]; exact h1.fz j, ?_, (h1.row.only on (nb _ (by omega))).only os (by show ¬ c.x = c.h; omega), h.ord, ?_, h.small, by simp; omega⟩
  · rw [World.cell?_setCell_other _ _ _ _ (by simp), c2]; exact h1.c0
  · rw [World.cell?_setCell_other _ _ _ _ (by simp), c2]; exact h1.c2
  · rw [List.length_append, cellsB_snoc]
    exact own_only2 hown os (fun b hb e => by have := (hown.lt b hb).1; omega)
  · have := on.size; have := h1.lt; simp [World.setCell]; omega
end

def padB (B : List (Option Bk)) (k : Nat) : List (Option Bk) := if k = B.length then B ++ [none] else B
/-- The new row is the old one, or in new memory. -/
def NewRow (w : World) (v v' : Value) : Prop := ∀ g, v'.ownBlock = some g → v.ownBlock = some g ∨ w.heap.size ≤ g
def EnRel (c : Hp) (v : Value) (n : Nat) (B : List (Option Bk)) (nx : Nat) (V : Nat → Int) (a q : Nat) (w wx : World) : Prop :=
  ∃ v1, HeapM wx c v1 n (padB B nx) nx V ∧ Box2 wx w.heap.size a q ∧ NewRow w v v1 ∧ Only (HF c v) w wx
/-- What enter tells and leaves. -/
def EnterPost (c : Hp) (v : Value) (n : Nat) (B : List (Option Bk)) (a q : Nat) (V : Nat → Int) (w : World) (e : Ending) (w' : World) : Prop :=
  ∃ v', e = .returned (.int .i64 (nextB B)) ∧ HeapM w' c v' n (putB B (nextB B) ⟨a, List.replicate q 0⟩) (nextB (putB B (nextB B) ⟨a, List.replicate q 0⟩)) V ∧ NewRow w v v' ∧ Only (HF c v) w w'
/-- In the loop. -/
def EnInv (v0 : Value) (c : Hp) (v : Value) (n : Nat) (B : List (Option Bk)) (j : Nat) (V : Nat → Int) (w wx : World) : Prop :=
  HeapM wx c v n B j V ∧ (∀ i, i < j → look B i ≠ none) ∧ Only (HF c v0) w wx ∧ j ≤ B.length
section
variable {w : World} {c : Hp} {v : Value} {n : Nat} {B : List (Option Bk)} {V : Nat → Int}
set_option maxHeartbeats 4000000 in
theorem enter_any (a q : Nat) (h : HeapM w c v n B (nextB B) V) (hf : B.length < 3000000000000) :
    Calls Try.prog 24 #[.pointer (some ⟨c.h, 0, none⟩), .agg #[.int .i64 a, .int .i64 q]] w (EnterPost c v n B a q V w) := by
  obtain ⟨i0, hi0, hz0, hz1, hz2⟩ := info_parts (show (Try.prog.info? 58).map (fun i => (i.zero, i.size, i.bytes)) = some (some (.agg #[.int .i64 0, .int .i64 0]), 2, 16) by kernel_rfl)
  have hle := next_le B
  have hN := Lib.hid (fun w => none_any w)
  have c1 := h.c1
  have c2 := h.c2
  have hlt := h.lt
  have HH := Lib.hid h
  obtain ⟨av, cap, rfl, hcap⟩ := h.form
  obtain ⟨nx, hnx⟩ : ∃ nx, nextB B = nx := ⟨_, rfl⟩
  have HX := Lib.hid hnx
  rw [hnx] at c2 hle HH
  clear h hnx
  have X0 := Lib.hid (box_new w a q 58)
  go_enter Try.func24, Try.ntmps24
  go_upto_if 16 with fail
  go_cut [] from 16 to 26 (fun wx => EnRel c (.slice av B.length cap) n B nx V a q w wx)
  case first =>
    by_cases hx : nx = B.length
    · have hd : ((nx : Int) == (B.length : Int)) = true := by simp [hx]
      have HX2 := Lib.hid hx
      clear hx
      obtain ⟨wb, hwb⟩ : ∃ wb, w.alloc (.cells #[.int .i64 (a : Int), .int .i64 (q : Int)] 58) = wb := ⟨_, rfl⟩
      have BB : Hid (Below w.heap.size w wb) := by show Below _ _ _; rw [← hwb]; exact (Below.refl _ _).alloc (Nat.le_refl _) _
      have c1' := (BB.out.cell (p := ⟨c.h, 1, none⟩) hlt).trans c1
      have hltb : c.h < wb.heap.size := by have := BB.out.size; omega
      rw [hwb] at X0
      go_wp2_with fail
      rw [hwb]
      have HB1 := Lib.hid (HH.out.fresh BB.out)
      clear hwb
      have K : Hid (∀ w', Below wb.heap.size wb w' → w'.cell? ⟨c.h, 1, none⟩ = some (.slice av B.length cap) ∧ c.h < w'.heap.size ∧ w'.ownsRow (c.h + 1) 58 2 (.slice av B.length cap) B.length (cellsB B)) := fun w' hb => ⟨(hb.cell (p := ⟨c.h, 1, none⟩) hltb).trans c1', by have := hb.size; omega, own_fresh HB1.out.own hb⟩
      have hsz1 : c.h + 1 ≤ wb.heap.size := hltb
      have K2 : Hid (∀ w2 w3 o, Below wb.heap.size wb w2 → (w2.alloc o).grownBy w3 (Value.slice av B.length cap).ownBlock → w3.cell? ⟨c.h, 1, none⟩ = some (.slice av B.length cap) ∧ w3.frozen? ⟨c.h, 1, none⟩ = false) := fun w2 w3 o hb hg => by
        have h2 := (HB1.out.fresh hb).fresh ((Below.refl _ _).alloc (Nat.le_refl _) o)
        have on : Only (fun b => (Value.slice av B.length cap).ownBlock = some b) (w2.alloc o) w3 := Only.grown (Only.refl _ _) hg (fun k hk => .inl hk)
        have nb : ¬ (Value.slice av B.length cap).ownBlock = some c.h := fun e => by have := (h2.own.lt _ e).1; omega
        exact ⟨(on.cell (p := ⟨c.h, 1, none⟩) h2.lt nb).trans h2.c1, (on.frozen (p := ⟨c.h, 1, none⟩) h2.lt nb).trans (h2.fz 1)⟩
      go_region_law (first | (refine step_append_lies _ (by rfl) _ _ _ (by rfl) (c.h + 1) 58 i0 (.agg #[.int .i64 0, .int .i64 0]) 2 16 Try.underlying51 hi0 hz0 hz1 hz2 rfl (by omega) _ B.length (cellsB B) (by rfl) (k3.alloc _) ⟨w2.heap.size, 0, none⟩ 1 1 [.int .i64 (-1), .int .i64 (-1)] (by rfl) (by rfl) (World.news_of_block (cs := #[.int .i64 (-1), .int .i64 (-1)]) (t := 58) (fr := (0, 0)) (heap_alloc_new w2 _)) (by simp [Value.oneCell']) (by omega) (by unfold maxLen; omega) (by omega) (by simp; omega) (w2.heap.size + 1) (by simp) ?_; intro gg cap' w3 hown3 hgrow hat hlt3; obtain ⟨q3, f3⟩ := K2.out w2 w3 _ hb2 hgrow) | (rw [if_pos (by rfl)]; go_simp; refine (hN.out _).mono ?_; rintro e w2 ⟨rfl, hb2⟩; have hb2 := undrew hb2; obtain ⟨k1, k2, k3⟩ := K.out w2 hb2; dsimp only))
      all_goals
        have EN : Hid (EnRel c (.slice av B.length cap) n B nx V a q w (w3.setCell ⟨c.h, 1, none⟩ (.slice (some ⟨gg, 0, none⟩) (B.length + 1) cap'))) := by
          show EnRel _ _ _ _ _ _ _ _ _ _
          have hg := HB1.out.grow (v' := .slice (some ⟨gg, 0, none⟩) (B.length + 1) cap') (o := none) (w1 := w2.alloc (.cells #[.int .i64 (-1), .int .i64 (-1)] 58)) (w2 := w3) (hb2.alloc hb2.size _) hgrow hown3 hf
          have on : Only (HF c (.slice av B.length cap)) wb (w3.setCell ⟨c.h, 1, none⟩ (.slice (some ⟨gg, 0, none⟩) (B.length + 1) cap')) :=
            ((Only.of_below ((show Below wb.heap.size wb w2 from hb2).alloc hb2.size _)).grown hgrow (fun k hk => .inl (.inr (.inr hk)))).setCell ⟨c.h, 1, none⟩ (.inl (.inr (.inl rfl))) _
          have hbx : ¬ HF c (.slice av B.length cap) w.heap.size := fun hF => by have := HF_lt HH.out _ hF; omega
          have hl := World.block_lt_of_cell? _ _ X0.out.c0
          refine ⟨_, by rw [padB, if_pos HX2.out]; exact hg, ⟨?_, ?_, ?_, ?_⟩, fun g hgo => ?_, (Only.of_below BB.out).then_ on (fun _ _ h => h)⟩
          · exact (on.cell (p := ⟨w.heap.size, 0, none⟩) hl hbx).trans X0.out.c0
          · exact (on.cell (p := ⟨w.heap.size, 1, none⟩) hl hbx).trans X0.out.c1
          · exact (on.frozen (p := ⟨w.heap.size, 0, none⟩) hl hbx).trans X0.out.fz.1
          · exact (on.frozen (p := ⟨w.heap.size, 1, none⟩) hl hbx).trans X0.out.fz.2
          · injection hgo with hgo
            subst hgo
            have h1 := hb2.size
            have h2 := BB.out.size
            have h3 : wb.drew.heap.size = wb.heap.size := rfl
            rcases hat with h | h
            · exact .inl h
            · exact .inr (by show _ ≤ gg; omega)
        clear hb2 k1 k2 k3 hat hlt3 q3 f3 hgrow hown3
        go_wp2_with fail
        go_meet
        case rel => exact EN.out
    · have hd : ((nx : Int) == (B.length : Int)) = false := by simp; omega
      have EN : Hid (EnRel c (.slice av B.length cap) n B nx V a q w (w.alloc (.cells #[.int .i64 (a : Int), .int .i64 (q : Int)] 58))) := by
        show EnRel _ _ _ _ _ _ _ _ _ _
        have bb : Below w.heap.size w (w.alloc (.cells #[.int .i64 (a : Int), .int .i64 (q : Int)] 58)) := (Below.refl _ _).alloc (Nat.le_refl _) _
        exact ⟨_, by rw [padB, if_neg hx]; exact HH.out.fresh bb, X0.out, fun g hg => .inl hg, Only.of_below bb⟩
      have HX2 := Lib.hid hx
      clear hx
      go_wp2_with fail
      go_meet
      case rel => exact EN.out
  case rest =>
    obtain ⟨v1, hm, hbx, hnr, ho⟩ := hcut
    have hk1 : nx < (padB B nx).length := by
      unfold padB
      split
      · simp; omega
      · omega
    have LP : Hid (∀ i, look ((padB B nx).set nx (some ⟨a, List.replicate q 0⟩)) i = look (putB B nx ⟨a, List.replicate q 0⟩) i) := fun i => rfl
    have NR := Lib.hid hnr
    have OC := Lib.hid ho
    obtain ⟨g, cap1, rfl, hcap1, hg1, hg2, e0, e1, ef⟩ := hm.rows hk1
    have d1 := hm.c1
    have HBX := Lib.hid hbx
    obtain ⟨b0, b1, _⟩ := hbx
    have ef0 := ef (nx * 2)
    have ef1 := ef (nx * 2 + 1)
    have HM := Lib.hid hm
    have hf1 := hm.few
    clear hm hnr ho ef
    generalize spA (look (padB B nx) nx) = x0 at e0
    generalize spL (look (padB B nx) nx) = y0 at e1
    obtain ⟨m, hm⟩ : ∃ m, (padB B nx).length = m := ⟨_, rfl⟩
    rw [hm] at hk1 hcap1 d1 hf1
    have HML := Lib.hid hm
    clear hm
    have hk1' : (nx : Int) < m := by omega
    obtain ⟨B2, hB2⟩ : ∃ B2, putB B nx ⟨a, List.replicate q 0⟩ = B2 := ⟨_, rfl⟩
    have HB2 := Lib.hid hB2
    have hl2 : B2.length = m := by rw [← hB2, ← HML.out]; unfold putB padB; rw [List.length_set]
    have I0 : Hid (EnInv (.slice av B.length cap) c (.slice (some ⟨g, 0, none⟩) m cap1) n B2 nx V w ((wc.setCell ⟨g, nx * 2, none⟩ (.int .i64 (a : Int))).setCell ⟨g, nx * 2 + 1, none⟩ (.int .i64 (q : Int))).drew) := by
      show EnInv _ _ _ _ _ _ _ _ _
      have hm2 := HM.out.row_set (k := nx) (o := some ⟨a, List.replicate q 0⟩) (by rw [HML.out]; exact hk1)
      have e : spL (some ⟨a, List.replicate q 0⟩) = (q : Int) := by simp [spL]
      rw [e] at hm2
      have e2 : (padB B nx).set nx (some ⟨a, List.replicate q 0⟩) = B2 := by rw [← hB2]; rfl
      rw [e2, HML.out] at hm2
      have hgF : HF c (.slice av B.length cap) g ∨ w.heap.size ≤ g := (NR.out g rfl).imp (fun h => .inr (.inr h)) id
      refine ⟨HeapM.fresh hm2 (below_drewN (Below.refl _ _) 1), ?_, ((OC.out.setCell ⟨g, nx * 2, none⟩ hgF _).setCell ⟨g, nx * 2 + 1, none⟩ hgF _).drewN 1, by omega⟩
      intro i hi
      rw [← hB2, look_put hle]
      split
      · simp
      · exact next_some (by rw [HX.out]; exact hi)
    go_wp2_with fail
    go_region
    obtain ⟨W4, hW4⟩ : ∃ W4, ((wc.setCell ⟨g, nx * 2, none⟩ (.int .i64 (a : Int))).setCell ⟨g, nx * 2 + 1, none⟩ (.int .i64 (q : Int))).drew = W4 := ⟨_, rfl⟩
    rw [hW4] at I0 ⊢
    clear hW4 d1 e0 e1 ef0 ef1 b0 b1 HBX hB2 c1 c2
    go_wp2_with fail
    go_loopg [] (m + 1) (fun gk wx => ∃ j : Nat, EnInv (.slice av B.length cap) c (.slice (some ⟨g, 0, none⟩) m cap1) n B2 j V w wx ∧ m + 1 ≤ j + gk)
    case atStart => exact ⟨nx, I0.out, by omega⟩
    case round =>
      obtain ⟨j, ⟨hm, hall, on, hj⟩, hgk⟩ := hrel
      have d1 := hm.c1
      have d2 := hm.c2
      have hltr := hm.lt
      have HMJ := Lib.hid hm
      have HAL := Lib.hid hall
      have HON := Lib.hid on
      rw [hl2] at hj
      by_cases hjm : j < m
      · obtain ⟨g', cap', he, _, hg3, hg4, e0, e1, ef⟩ := hm.rows (k := j) (by rw [hl2]; exact hjm)
        injection he with q1 q2 q3
        injection q1 with q1
        injection q1 with q1 _ _
        subst q1 q3
        clear q2 hm hall on ef
        have hjm' : (j : Int) < m := by omega
        have hjm2 : decide ((j : Int) < (m : Int)) = true := decide_eq_true hjm'
        cases ho : look B2 j with
        | none =>
          rw [ho] at e0 e1
          have HE : Hid (nextB B2 = j) := next_is (by omega) HAL.out (fun _ => ho)
          have hq := neq_span none
          have hgd := fun op x y xs ys w => guard_span op x y xs ys w
          simp only [spA, spL, Option.isSome] at e0 e1 hq
          have KB : Hid (∀ w', Below wr.drew.heap.size wr.drew w' → (w'.cell? ⟨c.h, 2, none⟩ = some (.int .i64 (j : Int)) ∧ w'.cell? ⟨c.h, 1, none⟩ = some (.slice (some ⟨g, 0, none⟩) m cap1) ∧ w'.cell? ⟨g, j * 2, none⟩ = some (.int .i64 (-1)) ∧ w'.cell? ⟨g, j * 2 + 1, none⟩ = some (.int .i64 (-1))) ∧ Below wr.heap.size wr w') := fun w' hb' => by
            have hb : Below wr.heap.size wr w' := undrew hb'
            exact ⟨⟨(hb.cell (p := ⟨c.h, 2, none⟩) hltr).trans d2, (hb.cell (p := ⟨c.h, 1, none⟩) hltr).trans d1, (hb.cell (p := ⟨g, j * 2, none⟩) hg4).trans e0, (hb.cell (p := ⟨g, j * 2 + 1, none⟩) hg4).trans e1⟩, hb⟩
          clear ho
          go_wp2_with fail
          go_region_held3 (fun w' => w'.cell? ⟨c.h, 2, none⟩ = some (.int .i64 (j : Int)) ∧ w'.cell? ⟨c.h, 1, none⟩ = some (.slice (some ⟨g, 0, none⟩) m cap1) ∧ w'.cell? ⟨g, j * 2, none⟩ = some (.int .i64 (-1)) ∧ w'.cell? ⟨g, j * 2 + 1, none⟩ = some (.int .i64 (-1))) (first | go_keep | (exact (KB.out _ hb2).1)) (first | (go_at_call 26; refine (hN.out _).mono ?_; rintro e w2 ⟨rfl, hb2⟩))
          have B5 := Lib.hid (KB.out w2 hb2).2
          clear hb2 d1 d2 e0 e1
          go_wp2
          go_ret
          exact ⟨.slice (some ⟨g, 0, none⟩) m cap1, by rw [HX.out]; rfl, by rw [HX.out, HB2.out, HE.out]; exact HMJ.out.fresh B5.out, fun k hk => NR.out k hk, HON.out.then_ (Only.of_below B5.out) (fun _ _ h => h)⟩
        | some b =>
          have HE : Hid (∀ i, i < j + 1 → look B2 i ≠ none) := fun i hi => by
            by_cases h : i = j
            · rw [h, ho]; simp
            · exact HAL.out i (by omega)
          rw [ho] at e0 e1
          have hq := neq_span (some b)
          have hgd := fun op x y xs ys w => guard_span op x y xs ys w
          simp only [Option.isSome] at hq
          generalize spA (some b) = x at e0 hq
          generalize spL (some b) = y at e1 hq
          have KB : Hid (∀ w', Below wr.drew.heap.size wr.drew w' → (w'.cell? ⟨c.h, 2, none⟩ = some (.int .i64 (j : Int)) ∧ w'.cell? ⟨c.h, 1, none⟩ = some (.slice (some ⟨g, 0, none⟩) m cap1) ∧ w'.cell? ⟨g, j * 2, none⟩ = some (.int .i64 x) ∧ w'.cell? ⟨g, j * 2 + 1, none⟩ = some (.int .i64 y)) ∧ Below wr.heap.size wr w') := fun w' hb' => by
            have hb : Below wr.heap.size wr w' := undrew hb'
            exact ⟨⟨(hb.cell (p := ⟨c.h, 2, none⟩) hltr).trans d2, (hb.cell (p := ⟨c.h, 1, none⟩) hltr).trans d1, (hb.cell (p := ⟨g, j * 2, none⟩) hg4).trans e0, (hb.cell (p := ⟨g, j * 2 + 1, none⟩) hg4).trans e1⟩, hb⟩
          clear ho
          go_wp2_with fail
          go_region_held3 (fun w' => w'.cell? ⟨c.h, 2, none⟩ = some (.int .i64 (j : Int)) ∧ w'.cell? ⟨c.h, 1, none⟩ = some (.slice (some ⟨g, 0, none⟩) m cap1) ∧ w'.cell? ⟨g, j * 2, none⟩ = some (.int .i64 x) ∧ w'.cell? ⟨g, j * 2 + 1, none⟩ = some (.int .i64 y)) (first | go_keep | (exact (KB.out _ hb2).1)) (first | (go_at_call 26; refine (hN.out _).mono ?_; rintro e w2 ⟨rfl, hb2⟩))
          have B5 := Lib.hid (KB.out w2 hb2).2
          have M5 := Lib.hid (HMJ.out.fresh B5.out)
          have s2 := M5.out.c2
          have sf := M5.out.fz 2
          clear hb2 d1 d2 e0 e1
          obtain ⟨gk, rfl⟩ : ∃ gq, gk = gq + 1 := ⟨gk - 1, by omega⟩
          go_wp2
          go_roundg gk
          case rel =>
            have hn := M5.out.next_set (j + 1)
            refine ⟨j + 1, ⟨by first | exact hn | (have e : ((j : Int) + 1) = ((j + 1 : Nat) : Int) := by omega
                                                   rw [e]; exact hn), HE.out, (HON.out.then_ (Only.of_below B5.out) (fun _ _ h => h)).setCell ⟨c.h, 2, none⟩ (.inl (.inr (.inl rfl))) _, by omega⟩, by omega⟩
          case measure => omega
      · obtain rfl : j = m := by omega
        have HE : Hid (nextB B2 = j) := next_is (by omega) HAL.out (fun h => by omega)
        have hd : decide ((j : Int) < (j : Int)) = false := decide_eq_false (by omega)
        clear hm hall on
        go_wp2_with fail
        go_quiet (fail)
        go_wp2
        go_ret
        exact ⟨.slice (some ⟨g, 0, none⟩) j cap1, by rw [HX.out]; rfl, by rw [HX.out, HB2.out, HE.out]; exact HMJ.out.fresh (below_drewN (Below.refl _ _) _), fun k hk => NR.out k hk, HON.out.drewN _⟩
end
end Go.Proofs.Ytgfjfpfhalblgaa
