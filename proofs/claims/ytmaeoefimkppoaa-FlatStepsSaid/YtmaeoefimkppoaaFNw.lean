/- What New of a memory does. -/
import Derived.Test.YtmaeoefimkppoaaFOb
import Derived.StillTailTactics
import Derived.Deep.AppendLies
import Derived.Deep.RegionLaw
import Derived.BigRegion
import Derived.WalkSpells
namespace Go.Proofs.Ytmaeoefimkppoaa.Fl
set_option maxRecDepth 1000000
open Go.ChangeShapes Go.WideShapes Go.ChangeAt Go.RowKit
open Go.Proofs.Ytmaeoefimkppoaa.Wd

def NewPost (K : Nat → Prop) (m : Nat) (E' : Mem) (n t : Int) (w : World) (e : Ending) (w' : World) : Prop := e = .returned (.tuple #[.int .i64 n, .int .i64 t]) ∧ MemB K w' m E' ∧ Keeps K w w'
def NewP (m : Nat) (r : Option Nat) (nv : Value) : Nat → Prop := fun g => g = m ∨ r = some g ∨ nv.ownBlock = some g
section
variable {w w' : World} {K : Nat → Prop} {m : Nat} {r : Option Nat} {nv : Value} {L : List (Option En)}
theorem MemR.new_lt (h : MemR w K m r nv L) : ∀ g, NewP m r nv g → g < w.heap.size ∧ ¬ K g := by
  rintro g (rfl | hg | hg)
  · exact ⟨h.lt, h.km⟩
  · refine ⟨?_, h.kr g hg⟩
    rcases h.mp with ⟨h0, _⟩ | ⟨b', h0, hm⟩
    · rw [h0] at hg; cases hg
    · rw [h0] at hg; cases hg; exact hm.lt
  · exact ⟨own_lt h.nums hg, h.kn g hg⟩
theorem MemR.new_off (h : MemR w K m r nv L) {i : Int} {e : En} (he : at_ L i = some e) {g : Nat} (hg : e.rv.ownBlock = some g) : ¬ NewP m r nv g := by
  rintro (rfl | hb | hb)
  · exact (h.off i e he _ hg).2 rfl
  · rcases h.mp with ⟨h0, _⟩ | ⟨b', h0, hm⟩
    · rw [h0] at hb; cases hb
    · rw [h0] at hb; cases hb
      obtain ⟨es, ck, hmm⟩ := hm.obj
      rcases (h.rows i e he).row with ⟨_, hrr⟩ | ⟨_, hrr⟩ <;> exact own_not_map hrr hg hmm rfl
  · exact (h.off i e he g hg).1 hb
/-- One object more. -/
theorem MemR.grow (h : MemR w K m r nv L) (hfew : L.length < 1000000) {b : Nat} {nv' : Value} {e' : En} (o : Only (NewP m r nv) w w')
    (c0 : w'.cell? ⟨m, 0, none⟩ = some (.int .i64 (L.length + 1 : Nat))) (c1 : w'.cell? ⟨m, 1, none⟩ = some (.map (some b))) (c2 : w'.cell? ⟨m, 2, none⟩ = some nv') (fz : ∀ j, w'.frozen? ⟨m, j, none⟩ = false)
    (mp : MapV w' b (L.length + 1) (putM (fun i => (at_ L i).map En.val) ((L.length : Int) + 1) e'.val)) (nums : w'.ownsRow 0 3 1 nv' ((ids L).length + 1) (((ids L).map (Value.int .i64)) ++ [.int .i64 ((L.length : Int) + 1)]))
    (hnv : ∀ g, nv'.ownBlock = some g → nv.ownBlock = some g ∨ w.heap.size ≤ g) (row : e'.Row w') (hrow : ∀ g, e'.rv.ownBlock = some g → w.heap.size ≤ g ∧ nv'.ownBlock ≠ some g) (hb : r = some b ∨ w.heap.size ≤ b) :
    MemR w' K m (some b) nv' (L ++ [some e']) := by
  have hat : ∀ j, at_ (L ++ [some e']) j = if j = L.length + 1 then some e' else at_ L j := fun j => at_push L _ j
  have hid : ids (L ++ [some e']) = ids L ++ [(L.length : Int) + 1] := ids_push L e'
  have nk : ∀ g, w.heap.size ≤ g → ¬ K g := fun g hg hk => by have := h.kb g hk; omega
  have nm : ∀ g, w.heap.size ≤ g → g ≠ m := fun g hg e => by have := h.lt; omega
  refine { c0 := by rw [List.length_append]; exact c0, c1 := c1, c2 := c2, fz := fz, mp := .inr ⟨b, rfl, ?_⟩, nums := ?_, rows := ?_, apart := ?_, off := ?_, offn := ?_, offr := ?_, km := h.km, kr := ?_, kn := ?_, ko := ?_, kb := fun g hg => Nat.lt_of_lt_of_le (h.kb g hg) o.size, lt := Nat.lt_of_lt_of_le h.lt o.size, few := by simp; omega }
  · rw [List.length_append]
    refine mp.congr fun j _ => ?_
    rw [hat]
    unfold putM
    split <;> simp_all
  · rw [hid]
    simpa using nums
  · intro j y hy
    rw [hat] at hy
    split at hy
    · cases hy; exact row
    · exact (h.rows j y hy).only o fun q hq => h.new_off hy hq
  · intro i j x y hx hy hne q hq
    rw [hat] at hx hy
    split at hx <;> split at hy
    · rename_i h1 h2; exact absurd (h1.trans h2.symm) hne
    · cases hx
      have := (hrow q hq).1
      intro hq2
      have := (h.rows j y hy).lt hq2
      omega
    · cases hy
      intro hq2
      have := (hrow q hq2).1
      have := (h.rows i x hx).lt hq
      omega
    · exact h.apart i j x y hx hy hne q hq
  · intro j y hy q hq
    rw [hat] at hy
    split at hy
    · cases hy; exact ⟨(hrow q hq).2, nm q (hrow q hq).1⟩
    · refine ⟨fun hq2 => ?_, (h.off j y hy q hq).2⟩
      rcases hnv q hq2 with h1 | h1
      · exact (h.off j y hy q hq).1 h1
      · have := (h.rows j y hy).lt hq; omega
  · intro q hq
    rcases hnv q hq with h1 | h1
    · exact h.offn q h1
    · exact nm q h1
  · intro q hq
    cases hq
    rcases hb with h1 | h1
    · exact h.offr b h1
    · exact nm b h1
  · intro q hq
    cases hq
    rcases hb with h1 | h1
    · exact h.kr b h1
    · exact nk b h1
  · intro q hq
    rcases hnv q hq with h1 | h1
    · exact h.kn q h1
    · exact nk q h1
  · intro j y hy q hq
    rw [hat] at hy
    split at hy
    · cases hy; exact nk q (hrow q hq).1
    · exact h.ko j y hy q hq
theorem MemR.keeps (h : MemR w K m r nv L) (o : Only (NewP m r nv) w w') : Keeps K w w' := ⟨o.os, o.tape, o.output, o.size, fun g hg hn => o.block g hg fun hp => hn (h.new_lt g hp).2⟩
end

/-- In New, behind the making: the object lies in the box bx, the map at b. -/
structure NewS (w wr : World) (m b bx : Nat) (r : Option Nat) (nv : Value) (L : List (Option En)) (e' : En) (x y : Int) (z u : Value) (cnt : Nat) (f : Int → Option Value) : Prop where
  c0 : wr.cell? ⟨m, 0, none⟩ = some (.int .i64 ((L.length : Int) + 1))
  c1 : wr.cell? ⟨m, 1, none⟩ = some (.map (some b))
  c2 : wr.cell? ⟨m, 2, none⟩ = some nv
  fz : ∀ j, wr.frozen? ⟨m, j, none⟩ = false
  box : Box bx (.int .i64 x) (.int .i64 y) z u wr
  bxl : w.heap.size ≤ bx
  mp : MapV wr b cnt f
  nums : wr.ownsRow 0 3 1 nv (ids L).length ((ids L).map (Value.int .i64))
  row : e'.Row wr
  rown : ∀ g, e'.rv.ownBlock = some g → w.heap.size ≤ g
  on : Only (NewP m r nv) w wr
  hb : r = some b ∨ w.heap.size ≤ b
  bm : b ≠ m
  lt : m < wr.heap.size
theorem MapV.not_own {w : World} {b e n base : Nat} {f : Int → Option Value} {t : TypeId} {v : Value} {xs : List Value} (h : MapV w b e f) (ho : w.ownsRow base t 1 v n xs) : v.ownBlock ≠ some b := by
  intro hv
  obtain ⟨es, ck, hmm⟩ := h.obj
  exact own_not_map ho hv hmm rfl
theorem En.Row.not_map {w : World} {b c : Nat} {f : Int → Option Value} {e : En} (h : e.Row w) (hm : MapV w b c f) : e.rv.ownBlock ≠ some b := by
  rcases h.row with ⟨_, hr⟩ | ⟨_, hr⟩ <;> exact hm.not_own hr
theorem box_not_map {w : World} {b c bx : Nat} {x y z u : Value} {f : Int → Option Value} (h : Box bx x y z u w) (hm : MapV w b c f) : bx ≠ b := by
  rintro rfl
  obtain ⟨es, ck, hmm⟩ := hm.obj
  have := h.1.1
  simp [World.cell?, hmm] at this
section
variable {w wr : World} {m b bx cnt : Nat} {r : Option Nat} {nv : Value} {L : List (Option En)} {e' : En} {x y : Int} {z u : Value} {f : Int → Option Value}
theorem NewS.drew (h : NewS w wr m b bx r nv L e' x y z u cnt f) : NewS w wr.drew m b bx r nv L e' x y z u cnt f :=
  ⟨h.c0, h.c1, h.c2, h.fz, h.box, h.bxl, h.mp.heap rfl, h.nums, ⟨h.row.ok, h.row.by_, h.row.row⟩, h.rown, ⟨h.on.os, h.on.tape, h.on.output, h.on.size, h.on.block⟩, h.hb, h.bm, h.lt⟩
theorem NewS.store (h : NewS w wr m b bx r nv L e' x y z u cnt f) (_hr : ∀ g, r = some g → g < w.heap.size) (hc : cnt < 2000000) (i : Int) (hi : W64 i) (v : Value) :
    ∃ w2, (Instr.mapUpdate 73 (.map (some b)) (.int .i64 i) v).run Try.prog wr = .ok () w2 ∧ NewS w w2 m b bx r nv L e' x y z u (cnt + 1) (putM f i v) := by
  obtain ⟨w2, r1, r2, o⟩ := h.mp.store i hi v (by omega)
  have hm : ¬ (m = b) := fun e => h.bm e.symm
  refine ⟨w2, r1, (o.cell (p := ⟨m, 0, none⟩) h.lt hm).trans h.c0, (o.cell (p := ⟨m, 1, none⟩) h.lt hm).trans h.c1, (o.cell (p := ⟨m, 2, none⟩) h.lt hm).trans h.c2, fun j => (o.frozen (p := ⟨m, j, none⟩) h.lt hm).trans (h.fz j),
    h.box.only o (box_not_map h.box h.mp), h.bxl, r2, own_only h.nums o (fun g hg e => h.mp.not_own h.nums (by rw [hg, e])), h.row.only o (fun g hg e => h.row.not_map h.mp (by rw [hg, e])), h.rown, ?_, h.hb, h.bm, Nat.lt_of_lt_of_le h.lt o.size⟩
  refine ⟨o.os.trans h.on.os, o.tape.trans h.on.tape, o.output.trans h.on.output, Nat.le_trans h.on.size o.size, fun k hk hn => (o.block k (Nat.lt_of_lt_of_le hk h.on.size) ?_).trans (h.on.block k hk hn)⟩
  rintro rfl
  rcases h.hb with h1 | h1
  · exact hn (.inr (.inl h1))
  · omega
/-- The numbers grown, the field written: it is the memory with one more. -/
theorem NewS.last {K : Nat → Prop} (h : NewS w wr m b bx r nv L e' x y z u (L.length + 1) (putM (fun i => (at_ L i).map En.val) ((L.length : Int) + 1) e'.val)) (H : MemR w K m r nv L) (hfew : L.length < 1000000) {o : Obj} {gg cap : Nat} {w3 : World}
    (hg : (wr.alloc o).grownBy w3 nv.ownBlock) (hown : w3.ownsRow 0 3 1 (.slice (some ⟨gg, 0, none⟩) ((ids L).length + 1) cap) ((ids L).length + 1) (((ids L).map (Value.int .i64)) ++ [.int .i64 ((L.length : Int) + 1)])) (hat : nv.ownBlock = some gg ∨ gg = wr.heap.size + 1) :
    MemR (w3.setCell ⟨m, 2, none⟩ (.slice (some ⟨gg, 0, none⟩) ((ids L).length + 1) cap)) K m (some b) (.slice (some ⟨gg, 0, none⟩) ((ids L).length + 1) cap) (L ++ [some e']) ∧
      Only (NewP m r nv) w (w3.setCell ⟨m, 2, none⟩ (.slice (some ⟨gg, 0, none⟩) ((ids L).length + 1) cap)) := by
  have s1 := h.on.size
  have hnm : ∀ q, nv.ownBlock = some q → q < w.heap.size := fun q hq => own_lt H.nums hq
  have o1 : Only (fun g => nv.ownBlock = some g) wr w3 := ⟨hg.os, hg.tape, hg.output, by have := hg.size; simp at this; omega, fun k hk hn => (hg.block k (by simp; omega) (fun e => hn e.symm)).trans (by rw [Below.heap_alloc _ _ _ hk])⟩
  have o2 : Only (· = m) w3 (w3.setCell ⟨m, 2, none⟩ (.slice (some ⟨gg, 0, none⟩) ((ids L).length + 1) cap)) := only_set w3 m 2 _
  have o3 : Only (fun g => nv.ownBlock = some g ∨ g = m) wr (w3.setCell ⟨m, 2, none⟩ (.slice (some ⟨gg, 0, none⟩) ((ids L).length + 1) cap)) :=
    ⟨o2.os.trans o1.os, o2.tape.trans o1.tape, o2.output.trans o1.output, Nat.le_trans o1.size o2.size, fun k hk hn => (o2.block k (Nat.lt_of_lt_of_le hk o1.size) (fun e => hn (.inr e))).trans (o1.block k hk (fun e => hn (.inl e)))⟩
  have on : Only (NewP m r nv) w (w3.setCell ⟨m, 2, none⟩ (.slice (some ⟨gg, 0, none⟩) ((ids L).length + 1) cap)) :=
    ⟨o3.os.trans h.on.os, o3.tape.trans h.on.tape, o3.output.trans h.on.output, Nat.le_trans h.on.size o3.size, fun k hk hn => (o3.block k (Nat.lt_of_lt_of_le hk h.on.size) (fun e => hn (e.elim (fun h => .inr (.inr h)) .inl))).trans (h.on.block k hk hn)⟩
  have hmn : ¬ nv.ownBlock = some m := fun e => H.offn m e rfl
  have hltw := h.lt
  have e0 : ∀ j, w3.cell? ⟨m, j, none⟩ = wr.cell? ⟨m, j, none⟩ := fun j => o1.cell (p := ⟨m, j, none⟩) hltw hmn
  have ef : ∀ j, w3.frozen? ⟨m, j, none⟩ = wr.frozen? ⟨m, j, none⟩ := fun j => o1.frozen (p := ⟨m, j, none⟩) hltw hmn
  have hbn : ¬ (nv.ownBlock = some b ∨ b = m) := by
    rintro (e | e)
    · exact h.mp.not_own h.nums e
    · exact h.bm e
  have hgg : ∀ g, (Value.slice (some ⟨gg, 0, none⟩) ((ids L).length + 1) cap).ownBlock = some g → g = gg := fun g hg => by injection hg with hg; exact hg.symm
  have hggm : gg ≠ m := by
    rcases hat with e | e
    · exact H.offn gg e
    · omega
  refine ⟨H.grow hfew on ?_ ?_ ?_ ?_ (h.mp.only o3 hbn) ?_ ?_ (h.row.only o3 ?_) ?_ h.hb, on⟩
  · rw [World.cell?_setCell_other _ _ _ _ (by simp), e0, h.c0]; rfl
  · rw [World.cell?_setCell_other _ _ _ _ (by simp), e0, h.c1]
  · exact World.cell?_setCell_same _ _ _ ((e0 2).trans h.c2)
  · intro j; rw [World.frozen?_setCell, ef, h.fz]
  · exact own_only hown o2 fun g hg e => hggm ((hgg g hg).symm.trans e)
  · intro g hg
    rw [hgg g hg]
    rcases hat with e | e
    · exact .inl e
    · exact .inr (by omega)
  · rintro g hg (e | e)
    · have := h.rown g hg; have := hnm g e; omega
    · have := h.rown g hg; have := H.lt; omega
  · intro g hg
    refine ⟨h.rown g hg, fun e => ?_⟩
    have e1 := hgg g e
    have hlt := h.row.lt hg
    rcases hat with e2 | e2
    · have := h.rown g hg; have := hnm gg e2; omega
    · omega
end
section
variable {w w' : World} {K : Nat → Prop} {m : Nat} {r : Option Nat} {nv : Value} {L : List (Option En)}
theorem MemR.news (h : MemR w K m r nv L) {w1 : World} (hb : Below w.heap.size w w1) {e' : En} (hrow : e'.Row w1) (hown : ∀ g, e'.rv.ownBlock = some g → w.heap.size ≤ g) {x y : Int} {z u : Value} {b : Nat} (hr : r = some b) :
    NewS w ((w1.setCell ⟨m, 0, none⟩ (.int .i64 ((L.length : Int) + 1))).alloc (.cells #[.int .i64 x, .int .i64 y, z, u] 33)) m b w1.heap.size r nv L e' x y z u L.length (fun i => (at_ L i).map En.val) := by
  have h1 := h.fresh hb
  have o1 : Only (· = m) w1 (w1.setCell ⟨m, 0, none⟩ (.int .i64 ((L.length : Int) + 1))) := only_set w1 m 0 _
  have b2 := below_new (w1.setCell ⟨m, 0, none⟩ (.int .i64 ((L.length : Int) + 1))) (.cells #[.int .i64 x, .int .i64 y, z, u] 33)
  have hs : (w1.setCell ⟨m, 0, none⟩ (.int .i64 ((L.length : Int) + 1))).heap.size = w1.heap.size := by simp [World.setCell]
  have o2 : Only (· = m) w1 ((w1.setCell ⟨m, 0, none⟩ (.int .i64 ((L.length : Int) + 1))).alloc (.cells #[.int .i64 x, .int .i64 y, z, u] 33)) :=
    ⟨b2.os.trans o1.os, b2.tape.trans o1.tape, b2.output.trans o1.output, by simp [hs], fun k hk hn => (b2.block k (by omega)).trans (o1.block k hk hn)⟩
  have hm := h1.lt
  have hm2 : m < (w1.setCell ⟨m, 0, none⟩ (.int .i64 ((L.length : Int) + 1))).heap.size := by omega
  have bx := box_new (w1.setCell ⟨m, 0, none⟩ (.int .i64 ((L.length : Int) + 1))) (.int .i64 x) (.int .i64 y) z u
  rw [hs] at bx
  have hmp : MapV w1 b L.length (fun i => (at_ L i).map En.val) := by
    rcases h1.mp with ⟨h0, _⟩ | ⟨b', h0, hm⟩
    · rw [hr] at h0; cases h0
    · rw [hr] at h0; cases h0; exact hm
  have hbm := h.offr b hr
  refine ⟨?_, ?_, ?_, ?_, bx, hb.size, hmp.only o2 hbm, own_only h1.nums o2 (fun g hg e => h.offn g hg e), hrow.only o2 (fun g hg e => ?_), hown, ?_, .inl hr, hbm, by simp; omega⟩
  · rw [World.cell?_alloc_lt _ _ _ hm2]
    exact World.cell?_setCell_same _ _ _ h1.c0
  · rw [World.cell?_alloc_lt _ _ _ hm2, World.cell?_setCell_other _ _ _ _ (by simp), h1.c1, hr]
  · rw [World.cell?_alloc_lt _ _ _ hm2, World.cell?_setCell_other _ _ _ _ (by simp), h1.c2]
  · intro j
    have := b2.frozen (p := ⟨m, j, none⟩) hm2
    rw [this, World.frozen?_setCell, h1.fz]
  · have := hown g hg
    have := h.lt
    omega
  · exact ⟨o2.os.trans hb.os, o2.tape.trans hb.tape, o2.output.trans hb.output, Nat.le_trans hb.size o2.size, fun k hk hn => (o2.block k (Nat.lt_of_lt_of_le hk hb.size) (fun e => hn (.inl e))).trans (hb.block k hk)⟩
theorem MemR.news0 (h : MemR w K m none nv L) {w1 : World} (hb : Below w.heap.size w w1) {e' : En} (hrow : e'.Row w1) (hown : ∀ g, e'.rv.ownBlock = some g → w.heap.size ≤ g) {x y : Int} {z u : Value} :
    NewS w ((((w1.setCell ⟨m, 1, none⟩ (.map (some (w1.heap.size + 1)))).setCell ⟨m, 0, none⟩ (.int .i64 ((L.length : Int) + 1))).alloc (.cells #[.int .i64 x, .int .i64 y, z, u] 33)).alloc (.map #[] 0)) m (w1.heap.size + 1) w1.heap.size none nv L e' x y z u L.length (fun i => (at_ L i).map En.val) := by
  have h1 := h.fresh hb
  have o0 : Only (· = m) w1 (w1.setCell ⟨m, 1, none⟩ (.map (some (w1.heap.size + 1)))) := only_set w1 m 1 _
  have o1 : Only (· = m) w1 ((w1.setCell ⟨m, 1, none⟩ (.map (some (w1.heap.size + 1)))).setCell ⟨m, 0, none⟩ (.int .i64 ((L.length : Int) + 1))) := o0.trans (only_set _ m 0 _)
  obtain ⟨wc, hwc⟩ : ∃ wc, (w1.setCell ⟨m, 1, none⟩ (.map (some (w1.heap.size + 1)))).setCell ⟨m, 0, none⟩ (.int .i64 ((L.length : Int) + 1)) = wc := ⟨_, rfl⟩
  have hs : wc.heap.size = w1.heap.size := by rw [← hwc]; simp [World.setCell]
  have g0 : wc.cell? ⟨m, 0, none⟩ = some (.int .i64 ((L.length : Int) + 1)) := by
    rw [← hwc]
    exact World.cell?_setCell_same _ _ _ (by rw [World.cell?_setCell_other _ _ _ _ (by simp)]; exact h1.c0)
  have g1 : wc.cell? ⟨m, 1, none⟩ = some (.map (some (w1.heap.size + 1))) := by
    rw [← hwc, World.cell?_setCell_other _ _ _ _ (by simp)]
    exact World.cell?_setCell_same _ _ _ h1.c1
  have g2 : wc.cell? ⟨m, 2, none⟩ = some nv := by
    rw [← hwc, World.cell?_setCell_other _ _ _ _ (by simp), World.cell?_setCell_other _ _ _ _ (by simp), h1.c2]
  have gf : ∀ j, wc.frozen? ⟨m, j, none⟩ = false := fun j => by rw [← hwc, World.frozen?_setCell, World.frozen?_setCell, h1.fz]
  rw [hwc] at o1 ⊢
  clear hwc o0
  have bx := (box_new wc (.int .i64 x) (.int .i64 y) z u).next (below_new _ (.map #[] 0))
  have b2 : Below wc.heap.size wc ((wc.alloc (.cells #[.int .i64 x, .int .i64 y, z, u] 33)).alloc (.map #[] 0)) := (below_new _ _).alloc (by simp) _
  have hmm := map_made (wc.alloc (.cells #[.int .i64 x, .int .i64 y, z, u] 33))
  have hz : (wc.alloc (.cells #[.int .i64 x, .int .i64 y, z, u] 33)).heap.size = w1.heap.size + 1 := by simp [hs]
  rw [hz] at hmm
  rw [hs] at bx
  have hm := h1.lt
  have hm2 : m < wc.heap.size := by omega
  have o2 : Only (· = m) w1 ((wc.alloc (.cells #[.int .i64 x, .int .i64 y, z, u] 33)).alloc (.map #[] 0)) :=
    ⟨b2.os.trans o1.os, b2.tape.trans o1.tape, b2.output.trans o1.output, by have := b2.size; omega, fun k hk hn => (b2.block k (by omega)).trans (o1.block k hk hn)⟩
  have hsz := hb.size
  refine ⟨(b2.cell (p := ⟨m, 0, none⟩) hm2).trans g0, (b2.cell (p := ⟨m, 1, none⟩) hm2).trans g1, (b2.cell (p := ⟨m, 2, none⟩) hm2).trans g2, fun j => (b2.frozen (p := ⟨m, j, none⟩) hm2).trans (gf j), bx, hsz, (hmm.mono (Nat.zero_le _)).congr (fun i hi => ?_), own_only h1.nums o2 (fun g hg e => h.offn g hg e), hrow.only o2 (fun g hg e => ?_), hown, ?_, .inr (by omega), by omega, by simp; omega⟩
  · rcases h.mp with ⟨_, h0⟩ | ⟨b', h0, _⟩
    · exact (h0 i hi).symm
    · cases h0
  · have := hown g hg
    have := h.lt
    omega
  · exact ⟨o2.os.trans hb.os, o2.tape.trans hb.tape, o2.output.trans hb.output, Nat.le_trans hb.size o2.size, fun k hk hn => (o2.block k (Nat.lt_of_lt_of_le hk hb.size) (fun e => hn (.inl e))).trans (hb.block k hk)⟩
end
theorem okN_in {c k n : Int} (h : okN c k n = true) : (k = 1 ∨ k = 2) ∧ 0 ≤ n ∧ n ≤ 1000 := by
  simp only [okN, Bool.and_eq_true, decide_eq_true_eq] at h
  exact ⟨h.1.2, h.2⟩
set_option maxHeartbeats 400000 in
theorem new_no {w : World} {K : Nat → Prop} {m : Nat} {E : Mem} (h : MemB K w m E) (c k n : Int) (hc : In64 c) (hk : In64 k) (hn : okN c k n = false) :
    Calls Try.prog 30 #[.pointer (some ⟨m, 0, none⟩), .int .i64 c, .int .i64 k, .int .i64 n] w (NewPost K m E 0 2 w) := by
  have HB : Hid (Calls Try.prog 39 #[.int .i64 c, .int .i64 k, .int .i64 n] w fun e w1 => e = .returned (.tuple #[.agg #[.int .i64 0, .int .i64 0, .slice none 0 0, .slice none 0 0], .bool false]) ∧ Below w.heap.size w w1) := Lib.hid ((blank_any c k n w hc hk).mono fun e w1 hp => by
    rcases hp with ⟨h1, _⟩ | ⟨_, h2⟩
    · rw [hn] at h1; cases h1
    · exact h2)
  have HM : Hid (∀ w1, Below w.heap.size w w1 → MemB K w1 m E) := fun w1 hb => h.fresh hb
  clear h hn
  go_enter Try.func30, Try.ntmps30
  go_wp2_with (go_at_call 39; refine HB.out.mono ?_; rintro e' w1 ⟨rfl, hb⟩; have K1 := Lib.hid hb)
  go_ret2
  exact ⟨rfl, HM.out _ (K1.out.trans ((below_new w1 _).mono K1.out.size)), Keeps.of_below (K1.out.trans ((below_new w1 _).mono K1.out.size))⟩

set_option maxHeartbeats 4000000 in
theorem new_some {w : World} {K : Nat → Prop} {m : Nat} {b : Nat} {nv : Value} {L : List (Option En)} (h : MemR w K m (some b) nv L) (hfew : L.length < 1000000) (c k : Int) (n : Nat) (hc : In64 c) (hk : In64 k) (hn : okN c k n = true) :
    Calls Try.prog 30 #[.pointer (some ⟨m, 0, none⟩), .int .i64 c, .int .i64 k, .int .i64 n] w (NewPost K m (mapO En.o L ++ [some (blk c k n)]) (2 * ((L.length : Int) + 1)) 0 w) := by
  have HB : Hid (Calls Try.prog 39 #[.int .i64 c, .int .i64 k, .int .i64 n] w fun e w1 => ∃ rv a1 n1 c1 a2 n2 c2, e = .returned (.tuple #[.agg #[.int .i64 c, .int .i64 k, .slice a1 n1 c1, .slice a2 n2 c2], .bool true]) ∧ Hid (En.val ⟨blk c k n, rv⟩ = .agg #[.int .i64 c, .int .i64 k, .slice a1 n1 c1, .slice a2 n2 c2] ∧ En.Row w1 ⟨blk c k n, rv⟩ ∧ (∀ g, rv.ownBlock = some g → w.heap.size ≤ g)) ∧ Below w.heap.size w w1) := Lib.hid ((blank_any c k n w hc hk).mono fun e w1 hp => by
    rcases hp with ⟨_, rv, rfl, h2, h3, h4⟩ | ⟨h1, _⟩
    · rw [Int.toNat_natCast] at h2 ⊢
      obtain ⟨a1, n1, c1, a2, n2, c2, hv⟩ := h2.form
      exact ⟨rv, a1, n1, c1, a2, n2, c2, by rw [hv]; rfl, ⟨hv, h2, h3⟩, h4⟩
    · rw [hn] at h1; cases h1)
  obtain ⟨an, cn, rfl⟩ := own_form h.nums
  have HH := Lib.hid h
  have q0 := h.c0
  have q1 := h.c1
  have q2 := h.c2
  have qf := h.fz
  have hlt := h.lt
  have hq : IntKind.i64.wrap ((L.length : Int) + 1) = (L.length : Int) + 1 := by rw [IntKind.wrap_i64]; omega
  have HO := Lib.hid (fun w => oop_is ((L.length : Int) + 1) w (by omega) (by omega))
  have HF := Lib.hid hfew
  have hqm : ∀ (w : World) (r : Option Nat), (binOp .eql 73 (.map r) (.map none)).run Try.prog w = .ok (.bool r.isNone) w := fun w r => run_eql_map_nil w _ _ _ r Try.underlying73
  obtain ⟨i0, hi0, hz0, hz1, hz2⟩ := info_parts Try.info3
  have hmm := @run_makeMap Try.prog
  clear h hn hfew hc hk
  go_enter Try.func30, Try.ntmps30
  go_wp2_with (go_at_call 39; refine HB.out.mono ?_; rintro e w1 ⟨rv, a1, n1, c1, a2, n2, c2, rfl, ha, hb⟩; have K1 := Lib.hid hb; have r0 := (hb.cell (p := ⟨m, 0, none⟩) hlt).trans q0; have r1 := (hb.cell (p := ⟨m, 1, none⟩) hlt).trans q1; have r2 := (hb.cell (p := ⟨m, 2, none⟩) hlt).trans q2; have rf := fun j => (hb.frozen (p := ⟨m, j, none⟩) hlt).trans (qf j); have hl1 := Nat.lt_of_lt_of_le hlt hb.size)
  obtain ⟨hv, hrow, hown⟩ := ha.out
  have S0 := HH.out.news hb hrow hown (x := c) (y := k) (z := .slice a1 n1 c1) (u := .slice a2 n2 c2) rfl
  generalize ((w1.setCell ⟨m, 0, none⟩ (.int .i64 ((L.length : Int) + 1))).alloc (.cells #[.int .i64 c, .int .i64 k, .slice a1 n1 c1, .slice a2 n2 c2] 33)) = wr at S0 ⊢
  have hr : ∀ g, (some b) = some g → g < w.heap.size := fun g hg => (HH.out.new_lt g (.inr (.inl hg))).1
  have hL := HF.out
  obtain ⟨w2, hst, S2⟩ := S0.drew.store hr (by omega) ((L.length : Int) + 1) (w64_of (by omega) (by omega)) (.agg #[.int .i64 c, .int .i64 k, .slice a1 n1 c1, .slice a2 n2 c2])
  have S1 := Lib.hid S0
  obtain ⟨x0, x1, x2, xf, ⟨⟨p0, p1, p2, p3⟩, pf, _⟩, _⟩ := S0
  generalize w1.heap.size = bx at *
  clear q0 q1 q2 qf r0 r1 r2 rf hb hrow hown hl1 HB hr
  go_still_tail 9, (by kernel_rfl)
  change wpList _ _ _ _ _ wr.drew
  go_wp2_with fail
  have S3 := Lib.hid S2
  clear S2 hst x0 x1 x2 xf p0 p1 p2 p3 pf
  obtain ⟨x0, x1, x2, xf, _⟩ := S3.out
  have NU := S3.out.drew.nums
  have K2 : Hid (∀ w3 o, (w2.drew.alloc o).grownBy w3 (Value.slice an (ids L).length cn).ownBlock → w3.cell? ⟨m, 2, none⟩ = some (.slice an (ids L).length cn) ∧ w3.frozen? ⟨m, 2, none⟩ = false ∧ w3.cell? ⟨m, 0, none⟩ = some (.int .i64 ((L.length : Int) + 1))) := fun w3 o hg => by
    have o1 : Only (fun g => (Value.slice an (ids L).length cn).ownBlock = some g) w2 w3 := ⟨hg.os, hg.tape, hg.output, by have := hg.size; simp at this; omega, fun k hk hn => (hg.block k (by simp; omega) (fun e => hn e.symm)).trans (Below.heap_alloc w2.drew o k hk)⟩
    have hmn : ¬ (Value.slice an (ids L).length cn).ownBlock = some m := fun e => HH.out.offn m e rfl
    exact ⟨(o1.cell (p := ⟨m, 2, none⟩) S3.out.lt hmn).trans S3.out.c2, (o1.frozen (p := ⟨m, 2, none⟩) S3.out.lt hmn).trans (S3.out.fz 2), (o1.cell (p := ⟨m, 0, none⟩) S3.out.lt hmn).trans S3.out.c0⟩
  have hm2 : m < w2.heap.size := S3.out.lt
  have hid : (ids L).length ≤ 1000000 := by have := ids_le L; omega
  have HV := Lib.hid hv
  clear hv hmm hqm
  go_region_law (first | (refine step_append_lies _ (by rfl) _ _ _ (by rfl) 0 3 i0 (.int .i64 0) 1 8 Try.underlying30 hi0 hz0 hz1 hz2 rfl (by omega) _ (ids L).length ((ids L).map (Value.int .i64)) (by rfl) (NU.alloc _) ⟨w2.heap.size, 0, none⟩ 1 1 [.int .i64 ((L.length : Int) + 1)] (by rfl) (by rfl) (World.news_of_block (cs := #[.int .i64 ((L.length : Int) + 1)]) (t := 3) (fr := (0, 0)) (heap_alloc_new w2.drew _)) (by simp [Value.oneCell']) (by omega) (by unfold maxLen; omega) (by omega) (by simp) (w2.heap.size + 1) (by simp) ?_; intro gg cap' w3 hown3 hgrow hat hlt3; obtain ⟨q3, f3, z3⟩ := K2.out w3 _ hgrow))
  all_goals (
    have S4 : NewS w w2.drew m b bx (some b) (.slice an (ids L).length cn) L ⟨blk c k n, rv⟩ c k (.slice a1 n1 c1) (.slice a2 n2 c2) (L.length + 1) (putM (fun i => (at_ L i).map En.val) ((L.length : Int) + 1) (En.val ⟨blk c k n, rv⟩)) := by
      rw [HV.out]
      exact S3.out.drew
    obtain ⟨M, O⟩ := S4.last HH.out hL hgrow hown3 hat
    have HM := Lib.hid M
    have HK := Lib.hid (HH.out.keeps O)
    clear M O S4 hgrow hown3 hat NU K2
    go_simp
    go_wp2_with (go_at_call 59; refine (HO.out _).mono ?_; rintro e' w4 ⟨rfl, rfl⟩)
    go_ret2
    exact ⟨rfl, ⟨_, _, _, HM.out, by rw [mapO_push]; rfl⟩, HK.out⟩)

set_option maxHeartbeats 4000000 in
theorem new_none {w : World} {K : Nat → Prop} {m : Nat} {nv : Value} {L : List (Option En)} (h : MemR w K m none nv L) (hfew : L.length < 1000000) (c k : Int) (n : Nat) (hc : In64 c) (hk : In64 k) (hn : okN c k n = true) :
    Calls Try.prog 30 #[.pointer (some ⟨m, 0, none⟩), .int .i64 c, .int .i64 k, .int .i64 n] w (NewPost K m (mapO En.o L ++ [some (blk c k n)]) (2 * ((L.length : Int) + 1)) 0 w) := by
  have HB : Hid (Calls Try.prog 39 #[.int .i64 c, .int .i64 k, .int .i64 n] w fun e w1 => ∃ rv a1 n1 c1 a2 n2 c2, e = .returned (.tuple #[.agg #[.int .i64 c, .int .i64 k, .slice a1 n1 c1, .slice a2 n2 c2], .bool true]) ∧ Hid (En.val ⟨blk c k n, rv⟩ = .agg #[.int .i64 c, .int .i64 k, .slice a1 n1 c1, .slice a2 n2 c2] ∧ En.Row w1 ⟨blk c k n, rv⟩ ∧ (∀ g, rv.ownBlock = some g → w.heap.size ≤ g)) ∧ Below w.heap.size w w1) := Lib.hid ((blank_any c k n w hc hk).mono fun e w1 hp => by
    rcases hp with ⟨_, rv, rfl, h2, h3, h4⟩ | ⟨h1, _⟩
    · rw [Int.toNat_natCast] at h2 ⊢
      obtain ⟨a1, n1, c1, a2, n2, c2, hv⟩ := h2.form
      exact ⟨rv, a1, n1, c1, a2, n2, c2, by rw [hv]; rfl, ⟨hv, h2, h3⟩, h4⟩
    · rw [hn] at h1; cases h1)
  obtain ⟨an, cn, rfl⟩ := own_form h.nums
  have HH := Lib.hid h
  have q0 := h.c0
  have q1 := h.c1
  have q2 := h.c2
  have qf := h.fz
  have hlt := h.lt
  have hq : IntKind.i64.wrap ((L.length : Int) + 1) = (L.length : Int) + 1 := by rw [IntKind.wrap_i64]; omega
  have HO := Lib.hid (fun w => oop_is ((L.length : Int) + 1) w (by omega) (by omega))
  have HF := Lib.hid hfew
  have hqm : ∀ (w : World) (r : Option Nat), (binOp .eql 73 (.map r) (.map none)).run Try.prog w = .ok (.bool r.isNone) w := fun w r => run_eql_map_nil w _ _ _ r Try.underlying73
  obtain ⟨i0, hi0, hz0, hz1, hz2⟩ := info_parts Try.info3
  have hmm := @run_makeMap Try.prog
  clear h hn hfew hc hk
  go_enter Try.func30, Try.ntmps30
  go_wp2_with (go_at_call 39; refine HB.out.mono ?_; rintro e w1 ⟨rv, a1, n1, c1, a2, n2, c2, rfl, ha, hb⟩; have K1 := Lib.hid hb; have r0 := (hb.cell (p := ⟨m, 0, none⟩) hlt).trans q0; have r1 := (hb.cell (p := ⟨m, 1, none⟩) hlt).trans q1; have r2 := (hb.cell (p := ⟨m, 2, none⟩) hlt).trans q2; have rf := fun j => (hb.frozen (p := ⟨m, j, none⟩) hlt).trans (qf j); have hl1 := Nat.lt_of_lt_of_le hlt hb.size)
  obtain ⟨hv, hrow, hown⟩ := ha.out
  have S0 := HH.out.news0 hb hrow hown (x := c) (y := k) (z := .slice a1 n1 c1) (u := .slice a2 n2 c2)
  generalize ((((w1.setCell ⟨m, 1, none⟩ (.map (some (w1.heap.size + 1)))).setCell ⟨m, 0, none⟩ (.int .i64 ((L.length : Int) + 1))).alloc (.cells #[.int .i64 c, .int .i64 k, .slice a1 n1 c1, .slice a2 n2 c2] 33)).alloc (.map #[] 0)) = wr at S0 ⊢
  have hr : ∀ g, (none : Option Nat) = some g → g < w.heap.size := fun g hg => (HH.out.new_lt g (.inr (.inl hg))).1
  have hL := HF.out
  obtain ⟨w2, hst, S2⟩ := S0.drew.store hr (by omega) ((L.length : Int) + 1) (w64_of (by omega) (by omega)) (.agg #[.int .i64 c, .int .i64 k, .slice a1 n1 c1, .slice a2 n2 c2])
  have S1 := Lib.hid S0
  obtain ⟨x0, x1, x2, xf, ⟨⟨p0, p1, p2, p3⟩, pf, _⟩, _⟩ := S0
  generalize w1.heap.size = bx at *
  clear q0 q1 q2 qf r0 r1 r2 rf hb hrow hown hl1 HB hr
  go_still_tail 9, (by kernel_rfl)
  change wpList _ _ _ _ _ wr.drew
  go_wp2_with fail
  have S3 := Lib.hid S2
  clear S2 hst x0 x1 x2 xf p0 p1 p2 p3 pf
  obtain ⟨x0, x1, x2, xf, _⟩ := S3.out
  have NU := S3.out.drew.nums
  have K2 : Hid (∀ w3 o, (w2.drew.alloc o).grownBy w3 (Value.slice an (ids L).length cn).ownBlock → w3.cell? ⟨m, 2, none⟩ = some (.slice an (ids L).length cn) ∧ w3.frozen? ⟨m, 2, none⟩ = false ∧ w3.cell? ⟨m, 0, none⟩ = some (.int .i64 ((L.length : Int) + 1))) := fun w3 o hg => by
    have o1 : Only (fun g => (Value.slice an (ids L).length cn).ownBlock = some g) w2 w3 := ⟨hg.os, hg.tape, hg.output, by have := hg.size; simp at this; omega, fun k hk hn => (hg.block k (by simp; omega) (fun e => hn e.symm)).trans (Below.heap_alloc w2.drew o k hk)⟩
    have hmn : ¬ (Value.slice an (ids L).length cn).ownBlock = some m := fun e => HH.out.offn m e rfl
    exact ⟨(o1.cell (p := ⟨m, 2, none⟩) S3.out.lt hmn).trans S3.out.c2, (o1.frozen (p := ⟨m, 2, none⟩) S3.out.lt hmn).trans (S3.out.fz 2), (o1.cell (p := ⟨m, 0, none⟩) S3.out.lt hmn).trans S3.out.c0⟩
  have hm2 : m < w2.heap.size := S3.out.lt
  have hid : (ids L).length ≤ 1000000 := by have := ids_le L; omega
  have HV := Lib.hid hv
  clear hv hmm hqm
  go_region_law (first | (refine step_append_lies _ (by rfl) _ _ _ (by rfl) 0 3 i0 (.int .i64 0) 1 8 Try.underlying30 hi0 hz0 hz1 hz2 rfl (by omega) _ (ids L).length ((ids L).map (Value.int .i64)) (by rfl) (NU.alloc _) ⟨w2.heap.size, 0, none⟩ 1 1 [.int .i64 ((L.length : Int) + 1)] (by rfl) (by rfl) (World.news_of_block (cs := #[.int .i64 ((L.length : Int) + 1)]) (t := 3) (fr := (0, 0)) (heap_alloc_new w2.drew _)) (by simp [Value.oneCell']) (by omega) (by unfold maxLen; omega) (by omega) (by simp) (w2.heap.size + 1) (by simp) ?_; intro gg cap' w3 hown3 hgrow hat hlt3; obtain ⟨q3, f3, z3⟩ := K2.out w3 _ hgrow))
  all_goals (
    have S4 : NewS w w2.drew m (bx + 1) bx (none : Option Nat) (.slice an (ids L).length cn) L ⟨blk c k n, rv⟩ c k (.slice a1 n1 c1) (.slice a2 n2 c2) (L.length + 1) (putM (fun i => (at_ L i).map En.val) ((L.length : Int) + 1) (En.val ⟨blk c k n, rv⟩)) := by
      rw [HV.out]
      exact S3.out.drew
    obtain ⟨M, O⟩ := S4.last HH.out hL hgrow hown3 hat
    have HM := Lib.hid M
    have HK := Lib.hid (HH.out.keeps O)
    clear M O S4 hgrow hown3 hat NU K2
    go_simp
    go_wp2_with (go_at_call 59; refine (HO.out _).mono ?_; rintro e' w4 ⟨rfl, rfl⟩)
    go_ret2
    exact ⟨rfl, ⟨_, _, _, HM.out, by rw [mapO_push]; rfl⟩, HK.out⟩)

/-- One object more, or none. -/
theorem new_any {w : World} {K : Nat → Prop} {m : Nat} {E : Mem} (h : MemB K w m E) (hfew : E.length < 1000000) (c k n : Int) (hc : In64 c) (hk : In64 k) :
    Calls Try.prog 30 #[.pointer (some ⟨m, 0, none⟩), .int .i64 c, .int .i64 k, .int .i64 n] w (NewPost K m (newF E c k n) (newN E c k n) (newE c k n) w) := by
  cases hn : okN c k n with
  | false =>
    simp only [newF, newN, newE, hn]
    exact new_no h c k n hc hk hn
  | true =>
    obtain ⟨_, h0, h1⟩ := okN_in hn
    obtain ⟨q, rfl⟩ := Int.eq_ofNat_of_zero_le h0
    simp only [newF, newN, newE, hn, if_true, Int.toNat_natCast]
    obtain ⟨r, nv, L, h, rfl⟩ := h
    rw [mapO_len] at hfew ⊢
    cases r with
    | none => exact new_none h hfew c k q hc hk hn
    | some b => exact new_some h hfew c k q hc hk hn
end Go.Proofs.Ytmaeoefimkppoaa.Fl
