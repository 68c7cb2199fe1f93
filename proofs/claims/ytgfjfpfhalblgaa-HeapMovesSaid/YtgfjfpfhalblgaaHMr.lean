/- What stands while the law HeapMoves reads all blocks, and what it knows of each behind the compactions. -/
import Derived.Test.YtgfjfpfhalblgaaHMd
import Derived.Test.YtgfjfpfhalblgaaHWs
namespace Go.Proofs.Ytgfjfpfhalblgaa
set_option maxRecDepth 1000000
open Go.ChangeShapes Go.WideShapes Go.ChangeAt Go.RowKit

section
variable {W0 w w' : World} {c : Hp} {v u iv wv av x : Value} {n b1 b0 j : Nat} {B : List (Option Bk)} {us : List Value}
theorem HeapB.grown (h : HeapB W0 w c v n B) (hg : w.grownBy w' u.ownBlock) (hu : ∀ b, u.ownBlock = some b → b0 ≤ b) (hF : ∀ b, HF c v b → b < b0) : HeapB W0 w' c v n B := by
  have o : Only (fun b => u.ownBlock = some b) w w' := Only.grown (Only.refl _ _) hg (fun k hk => .inl hk)
  refine ⟨h.is.only o (fun k hk e => by have := hu k e; have := hF k hk; omega), h.fr, h.bl.trans (o.below (B := W0.heap.size) (fun i hi e => ?_) h.bl.size)⟩
  have := hu i e
  have := h.fr c.x (.inl rfl)
  have := hF c.x (.inl rfl)
  omega
/-- While the blocks are read. -/
structure RdAt (W0 w : World) (c : Hp) (v : Value) (n : Nat) (B : List (Option Bk)) (b1 b0 : Nat) (iv : Value) (us : List Value) (j : Nat) (wv av : Value) : Prop where
  hp : HeapB W0 w c v n B
  ids : Ints (fun b => b1 ≤ b ∧ b < b0) w iv ((idsB B).map fun (k : Nat) => (k : Int))
  kp : Kept w b0 B (idsB B) us j wv av
  le : b0 ≤ w.heap.size
  hf : ∀ b, HF c v b → b < b1
  bb : b1 ≤ b0
theorem RdAt.fresh (h : RdAt W0 w c v n B b1 b0 iv us j wv av) (b : Below w.heap.size w w') : RdAt W0 w' c v n B b1 b0 iv us j wv av :=
  ⟨h.hp.fresh b, ints_kept h.ids b, h.kp.fresh b, Nat.le_trans h.le b.size, h.hf, h.bb⟩
theorem RdAt.was {wv' : Value} (h : RdAt W0 w c v n B b1 b0 iv us j wv av) (hu : Ints (KeepN b0 wv av) w u (wordsB B ((idsB B).getD us.length 0))) (own : w'.ownsRow b0 29 1 wv' (us.length + 1) (us ++ [u])) (hg : w.grownBy w' wv.ownBlock)
    (hat : wv'.ownBlock = wv.ownBlock ∨ wv'.ownBlock = some w.heap.size) : RdAt W0 w' c v n B b1 b0 iv (us ++ [u]) j wv' av := by
  have hb : ∀ b, wv.ownBlock = some b → b0 ≤ b := fun b e => (h.kp.rows.lt b e).1
  refine ⟨h.hp.grown hg hb (fun b k => by have := h.hf b k; have := h.bb; omega), ?_, h.kp.was hu own hg hat, Nat.le_trans h.le (by obtain ⟨_, _, _, hs, _⟩ := hg; exact hs), h.hf, h.bb⟩
  exact h.ids.only (Only.grown (Only.refl _ _) hg (fun k hk => .inl hk)) (fun b hN e => by have := hb b e; omega)
theorem RdAt.at_ {av' : Value} {k : Nat} (h : RdAt W0 w c v n B b1 b0 iv us j wv av) (hk : (idsB B)[j]? = some k) (own : w'.ownsRow b0 3 1 av' (j + 1) ((((idsB B).take j).map fun k => .int .i64 (spA (look B k))) ++ [.int .i64 (spA (look B k))])) (hg : w.grownBy w' av.ownBlock)
    (hat : av'.ownBlock = av.ownBlock ∨ av'.ownBlock = some w.heap.size) : RdAt W0 w' c v n B b1 b0 iv us (j + 1) wv av' := by
  have hb : ∀ b, av.ownBlock = some b → b0 ≤ b := fun b e => (h.kp.pls.lt b e).1
  refine ⟨h.hp.grown hg hb (fun b k => by have := h.hf b k; have := h.bb; omega), ?_, h.kp.at_ hk own hg hat, Nat.le_trans h.le (by obtain ⟨_, _, _, hs, _⟩ := hg; exact hs), h.hf, h.bb⟩
  exact h.ids.only (Only.grown (Only.refl _ _) hg (fun k hk => .inl hk)) (fun b hN e => by have := hb b e; omega)
theorem RdAt.seen (h : RdAt W0 w c v n B b1 b0 iv us j wv av) (hj : j = (idsB B).length) (hu : us.length = j) : Seen w b1 B (idsB B) iv wv av := by
  have hb := h.bb
  refine ⟨Vals.kind h.ids (fun b _ hN => hN.1), ⟨us, by omega, Vals.kind (Vals.of_own h.kp.rows) (fun b _ hN => by omega), fun i u hx => Vals.kind (h.kp.each i u hx) fun b _ hN => by have := hN.1; omega⟩, ?_⟩
  have hp := h.kp.pls
  rw [hj, List.take_length] at hp
  have e : ((idsB B).map fun k => spA (look B k)).map (Value.int .i64) = (idsB B).map fun k => Value.int .i64 (spA (look B k)) := by rw [List.map_map]; rfl
  rw [Ints, e]
  have hl : (idsB B).length = ((idsB B).map fun k => Value.int .i64 (spA (look B k))).length := (List.length_map _).symm
  rw [hl] at hp
  exact Vals.kind (Vals.of_own hp) (fun b _ hN => by omega)
theorem RdAt.keep {M : Nat → Prop} {ws : List Int} (h : RdAt W0 w c v n B b1 b0 iv us j wv av) (hi : Ints (fun b => w.heap.size ≤ b ∧ M b) w' u ws) : Ints (KeepN b0 wv av) w' u ws :=
  Vals.kind hi fun b _ hN => ⟨Nat.le_trans h.le hN.1, fun e => by have := (h.kp.rows.lt b e).2; omega, fun e => by have := (h.kp.pls.lt b e).2; omega⟩
theorem ids_cast {l : List Nat} {i K : Nat} (h : l[i]? = some K) : (l.map fun (k : Nat) => (k : Int)).getD i 0 = K := by simp [List.getD, List.getElem?_map, h]
theorem ids_cell {N : Nat → Prop} {a : Option Addr} {q cp i K : Nat} {l : List Nat} (h : Ints N w (.slice a q cp) (l.map fun (k : Nat) => (k : Int))) (hK : l[i]? = some K) : ∃ g o, a = some ⟨g, o, none⟩ ∧ w.cell? ⟨g, o + i, none⟩ = some (.int .i64 (K : Nat)) := by
  obtain ⟨g, o, c, e, hc⟩ := ints_cell h (k := i) (by rw [List.length_map]; exact (List.getElem?_eq_some_iff.1 hK).1)
  injection e with e1
  rw [ids_cast hK] at hc
  exact ⟨g, o, e1, hc⟩
theorem gave_ints {base : Nat} {l : List Nat} (h : w.ownsRow base 3 1 u l.length (valsN l)) : Ints (fun b => base ≤ b ∧ b < w.heap.size) w u (l.map fun (k : Nat) => (k : Int)) := by
  have e : (l.map fun (k : Nat) => (k : Int)).map (Value.int .i64) = valsN l := by rw [List.map_map]; rfl
  rw [Ints, e]
  have hl : l.length = (valsN l).length := (valsN_len l).symm
  rw [hl] at h
  exact Vals.kind (Vals.of_own h) (fun b hb hN => ⟨hN, hb⟩)
theorem Seen.all {a1 a2 a3 : Option Addr} {q c1 c2 c3 i K a r : Nat} {l : List Nat} {ws : List Int} (h : Seen w b0 B l (.slice a1 q c1) (.slice a2 q c2) (.slice a3 q c3)) (hK : l[i]? = some K) (hb : look B K = some ⟨a, ws⟩) (hr : ws.length = r) :
    ∃ g1 o1 g2 o2 g3 o3 au cu, a1 = some ⟨g1, o1, none⟩ ∧ a2 = some ⟨g2, o2, none⟩ ∧ a3 = some ⟨g3, o3, none⟩ ∧ (∀ w', Below w.heap.size w w' →
      w'.cell? ⟨g1, o1 + i, none⟩ = some (.int .i64 (K : Nat)) ∧ w'.cell? ⟨g2, o2 + i, none⟩ = some (.slice au r cu) ∧ w'.cell? ⟨g3, o3 + i, none⟩ = some (.int .i64 (a : Nat))) ∧
      ∀ t, t < r → ∃ g o, au = some ⟨g, o, none⟩ ∧ ∀ w', Below w.heap.size w w' → w'.cell? ⟨g, o + t, none⟩ = some (.int .i64 (ws.getD t 0)) := by
  subst hr
  obtain ⟨hi, hKe⟩ := List.getElem?_eq_some_iff.1 hK
  have hd : l.getD i 0 = K := by rw [List.getD, hK]; rfl
  obtain ⟨g1, o1, d1, g2, o2, d2, g3, o3, d3, au, cu, e1, e2, e3, k1, k2, k3, hu⟩ := h.at_ hi
  rw [hd, wordsB_some hb] at k2 hu
  rw [hd] at k1
  rw [hd, hb] at k3
  injection e1 with e1
  injection e2 with e2
  injection e3 with e3
  have l1 := World.block_lt_of_cell? _ _ k1
  have l2 := World.block_lt_of_cell? _ _ k2
  have l3 := World.block_lt_of_cell? _ _ k3
  refine ⟨g1, o1, g2, o2, g3, o3, au, cu, e1, e2, e3, fun w' hb => ⟨(hb.cell (p := ⟨g1, _, none⟩) l1).trans k1, (hb.cell (p := ⟨g2, _, none⟩) l2).trans k2, (hb.cell (p := ⟨g3, _, none⟩) l3).trans k3⟩, fun t ht => ?_⟩
  obtain ⟨g, o, c, e, hc⟩ := ints_cell hu ht
  injection e with e
  have l4 := World.block_lt_of_cell? _ _ hc
  exact ⟨g, o, e, fun w' hb => (hb.cell (p := ⟨g, _, none⟩) l4).trans hc⟩
end
section
variable {w0 w : World} {c : Hp} {v : Value} {n : Nat} {B : List (Option Bk)}
/-- The j-th block that there is. -/
theorem ids_at {j : Nat} (h : j < (idsB B).length) : ∃ (K : Nat) (b : Bk), (idsB B).getD j 0 = K ∧ (idsB B)[j]? = some K ∧ look B K = some b := by
  have e : (idsB B)[j]? = some ((idsB B).getD j 0) := by rw [List.getD, List.getElem?_eq_getElem h]; rfl
  obtain ⟨b, hb⟩ := ids_mem.1 (List.mem_of_getElem? e)
  exact ⟨_, b, rfl, e, hb⟩
theorem size_at {K : Nat} {b : Bk} (h : HeapB w0 w c v n B) (hb : look B K = some b) : Calls Try.prog 15 #[.pointer (some ⟨c.h, 0, none⟩), .int .i64 K] w (Told (.int .i64 (b.ws.length : Nat)) w) := by
  have := size_any K h.is.m
  rw [lookI_nat, hb] at this
  exact this
theorem at_at {K : Nat} {b : Bk} (h : HeapB w0 w c v n B) (hb : look B K = some b) : Calls Try.prog 17 #[.pointer (some ⟨c.h, 0, none⟩), .int .i64 K] w (Told (.int .i64 (b.a : Nat)) w) := by
  have := at_any K h.is.m
  rw [lookI_nat, hb] at this
  exact this
theorem read_at {K t : Nat} {b : Bk} (h : HeapB w0 w c v n B) (hb : look B K = some b) (ht : t < b.ws.length) : Calls Try.prog 16 #[.pointer (some ⟨c.h, 0, none⟩), .int .i64 K, .int .i64 t] w (Told (.tuple #[.int .i64 (b.ws.getD t 0), .int .i64 0]) w) := by
  have h1 := read_some h.is.m hb ht (h.is.good.fits K b hb)
  rw [h.is.good.in_ hb ht] at h1
  exact h1
theorem room_at (h : HeapB w0 w c v n B) : Calls Try.prog 18 #[.pointer (some ⟨c.h, 0, none⟩)] w fun e w' => ∃ m : Nat, e = .returned (.tuple #[.int .i64 (cntF (wordAt B) n : Nat), .int .i64 m]) ∧ m ≤ cntF (wordAt B) n ∧ w = w' :=
  (room_any h.is.m).mono fun _ _ ⟨m, he, hl, hw⟩ => ⟨m, he, hl.cnt, hw⟩
theorem room_tight {B' : List (Option Bk)} {m : Nat} {S : List Nat} (h : HeapB w0 w c v n B') (hg : GoodB n B) (hc : CompIs n B B' m S) : Calls Try.prog 18 #[.pointer (some ⟨c.h, 0, none⟩)] w fun e w' => e = .returned (.tuple #[.int .i64 (cntF (wordAt B) n : Nat), .int .i64 (cntF (wordAt B) n : Nat)]) ∧ w = w' :=
  (room_any h.is.m).mono fun _ _ ⟨m, he, hl, hw⟩ => by
    obtain ⟨g1, g2⟩ := hc.room hg
    rw [hl.eq g2, g1] at he
    exact ⟨he, hw⟩
theorem Moved.each {B2 : List (Option Bk)} (h : Moved B B2) (hg : GoodB n B) {i : Nat} (hi : i < (idsB B).length) : ∃ (K a p r : Nat) (ws : List Int), (idsB B)[i]? = some K ∧ look B K = some ⟨a, ws⟩ ∧ look B2 K = some ⟨p, ws⟩ ∧ p ≤ a ∧ r ≤ n ∧ ws.length = r := by
  obtain ⟨K, ⟨a, ws⟩, _, hK, hb⟩ := ids_at hi
  obtain ⟨p, h1, h2⟩ := h.some_ K _ hb
  have := hg.fits K _ hb
  exact ⟨K, a, p, _, ws, hK, hb, h1, h2, by simp only at this; omega, rfl⟩
theorem Moved.order {B2 : List (Option Bk)} {K a p K' a' p' : Nat} {ws ws' : List Int} (h : Moved B B2) (h1 : look B K = some ⟨a, ws⟩) (h2 : look B2 K = some ⟨p, ws⟩) (k1 : look B K' = some ⟨a', ws'⟩) (k2 : look B2 K' = some ⟨p', ws'⟩) {r r' : Nat} (hr : ws.length = r) (hr' : ws'.length = r') (hp : 0 < r) (hp' : 0 < r') : p < p' ↔ a < a' := by
  subst hr hr'
  have := h.ord K K' (by rw [lenB_some h1]; exact hp) (by rw [lenB_some k1]; exact hp')
  rw [atB_some h1, atB_some h2, atB_some k1, atB_some k2] at this
  exact this
end
end Go.Proofs.Ytgfjfpfhalblgaa
